/-
  text.FromBech32: what a text says. Conditions: the listed table holds what its text lays.
-/
import Derived.Test.YtpaafkhlelljcaaDoorBcSplit
import Derived.Test.YtpaafkhlelljcaaDoorBcCut
namespace Go.Proofs.YtpaafkhlelljcaaDoor
open Go.RowKit

theorem results_tmp4 {fn : Func} {t u v x : Tmp} (h : fn.results = #[.tmp t, .tmp u, .tmp v, .tmp x]) (tmps : Array Value) (P : Program) (w : World) :
    (results fn tmps).run P w = .ok (.tuple #[tmps.getD t undef, tmps.getD u undef, tmps.getD v undef, tmps.getD x undef]) w := by
  simp [results, h]
/-- What reading answers, in memory. -/
def BechPost (w : World) (r : FromR) (e : Ending) (w' : World) : Prop :=
  ∃ v, e = .returned (.tuple #[.string ⟨r.h.toArray⟩, v, .bool r.m, .int .i64 r.e]) ∧ Byt w' w'.heap.size v r.d ∧ Below w.heap.size w w'
theorem vals_length {cs : List UInt8} (h : splitOk cs = true) : 6 ≤ (valsS cs).length ∧ ∀ v ∈ valsS cs, v.toNat < 32 := by
  unfold splitOk at h
  simp only [Bool.and_eq_true, decide_eq_true_eq] at h
  obtain ⟨_, _, _, h6, hk⟩ := h
  refine ⟨by unfold valsS; rw [placesB_length]; exact h6, fun v hv => ?_⟩
  unfold valsS placesB at hv
  obtain ⟨c, hc, rfl⟩ := List.mem_map.1 hv
  have hk2 := List.all_eq_true.1 hk c hc
  unfold knownB at hk2
  have hk0 : 0 ≤ posB l32 c := by simpa using hk2
  have hlt : posB l32 c < 32 := by
    obtain ⟨o, ho⟩ : ∃ o : Nat, posB l32 c = o := ⟨(posB l32 c).toNat, by omega⟩
    have h1 := (List.getElem?_eq_some_iff.1 (Lib.indexByte_some (l := l32.data.toList) (by exact ho)).1).1
    have h2 : l32.data.toList.length = 32 := by decide
    omega
  have := b8_toNat (posB l32 c)
  omega
theorem sum_eq (h v : List UInt8) (k : Nat) (hk : v.length = k + 6) (hs : ∀ x ∈ v, x.toNat < 32) (m : Bool) : (v.drop k == closeB h (v.take k) m) = decide (sumB h v = lastX m) := by
  have h6 : (v.drop k).length = 6 := by rw [List.length_drop]; omega
  have hi := close_iff h (v.take k) (v.drop k) m h6 (fun x hx => hs x (List.mem_of_mem_drop hx))
  rw [List.take_append_drop] at hi
  by_cases hq : sumB h v = lastX m
  · rw [decide_eq_true hq, beq_iff_eq]
    exact hi.2 hq
  · rw [decide_eq_false hq]
    exact beq_eq_false_iff_ne.2 fun e => hq (hi.1 e)
theorem sumR_lo {h v : List UInt8} (e : sumB h v = lastX false) : sumR h v = ⟨0, h, v.take (v.length - 6), false⟩ := by unfold sumR; rw [if_pos (show sumB h v = 1 from e)]
theorem sumR_hi {h v : List UInt8} (e0 : ¬ sumB h v = lastX false) (e : sumB h v = lastX true) : sumR h v = ⟨0, h, v.take (v.length - 6), true⟩ := by
  unfold sumR; rw [if_neg (show ¬ sumB h v = 1 from e0), if_pos (show sumB h v = 734539939 from e)]
theorem sumR_no {h v : List UInt8} (e0 : ¬ sumB h v = lastX false) (e : ¬ sumB h v = lastX true) : sumR h v = noR 5 := by
  unfold sumR; rw [if_neg (show ¬ sumB h v = 1 from e0), if_neg (show ¬ sumB h v = 734539939 from e)]

set_option maxRecDepth 100000 in
set_option maxHeartbeats 6400000 in
theorem frombech_any (s : ByteArray) (w : World) (hc : BechIs w) (hs : s.size ≤ 140737488355328) :
    Calls Tryd.prog 14 #[.string s] w (BechPost w (fromS s.data.toList)) := by
  have hhs : s.data.toList.length = s.size := rfl
  by_cases h1 : 90 < s.size
  · have hr := fromS_size (cs := s.data.toList) (by omega)
    rw [hr]
    have d1 : decide (90 < (s.size : Int)) = true := decide_eq_true (by omega)
    clear hr hhs h1
    go_enter Tryd.func14, Tryd.ntmps14
    go_wp2_with fail
    (try simp only [Exit.inBlock, Exit.then]); refine bodyPost_ret (results_tmp4 rfl _ _ _) rfl ?_
    exact ⟨_, rfl, Byt.nil _ _, Below.refl _ _⟩
  · have d1 : decide (90 < (s.size : Int)) = false := decide_eq_false (by omega)
    have SP := Lib.hid (split_any s w (by omega))
    cases hsp : splitOk s.data.toList with
    | false =>
      rw [fromS_form (by omega) hsp]
      have HSP := Lib.hid hsp
      clear hsp hhs h1
      go_enter Tryd.func14, Tryd.ntmps14
      go_wp2_with fail
      refine SP.out.mono ?_
      rintro e w1 ⟨hb1, ⟨ht, _⟩ | ⟨_, rfl⟩⟩
      · rw [HSP.out] at ht; cases ht
      · go_wp2_with fail
        (try simp only [Exit.inBlock, Exit.then]); refine bodyPost_ret (results_tmp4 rfl _ _ _) rfl ?_
        exact ⟨_, rfl, Byt.nil _ _, hb1⟩
    | true =>
      obtain ⟨h6, h32⟩ := vals_length hsp
      rw [fromS_sum (by omega) hsp]
      have hvl : (valsS s.data.toList).length ≤ 90 := by
        unfold valsS tailS
        rw [placesB_length, List.length_drop, lowS_length]
        omega
      obtain ⟨hd, hhd⟩ : ∃ hd, hd = headS s.data.toList := ⟨_, rfl⟩
      have hhl : hd.length ≤ 90 := by rw [hhd]; unfold headS; rw [List.length_take, lowS_length]; omega
      obtain ⟨vs, hvs⟩ : ∃ vs, vs = valsS s.data.toList := ⟨_, rfl⟩
      rw [← hvs] at h6 h32 hvl
      rw [← hvs, ← hhd]
      obtain ⟨n, hn⟩ : ∃ n, n = vs.length := ⟨_, rfl⟩
      obtain ⟨k, hk⟩ : ∃ k, n = k + 6 := ⟨n - 6, by omega⟩
      have hq := fun m => sum_eq hd vs k (by omega) h32 m
      obtain ⟨D, hD⟩ : ∃ D, D = vs.take k := ⟨_, rfl⟩
      obtain ⟨T, hT⟩ : ∃ T, T = vs.drop k := ⟨_, rfl⟩
      have hDk : vs.take (vs.length - 6) = D := by rw [hD]; congr 1; omega
      have hDl : D.length = k := by rw [hD, List.length_take]; omega
      have hTl : T.length = 6 := by rw [hT, List.length_drop]; omega
      simp only [← hD, ← hT] at hq
      obtain ⟨H, hH⟩ : ∃ H : ByteArray, H = ⟨hd.toArray⟩ := ⟨_, rfl⟩
      have hHs : H.size ≤ 90 := by rw [hH]; show hd.toArray.size ≤ 90; rw [List.size_toArray]; exact hhl
      have hHd : hd = H.data.toList := by rw [hH]
      have hlo : sumB hd vs = lastX false → sumR hd vs = ⟨0, hd, D, false⟩ := fun e => by rw [sumR_lo e, hDk]
      have hhi : ¬ sumB hd vs = lastX false → sumB hd vs = lastX true → sumR hd vs = ⟨0, hd, D, true⟩ := fun e0 e => by rw [sumR_hi e0 e, hDk]
      have hno : ¬ sumB hd vs = lastX false → ¬ sumB hd vs = lastX true → sumR hd vs = noR 5 := fun e0 e => sumR_no e0 e
      have hk84 : k ≤ 84 := by omega
      have HSP := Lib.hid hsp
      have HVS := Lib.hid hvs
      have HHD := Lib.hid hhd
      have HQ := Lib.hid hq
      have HLO := Lib.hid hlo
      have HHI := Lib.hid hhi
      have HNO := Lib.hid hno
      have HN := Lib.hid hn
      have HK := Lib.hid hk
      have HD := Lib.hid hD
      have HT := Lib.hid hT
      have HDL := Lib.hid hDl
      have HTL := Lib.hid hTl
      have HHH := Lib.hid hH
      have HHS := Lib.hid hHd
      have HC := Lib.hid hc
      have i0 : ∀ w, (Instr.index 66 (.agg #[.bool false, .bool true]) (.int .i64 0)).run Tryd.prog w = .ok (.bool false) w := fun _ => by kernel_rfl
      have i1 : ∀ w, (Instr.index 66 (.agg #[.bool false, .bool true]) (.int .i64 1)).run Tryd.prog w = .ok (.bool true) w := fun _ => by kernel_rfl
      clear hsp hhs h1 hvs hhd hq hlo hhi hno hk hD hT hDk hDl hTl hH hHd h32 hhl hvl hc
      go_enter Tryd.func14, Tryd.ntmps14
      go_wp2_with fail
      refine SP.out.mono ?_
      rintro e w1 ⟨hb1, ⟨_, v, rfl, hby⟩ | ⟨hf, _⟩⟩
      · rw [← HHD.out, ← HHH.out]
        rw [← HVS.out] at hby
        obtain ⟨A, c, rfl⟩ := hby.form
        have hcap := hby.cap
        have hs1 := hb1.size
        rw [← hn] at hby hcap ⊢
        have sa := run_tail A n c k (by have := HK.out; omega)
        have s3 := run_to3 A n c k (by have := HK.out; omega)
        obtain ⟨A2, hA2⟩ : ∃ A2, A2 = if c = k then A else A.map (fun x => x.add k) := ⟨_, rfl⟩
        have hnm : n - k = 6 := by have := HK.out; omega
        rw [← hA2, hnm] at sa
        rw [hn] at hby
        have tT : Byt w1 w1.heap.size (.slice A2 6 (c - k)) T := by
          have h := hby.tail (k := k) (by have := HK.out; omega)
          rw [← hA2, ← hn, hnm, ← HT.out] at h
          exact h
        have tM : Byt w1 w1.heap.size (.slice A k k) D := by
          have h := byt_cap hby (k := k) (by have := HK.out; omega)
          rw [← HD.out] at h
          exact h
        have TT := Lib.hid tT
        have TM := Lib.hid tM
        have HB1 := Lib.hid hb1
        have hw : IntKind.i64.wrap ((n : Int) - 6) = (k : Int) := by rw [IntWalk.i64_in _ (by omega)]; have := HK.out; omega
        have hn90 : n ≤ 90 := by have := HK.out; omega
        clear hby hb1 tT tM hA2 hnm hn SP
        go_wp2_with fail
        refine wp_region_held_drew (S := AnyW) (by kernel_rfl) ?_ (fun hHeld => ?_)
        · exact anyW _
        refine wpAnyH_take (i := 0) (oi := { dst := some 28, op := Go.Op.move (Go.Operand.tmp 7), type := 22, pos := "bech32.go:44", after := #[], guard := none }) (v := ?av0) rfl (by kernel_rfl) (by kernel_rfl) (by kernel_rfl) (fun _ _ _ h => h) (Or.inl ⟨by rfl, ?ay0⟩) (by assumption) ?ar0
        case ay0 => (intro w hSw; (try dsimp only at hSw); go_simp; try (with_reducible rfl))
        case ar0 =>
        try simp only [Act.put, List.setIfInBounds_toArray, List.set_cons_zero, List.set_cons_succ]
        refine wpAnyH_take (i := 1) (oi := { dst := some 29, op := Go.Op.move (Go.Operand.tmp 9), type := 3, pos := "bech32.go:44", after := #[], guard := none }) (v := ?av1) rfl (by kernel_rfl) (by kernel_rfl) (by kernel_rfl) (fun _ _ _ h => h) (Or.inl ⟨by rfl, ?ay1⟩) (by assumption) ?ar1
        case ay1 => (intro w hSw; (try dsimp only at hSw); go_simp; try (with_reducible rfl))
        case ar1 =>
        try simp only [Act.put, List.setIfInBounds_toArray, List.set_cons_zero, List.set_cons_succ]
        refine wpAnyH_take (i := 2) (oi := { dst := some 30, op := Go.Op.move (Go.Operand.tmp 9), type := 3, pos := "bech32.go:44", after := #[], guard := none }) (v := ?av2) rfl (by kernel_rfl) (by kernel_rfl) (by kernel_rfl) (fun _ _ _ h => h) (Or.inl ⟨by rfl, ?ay2⟩) (by assumption) ?ar2
        case ay2 => (intro w hSw; (try dsimp only at hSw); go_simp; try (with_reducible rfl))
        case ar2 =>
        try simp only [Act.put, List.setIfInBounds_toArray, List.set_cons_zero, List.set_cons_succ]
        refine wpAnyH_take (i := 3) (oi := { dst := some 31, op := Go.Op.slice 22 (Go.Operand.tmp 28) none (some (Go.Operand.tmp 29)) (some (Go.Operand.tmp 30)), type := 22, pos := "bech32.go:44", after := #[{ on := 0, ground := Go.Ground.data }, { on := 1, ground := Go.Ground.data }, { on := 2, ground := Go.Ground.data }], guard := none }) (v := (.slice A k k)) rfl (by kernel_rfl) (by kernel_rfl) (by kernel_rfl) (fun _ _ _ h => h) (Or.inl ⟨by rfl, ?ay3⟩) (by assumption) ?ar3
        case ay3 => (intro w hSw; (try dsimp only at hSw); go_simp; try (with_reducible rfl))
        case ar3 =>
        try simp only [Act.put, List.setIfInBounds_toArray, List.set_cons_zero, List.set_cons_succ]
        refine wpAnyH_take (i := 4) (oi := { dst := some 32, op := Go.Op.move (Go.Operand.tmp 7), type := 22, pos := "bech32.go:44", after := #[], guard := none }) (v := ?av4) rfl (by kernel_rfl) (by kernel_rfl) (by kernel_rfl) (fun _ _ _ h => h) (Or.inl ⟨by rfl, ?ay4⟩) (by assumption) ?ar4
        case ay4 => (intro w hSw; (try dsimp only at hSw); go_simp; try (with_reducible rfl))
        case ar4 =>
        try simp only [Act.put, List.setIfInBounds_toArray, List.set_cons_zero, List.set_cons_succ]
        refine wpAnyH_take (i := 5) (oi := { dst := some 33, op := Go.Op.move (Go.Operand.tmp 9), type := 3, pos := "bech32.go:44", after := #[], guard := none }) (v := ?av5) rfl (by kernel_rfl) (by kernel_rfl) (by kernel_rfl) (fun _ _ _ h => h) (Or.inl ⟨by rfl, ?ay5⟩) (by assumption) ?ar5
        case ay5 => (intro w hSw; (try dsimp only at hSw); go_simp; try (with_reducible rfl))
        case ar5 =>
        try simp only [Act.put, List.setIfInBounds_toArray, List.set_cons_zero, List.set_cons_succ]
        refine wpAnyH_take (i := 6) (oi := { dst := some 34, op := Go.Op.slice 22 (Go.Operand.tmp 32) (some (Go.Operand.tmp 33)) none none, type := 22, pos := "bech32.go:44", after := #[{ on := 4, ground := Go.Ground.data }, { on := 5, ground := Go.Ground.data }], guard := none }) (v := (.slice A2 6 (c - k))) rfl (by kernel_rfl) (by kernel_rfl) (by kernel_rfl) (fun _ _ _ h => h) (Or.inl ⟨by rfl, ?ay6⟩) (by assumption) ?ar6
        case ay6 => (intro w hSw; (try dsimp only at hSw); go_simp; try (with_reducible rfl))
        case ar6 =>
        try simp only [Act.put, List.setIfInBounds_toArray, List.set_cons_zero, List.set_cons_succ]
        refine wpAnyH_take (i := 7) (oi := { dst := some 10, op := Go.Op.assign (Go.Operand.tmp 31), type := 22, pos := "bech32.go:44", after := #[{ on := 3, ground := Go.Ground.data }, { on := 0, ground := Go.Ground.phase }, { on := 1, ground := Go.Ground.phase }, { on := 2, ground := Go.Ground.phase }, { on := 3, ground := Go.Ground.phase }, { on := 4, ground := Go.Ground.textOnly Go.Departure.lateStores }, { on := 5, ground := Go.Ground.textOnly Go.Departure.lateStores }, { on := 6, ground := Go.Ground.textOnly Go.Departure.lateStoresUnsure }], guard := none }) (v := ?av7) rfl (by kernel_rfl) (by kernel_rfl) (by kernel_rfl) (fun _ _ _ h => h) (Or.inl ⟨by rfl, ?ay7⟩) (by assumption) ?ar7
        case ay7 => (intro w hSw; (try dsimp only at hSw); go_simp; try (with_reducible rfl))
        case ar7 =>
        try simp only [Act.put, List.setIfInBounds_toArray, List.set_cons_zero, List.set_cons_succ]
        refine wpAnyH_take (i := 8) (oi := { dst := some 11, op := Go.Op.assign (Go.Operand.tmp 34), type := 22, pos := "bech32.go:44", after := #[{ on := 6, ground := Go.Ground.data }, { on := 7, ground := Go.Ground.chain }, { on := 0, ground := Go.Ground.phase }, { on := 1, ground := Go.Ground.phase }, { on := 2, ground := Go.Ground.phase }, { on := 3, ground := Go.Ground.phase }, { on := 4, ground := Go.Ground.phase }, { on := 5, ground := Go.Ground.phase }, { on := 6, ground := Go.Ground.phase }, { on := 7, ground := Go.Ground.phase }], guard := none }) (v := ?av8) rfl (by kernel_rfl) (by kernel_rfl) (by kernel_rfl) (fun _ _ _ h => h) (Or.inl ⟨by rfl, ?ay8⟩) (by assumption) ?ar8
        case ay8 => (intro w hSw; (try dsimp only at hSw); go_simp; try (with_reducible rfl))
        case ar8 =>
        try simp only [Act.put, List.setIfInBounds_toArray, List.set_cons_zero, List.set_cons_succ]
        refine wpAnyH_done (by kernel_rfl) ?_ _
        go_wp2_with fail
        clear sa s3
        go_loopw [36] (fun j wr => (j = .int .i64 0 ∨ (j = .int .i64 1 ∧ Hid (¬ sumB hd vs = lastX false)) ∨ (j = .int .i64 2 ∧ Hid (¬ sumB hd vs = lastX false) ∧ Hid (¬ sumB hd vs = lastX true))) ∧ Hid (Below w1.heap.size w1 wr)) (fun j _ => 2 - (intOf j).toNat)
        case atStart => exact ⟨.inl rfl, Lib.hid ⟨rfl, rfl, rfl, Nat.le_refl _, fun _ _ => rfl⟩⟩
        case round =>
          obtain ⟨rfl | ⟨rfl, HN0⟩ | ⟨rfl, HN0, HN1⟩, HBL⟩ := hrel
          · as_aux_lemma =>
              have hbs := HBL.out.size
              have S := sum32_any w1.heap.size H (.slice A k k) D false wr (HC.out.below (HB1.out.trans (HBL.out.mono hs1)) HC.out.1) (TM.out.below HBL.out) hbs (by omega) (by rw [HDL.out]; omega)
              rw [← HHS.out] at S
              have HSUM := Lib.hid S
              clear S
              go_wp2_with fail
              refine HSUM.out.mono ?_
              rintro e w2 ⟨g, rfl, hg, hrow, hb2⟩
              have hby2 := hrow.byt (n := 6) (c := 6) (by rw [closeB_length]; omega) (by omega) (by unfold maxLen; omega)
              rw [List.take_of_length_le (by rw [closeB_length]; omega)] at hby2
              have EQ := bequal_any w1.heap.size _ (.slice A2 6 (c - k)) (.slice (some ⟨g, 0, none⟩) 6 6) T (closeB hd D false) w2 (TT.out.below (HBL.out.trans (hb2.mono hbs))) hby2
              rw [HQ.out false] at EQ
              have HEQ := Lib.hid EQ
              have HB2 := Lib.hid (HBL.out.trans (hb2.mono hbs))
              clear EQ hby2 hrow hb2 HSUM
              go_wp2_with fail
              refine HEQ.out.mono ?_
              rintro e w3 ⟨rfl, rfl⟩
              by_cases hq : sumB hd vs = lastX false
              · rw [decide_eq_true hq]
                have HR := Lib.hid (HLO.out hq)
                clear hq
                go_wp2_with fail
                (try simp only [Exit.inBlock, Exit.then]); refine bodyPost_ret (results_tmp4 rfl _ _ _) rfl ?_
                exact ⟨.slice A k k, by rw [HR.out, HHH.out]; rfl, by rw [HR.out]; exact (TM.out.below HB2.out).more HB2.out.size, HB1.out.trans (HB2.out.mono hs1)⟩
              · rw [decide_eq_false hq]
                have HNE := Lib.hid hq
                clear hq
                go_wp2_with fail
                exact ⟨⟨.inr (.inl ⟨rfl, HNE⟩), HB2⟩, by simp [intOf]⟩
          · as_aux_lemma =>
              have hbs := HBL.out.size
              have S := sum32_any w1.heap.size H (.slice A k k) D true wr (HC.out.below (HB1.out.trans (HBL.out.mono hs1)) HC.out.1) (TM.out.below HBL.out) hbs (by omega) (by rw [HDL.out]; omega)
              rw [← HHS.out] at S
              have HSUM := Lib.hid S
              clear S
              go_wp2_with fail
              refine HSUM.out.mono ?_
              rintro e w2 ⟨g, rfl, hg, hrow, hb2⟩
              have hby2 := hrow.byt (n := 6) (c := 6) (by rw [closeB_length]; omega) (by omega) (by unfold maxLen; omega)
              rw [List.take_of_length_le (by rw [closeB_length]; omega)] at hby2
              have EQ := bequal_any w1.heap.size _ (.slice A2 6 (c - k)) (.slice (some ⟨g, 0, none⟩) 6 6) T (closeB hd D true) w2 (TT.out.below (HBL.out.trans (hb2.mono hbs))) hby2
              rw [HQ.out true] at EQ
              have HEQ := Lib.hid EQ
              have HB2 := Lib.hid (HBL.out.trans (hb2.mono hbs))
              clear EQ hby2 hrow hb2 HSUM
              go_wp2_with fail
              refine HEQ.out.mono ?_
              rintro e w3 ⟨rfl, rfl⟩
              by_cases hq : sumB hd vs = lastX true
              · rw [decide_eq_true hq]
                have HR := Lib.hid (HHI.out HN0.out hq)
                clear hq
                go_wp2_with fail
                (try simp only [Exit.inBlock, Exit.then]); refine bodyPost_ret (results_tmp4 rfl _ _ _) rfl ?_
                exact ⟨.slice A k k, by rw [HR.out, HHH.out]; rfl, by rw [HR.out]; exact (TM.out.below HB2.out).more HB2.out.size, HB1.out.trans (HB2.out.mono hs1)⟩
              · rw [decide_eq_false hq]
                have HNE := Lib.hid hq
                clear hq
                go_wp2_with fail
                exact ⟨⟨.inr (.inr ⟨rfl, HN0, HNE⟩), HB2⟩, by simp [intOf]⟩
          · as_aux_lemma =>
              have HR := Lib.hid (HNO.out HN0.out HN1.out)
              go_wp2_with fail
              (try simp only [Exit.inBlock, Exit.then]); refine bodyPost_ret (results_tmp4 rfl _ _ _) rfl ?_
              exact ⟨.slice none 0 0, by rw [HR.out]; rfl, by rw [HR.out]; exact Byt.nil _ _, HB1.out.trans (HBL.out.mono hs1)⟩
      · rw [HSP.out] at hf; cases hf
end Go.Proofs.YtpaafkhlelljcaaDoor
