/-
  Texts joined: BcFrom, BcRstep, Turn. Conditions: those of each.
-/
import Derived.Test.YtgiljhdjknglpaaDoorK7
import Derived.Test.YtgiljhdjknglpaaDoorK9
import Derived.Test.YtgiljhdjknglpaaDoorK4
import Derived.Test.YtgiljhdjknglpaaDoorK5
import Derived.Test.YtgiljhdjknglpaaDoorK2
/-
  text.FromBech32: what a text says. Conditions: the listed table holds what its text lays.
-/
namespace Go.Proofs.YtgiljhdjknglpaaDoor
open Go.RowKit

theorem results_tmp4 {fn : Func} {t u v x : Tmp} (h : fn.results = #[.tmp t, .tmp u, .tmp v, .tmp x]) (tmps : Array Value) (P : Program) (w : World) :
    (results fn tmps).run P w = .ok (.tuple #[tmps.getD t undef, tmps.getD u undef, tmps.getD v undef, tmps.getD x undef]) w := by
  simp [results, h]
/-- What reading answers, in memory. -/
def BechPost (w : World) (r : FromR) (e : Ending) (w' : World) : Prop :=
  ∃ v, e = .returned (.tuple #[.string ⟨r.h.toArray⟩, v, .bool r.m, .int .i64 r.e]) ∧ Byt w' w'.heap.size v r.d ∧ Below w.heap.size w w'
theorem vals_length {cs : List UInt8} (h : splitOk cs = true) : 6 ≤ (valsS cs).length ∧ ∀ v ∈ valsS cs, v.toNat < 32 := by
  unfold splitOk at h
  simp only [Bool.and_eq_true, decide_eq_true_eq] at h
  obtain ⟨_, _, _, h6, hk⟩ := h
  refine ⟨by unfold valsS; rw [placesB_length]; exact h6, fun v hv => ?_⟩
  unfold valsS placesB at hv
  obtain ⟨c, hc, rfl⟩ := List.mem_map.1 hv
  have hk2 := List.all_eq_true.1 hk c hc
  unfold knownB at hk2
  have hk0 : 0 ≤ posB l32 c := by simpa using hk2
  have hlt : posB l32 c < 32 := by
    obtain ⟨o, ho⟩ : ∃ o : Nat, posB l32 c = o := ⟨(posB l32 c).toNat, by omega⟩
    have h1 := (List.getElem?_eq_some_iff.1 (Lib.indexByte_some (l := l32.data.toList) (by exact ho)).1).1
    have h2 : l32.data.toList.length = 32 := by decide
    omega
  have := b8_toNat (posB l32 c)
  omega
theorem sum_eq (h v : List UInt8) (k : Nat) (hk : v.length = k + 6) (hs : ∀ x ∈ v, x.toNat < 32) (m : Bool) : (v.drop k == closeB h (v.take k) m) = decide (sumB h v = lastX m) := by
  have h6 : (v.drop k).length = 6 := by rw [List.length_drop]; omega
  have hi := close_iff h (v.take k) (v.drop k) m h6 (fun x hx => hs x (List.mem_of_mem_drop hx))
  rw [List.take_append_drop] at hi
  by_cases hq : sumB h v = lastX m
  · rw [decide_eq_true hq, beq_iff_eq]
    exact hi.2 hq
  · rw [decide_eq_false hq]
    exact beq_eq_false_iff_ne.2 fun e => hq (hi.1 e)
theorem sumR_lo {h v : List UInt8} (e : sumB h v = lastX false) : sumR h v = ⟨0, h, v.take (v.length - 6), false⟩ := by unfold sumR; rw [if_pos (show sumB h v = 1 from e)]
theorem sumR_hi {h v : List UInt8} (e0 : ¬ sumB h v = lastX false) (e : sumB h v = lastX true) : sumR h v = ⟨0, h, v.take (v.length - 6), true⟩ := by
  unfold sumR; rw [if_neg (show ¬ sumB h v = 1 from e0), if_pos (show sumB h v = 734539939 from e)]
theorem sumR_no {h v : List UInt8} (e0 : ¬ sumB h v = lastX false) (e : ¬ sumB h v = lastX true) : sumR h v = noR 5 := by
  unfold sumR; rw [if_neg (show ¬ sumB h v = 1 from e0), if_neg (show ¬ sumB h v = 734539939 from e)]

set_option maxRecDepth 100000 in
set_option maxHeartbeats 6400000 in
theorem frombech_any (s : ByteArray) (w : World) (hc : BechIs w) (hs : s.size ≤ 140737488355328) :
    Calls Tryd.prog 6 #[.string s] w (BechPost w (fromS s.data.toList)) := by
  have hhs : s.data.toList.length = s.size := rfl
  by_cases h1 : 90 < s.size
  · have hr := fromS_size (cs := s.data.toList) (by omega)
    rw [hr]
    have d1 : decide (90 < (s.size : Int)) = true := decide_eq_true (by omega)
    clear hr hhs h1
    go_enter Tryd.func6, Tryd.ntmps6
    go_wp2_with fail
    (try simp only [Exit.inBlock, Exit.then]); refine bodyPost_ret (results_tmp4 rfl _ _ _) rfl ?_
    exact ⟨_, rfl, Byt.nil _ _, Below.refl _ _⟩
  · have d1 : decide (90 < (s.size : Int)) = false := decide_eq_false (by omega)
    have SP := Lib.hid (split_any s w (by omega))
    cases hsp : splitOk s.data.toList with
    | false =>
      rw [fromS_form (by omega) hsp]
      have HSP := Lib.hid hsp
      clear hsp hhs h1
      go_enter Tryd.func6, Tryd.ntmps6
      go_wp2_with fail
      refine SP.out.mono ?_
      rintro e w1 ⟨hb1, ⟨ht, _⟩ | ⟨_, rfl⟩⟩
      · rw [HSP.out] at ht; cases ht
      · go_wp2_with fail
        (try simp only [Exit.inBlock, Exit.then]); refine bodyPost_ret (results_tmp4 rfl _ _ _) rfl ?_
        exact ⟨_, rfl, Byt.nil _ _, hb1⟩
    | true =>
      obtain ⟨h6, h32⟩ := vals_length hsp
      rw [fromS_sum (by omega) hsp]
      have hvl : (valsS s.data.toList).length ≤ 90 := by
        unfold valsS tailS
        rw [placesB_length, List.length_drop, lowS_length]
        omega
      obtain ⟨hd, hhd⟩ : ∃ hd, hd = headS s.data.toList := ⟨_, rfl⟩
      have hhl : hd.length ≤ 90 := by rw [hhd]; unfold headS; rw [List.length_take, lowS_length]; omega
      obtain ⟨vs, hvs⟩ : ∃ vs, vs = valsS s.data.toList := ⟨_, rfl⟩
      rw [← hvs] at h6 h32 hvl
      rw [← hvs, ← hhd]
      obtain ⟨n, hn⟩ : ∃ n, n = vs.length := ⟨_, rfl⟩
      obtain ⟨k, hk⟩ : ∃ k, n = k + 6 := ⟨n - 6, by omega⟩
      have hq := fun m => sum_eq hd vs k (by omega) h32 m
      obtain ⟨D, hD⟩ : ∃ D, D = vs.take k := ⟨_, rfl⟩
      obtain ⟨T, hT⟩ : ∃ T, T = vs.drop k := ⟨_, rfl⟩
      have hDk : vs.take (vs.length - 6) = D := by rw [hD]; congr 1; omega
      have hDl : D.length = k := by rw [hD, List.length_take]; omega
      have hTl : T.length = 6 := by rw [hT, List.length_drop]; omega
      simp only [← hD, ← hT] at hq
      obtain ⟨H, hH⟩ : ∃ H : ByteArray, H = ⟨hd.toArray⟩ := ⟨_, rfl⟩
      have hHs : H.size ≤ 90 := by rw [hH]; show hd.toArray.size ≤ 90; rw [List.size_toArray]; exact hhl
      have hHd : hd = H.data.toList := by rw [hH]
      have hlo : sumB hd vs = lastX false → sumR hd vs = ⟨0, hd, D, false⟩ := fun e => by rw [sumR_lo e, hDk]
      have hhi : ¬ sumB hd vs = lastX false → sumB hd vs = lastX true → sumR hd vs = ⟨0, hd, D, true⟩ := fun e0 e => by rw [sumR_hi e0 e, hDk]
      have hno : ¬ sumB hd vs = lastX false → ¬ sumB hd vs = lastX true → sumR hd vs = noR 5 := fun e0 e => sumR_no e0 e
      have hk84 : k ≤ 84 := by omega
      have HSP := Lib.hid hsp
      have HVS := Lib.hid hvs
      have HHD := Lib.hid hhd
      have HQ := Lib.hid hq
      have HLO := Lib.hid hlo
      have HHI := Lib.hid hhi
      have HNO := Lib.hid hno
      have HN := Lib.hid hn
      have HK := Lib.hid hk
      have HD := Lib.hid hD
      have HT := Lib.hid hT
      have HDL := Lib.hid hDl
      have HTL := Lib.hid hTl
      have HHH := Lib.hid hH
      have HHS := Lib.hid hHd
      have HC := Lib.hid hc
      have i0 : ∀ w, (Instr.index 49 (.agg #[.bool false, .bool true]) (.int .i64 0)).run Tryd.prog w = .ok (.bool false) w := fun _ => by kernel_rfl
      have i1 : ∀ w, (Instr.index 49 (.agg #[.bool false, .bool true]) (.int .i64 1)).run Tryd.prog w = .ok (.bool true) w := fun _ => by kernel_rfl
      clear hsp hhs h1 hvs hhd hq hlo hhi hno hk hD hT hDk hDl hTl hH hHd h32 hhl hvl hc
      go_enter Tryd.func6, Tryd.ntmps6
      go_wp2_with fail
      refine SP.out.mono ?_
      rintro e w1 ⟨hb1, ⟨_, v, rfl, hby⟩ | ⟨hf, _⟩⟩
      · rw [← HHD.out, ← HHH.out]
        rw [← HVS.out] at hby
        obtain ⟨A, c, rfl⟩ := hby.form
        have hcap := hby.cap
        have hs1 := hb1.size
        rw [← hn] at hby hcap ⊢
        have sa := run_tail A n c k (by have := HK.out; omega)
        have s3 := run_to3 A n c k (by have := HK.out; omega)
        obtain ⟨A2, hA2⟩ : ∃ A2, A2 = if c = k then A else A.map (fun x => x.add k) := ⟨_, rfl⟩
        have hnm : n - k = 6 := by have := HK.out; omega
        rw [← hA2, hnm] at sa
        rw [hn] at hby
        have tT : Byt w1 w1.heap.size (.slice A2 6 (c - k)) T := by
          have h := hby.tail (k := k) (by have := HK.out; omega)
          rw [← hA2, ← hn, hnm, ← HT.out] at h
          exact h
        have tM : Byt w1 w1.heap.size (.slice A k k) D := by
          have h := byt_cap hby (k := k) (by have := HK.out; omega)
          rw [← HD.out] at h
          exact h
        have TT := Lib.hid tT
        have TM := Lib.hid tM
        have HB1 := Lib.hid hb1
        have hw : IntKind.i64.wrap ((n : Int) - 6) = (k : Int) := by rw [IntWalk.i64_in _ (by omega)]; have := HK.out; omega
        have hn90 : n ≤ 90 := by have := HK.out; omega
        clear hby hb1 tT tM hA2 hnm hn SP
        go_wp2_with fail
        refine wp_region_held_drew (S := AnyW) (by kernel_rfl) ?_ (fun hHeld => ?_)
        · exact anyW _
        refine wpAnyH_take (i := 0) (oi := { dst := some 28, op := Go.Op.move (Go.Operand.tmp 7), type := 23, pos := "bech32.go:44", after := #[], guard := none }) (v := ?av0) rfl (by kernel_rfl) (by kernel_rfl) (by kernel_rfl) (fun _ _ _ h => h) (Or.inl ⟨by rfl, ?ay0⟩) (by assumption) ?ar0
        case ay0 => (intro w hSw; (try dsimp only at hSw); go_simp; try (with_reducible rfl))
        case ar0 =>
        try simp only [Act.put, List.setIfInBounds_toArray, List.set_cons_zero, List.set_cons_succ]
        refine wpAnyH_take (i := 1) (oi := { dst := some 29, op := Go.Op.move (Go.Operand.tmp 9), type := 3, pos := "bech32.go:44", after := #[], guard := none }) (v := ?av1) rfl (by kernel_rfl) (by kernel_rfl) (by kernel_rfl) (fun _ _ _ h => h) (Or.inl ⟨by rfl, ?ay1⟩) (by assumption) ?ar1
        case ay1 => (intro w hSw; (try dsimp only at hSw); go_simp; try (with_reducible rfl))
        case ar1 =>
        try simp only [Act.put, List.setIfInBounds_toArray, List.set_cons_zero, List.set_cons_succ]
        refine wpAnyH_take (i := 2) (oi := { dst := some 30, op := Go.Op.move (Go.Operand.tmp 9), type := 3, pos := "bech32.go:44", after := #[], guard := none }) (v := ?av2) rfl (by kernel_rfl) (by kernel_rfl) (by kernel_rfl) (fun _ _ _ h => h) (Or.inl ⟨by rfl, ?ay2⟩) (by assumption) ?ar2
        case ay2 => (intro w hSw; (try dsimp only at hSw); go_simp; try (with_reducible rfl))
        case ar2 =>
        try simp only [Act.put, List.setIfInBounds_toArray, List.set_cons_zero, List.set_cons_succ]
        refine wpAnyH_take (i := 3) (oi := { dst := some 31, op := Go.Op.slice 23 (Go.Operand.tmp 28) none (some (Go.Operand.tmp 29)) (some (Go.Operand.tmp 30)), type := 23, pos := "bech32.go:44", after := #[{ on := 0, ground := Go.Ground.data }, { on := 1, ground := Go.Ground.data }, { on := 2, ground := Go.Ground.data }], guard := none }) (v := (.slice A k k)) rfl (by kernel_rfl) (by kernel_rfl) (by kernel_rfl) (fun _ _ _ h => h) (Or.inl ⟨by rfl, ?ay3⟩) (by assumption) ?ar3
        case ay3 => (intro w hSw; (try dsimp only at hSw); go_simp; try (with_reducible rfl))
        case ar3 =>
        try simp only [Act.put, List.setIfInBounds_toArray, List.set_cons_zero, List.set_cons_succ]
        refine wpAnyH_take (i := 4) (oi := { dst := some 32, op := Go.Op.move (Go.Operand.tmp 7), type := 23, pos := "bech32.go:44", after := #[], guard := none }) (v := ?av4) rfl (by kernel_rfl) (by kernel_rfl) (by kernel_rfl) (fun _ _ _ h => h) (Or.inl ⟨by rfl, ?ay4⟩) (by assumption) ?ar4
        case ay4 => (intro w hSw; (try dsimp only at hSw); go_simp; try (with_reducible rfl))
        case ar4 =>
        try simp only [Act.put, List.setIfInBounds_toArray, List.set_cons_zero, List.set_cons_succ]
        refine wpAnyH_take (i := 5) (oi := { dst := some 33, op := Go.Op.move (Go.Operand.tmp 9), type := 3, pos := "bech32.go:44", after := #[], guard := none }) (v := ?av5) rfl (by kernel_rfl) (by kernel_rfl) (by kernel_rfl) (fun _ _ _ h => h) (Or.inl ⟨by rfl, ?ay5⟩) (by assumption) ?ar5
        case ay5 => (intro w hSw; (try dsimp only at hSw); go_simp; try (with_reducible rfl))
        case ar5 =>
        try simp only [Act.put, List.setIfInBounds_toArray, List.set_cons_zero, List.set_cons_succ]
        refine wpAnyH_take (i := 6) (oi := { dst := some 34, op := Go.Op.slice 23 (Go.Operand.tmp 32) (some (Go.Operand.tmp 33)) none none, type := 23, pos := "bech32.go:44", after := #[{ on := 4, ground := Go.Ground.data }, { on := 5, ground := Go.Ground.data }], guard := none }) (v := (.slice A2 6 (c - k))) rfl (by kernel_rfl) (by kernel_rfl) (by kernel_rfl) (fun _ _ _ h => h) (Or.inl ⟨by rfl, ?ay6⟩) (by assumption) ?ar6
        case ay6 => (intro w hSw; (try dsimp only at hSw); go_simp; try (with_reducible rfl))
        case ar6 =>
        try simp only [Act.put, List.setIfInBounds_toArray, List.set_cons_zero, List.set_cons_succ]
        refine wpAnyH_take (i := 7) (oi := { dst := some 10, op := Go.Op.assign (Go.Operand.tmp 31), type := 23, pos := "bech32.go:44", after := #[{ on := 3, ground := Go.Ground.data }, { on := 0, ground := Go.Ground.phase }, { on := 1, ground := Go.Ground.phase }, { on := 2, ground := Go.Ground.phase }, { on := 3, ground := Go.Ground.phase }, { on := 4, ground := Go.Ground.textOnly Go.Departure.lateStores }, { on := 5, ground := Go.Ground.textOnly Go.Departure.lateStores }, { on := 6, ground := Go.Ground.textOnly Go.Departure.lateStoresUnsure }], guard := none }) (v := ?av7) rfl (by kernel_rfl) (by kernel_rfl) (by kernel_rfl) (fun _ _ _ h => h) (Or.inl ⟨by rfl, ?ay7⟩) (by assumption) ?ar7
        case ay7 => (intro w hSw; (try dsimp only at hSw); go_simp; try (with_reducible rfl))
        case ar7 =>
        try simp only [Act.put, List.setIfInBounds_toArray, List.set_cons_zero, List.set_cons_succ]
        refine wpAnyH_take (i := 8) (oi := { dst := some 11, op := Go.Op.assign (Go.Operand.tmp 34), type := 23, pos := "bech32.go:44", after := #[{ on := 6, ground := Go.Ground.data }, { on := 7, ground := Go.Ground.chain }, { on := 0, ground := Go.Ground.phase }, { on := 1, ground := Go.Ground.phase }, { on := 2, ground := Go.Ground.phase }, { on := 3, ground := Go.Ground.phase }, { on := 4, ground := Go.Ground.phase }, { on := 5, ground := Go.Ground.phase }, { on := 6, ground := Go.Ground.phase }, { on := 7, ground := Go.Ground.phase }], guard := none }) (v := ?av8) rfl (by kernel_rfl) (by kernel_rfl) (by kernel_rfl) (fun _ _ _ h => h) (Or.inl ⟨by rfl, ?ay8⟩) (by assumption) ?ar8
        case ay8 => (intro w hSw; (try dsimp only at hSw); go_simp; try (with_reducible rfl))
        case ar8 =>
        try simp only [Act.put, List.setIfInBounds_toArray, List.set_cons_zero, List.set_cons_succ]
        refine wpAnyH_done (by kernel_rfl) ?_ _
        go_wp2_with fail
        clear sa s3
        go_loopw [36] (fun j wr => (j = .int .i64 0 ∨ (j = .int .i64 1 ∧ Hid (¬ sumB hd vs = lastX false)) ∨ (j = .int .i64 2 ∧ Hid (¬ sumB hd vs = lastX false) ∧ Hid (¬ sumB hd vs = lastX true))) ∧ Hid (Below w1.heap.size w1 wr)) (fun j _ => 2 - (intOf j).toNat)
        case atStart => exact ⟨.inl rfl, Lib.hid ⟨rfl, rfl, rfl, Nat.le_refl _, fun _ _ => rfl⟩⟩
        case round =>
          obtain ⟨rfl | ⟨rfl, HN0⟩ | ⟨rfl, HN0, HN1⟩, HBL⟩ := hrel
          · as_aux_lemma =>
              have hbs := HBL.out.size
              have S := sum32_any w1.heap.size H (.slice A k k) D false wr (HC.out.below (HB1.out.trans (HBL.out.mono hs1)) HC.out.1) (TM.out.below HBL.out) hbs (by omega) (by rw [HDL.out]; omega)
              rw [← HHS.out] at S
              have HSUM := Lib.hid S
              clear S
              go_wp2_with fail
              refine HSUM.out.mono ?_
              rintro e w2 ⟨g, rfl, hg, hrow, hb2⟩
              have hby2 := hrow.byt (n := 6) (c := 6) (by rw [closeB_length]; omega) (by omega) (by unfold maxLen; omega)
              rw [List.take_of_length_le (by rw [closeB_length]; omega)] at hby2
              have EQ := bequal_any w1.heap.size _ (.slice A2 6 (c - k)) (.slice (some ⟨g, 0, none⟩) 6 6) T (closeB hd D false) w2 (TT.out.below (HBL.out.trans (hb2.mono hbs))) hby2
              rw [HQ.out false] at EQ
              have HEQ := Lib.hid EQ
              have HB2 := Lib.hid (HBL.out.trans (hb2.mono hbs))
              clear EQ hby2 hrow hb2 HSUM
              go_wp2_with fail
              refine HEQ.out.mono ?_
              rintro e w3 ⟨rfl, rfl⟩
              by_cases hq : sumB hd vs = lastX false
              · rw [decide_eq_true hq]
                have HR := Lib.hid (HLO.out hq)
                clear hq
                go_wp2_with fail
                (try simp only [Exit.inBlock, Exit.then]); refine bodyPost_ret (results_tmp4 rfl _ _ _) rfl ?_
                exact ⟨.slice A k k, by rw [HR.out, HHH.out]; rfl, by rw [HR.out]; exact (TM.out.below HB2.out).more HB2.out.size, HB1.out.trans (HB2.out.mono hs1)⟩
              · rw [decide_eq_false hq]
                have HNE := Lib.hid hq
                clear hq
                go_wp2_with fail
                exact ⟨⟨.inr (.inl ⟨rfl, HNE⟩), HB2⟩, by simp [intOf]⟩
          · as_aux_lemma =>
              have hbs := HBL.out.size
              have S := sum32_any w1.heap.size H (.slice A k k) D true wr (HC.out.below (HB1.out.trans (HBL.out.mono hs1)) HC.out.1) (TM.out.below HBL.out) hbs (by omega) (by rw [HDL.out]; omega)
              rw [← HHS.out] at S
              have HSUM := Lib.hid S
              clear S
              go_wp2_with fail
              refine HSUM.out.mono ?_
              rintro e w2 ⟨g, rfl, hg, hrow, hb2⟩
              have hby2 := hrow.byt (n := 6) (c := 6) (by rw [closeB_length]; omega) (by omega) (by unfold maxLen; omega)
              rw [List.take_of_length_le (by rw [closeB_length]; omega)] at hby2
              have EQ := bequal_any w1.heap.size _ (.slice A2 6 (c - k)) (.slice (some ⟨g, 0, none⟩) 6 6) T (closeB hd D true) w2 (TT.out.below (HBL.out.trans (hb2.mono hbs))) hby2
              rw [HQ.out true] at EQ
              have HEQ := Lib.hid EQ
              have HB2 := Lib.hid (HBL.out.trans (hb2.mono hbs))
              clear EQ hby2 hrow hb2 HSUM
              go_wp2_with fail
              refine HEQ.out.mono ?_
              rintro e w3 ⟨rfl, rfl⟩
              by_cases hq : sumB hd vs = lastX true
              · rw [decide_eq_true hq]
                have HR := Lib.hid (HHI.out HN0.out hq)
                clear hq
                go_wp2_with fail
                (try simp only [Exit.inBlock, Exit.then]); refine bodyPost_ret (results_tmp4 rfl _ _ _) rfl ?_
                exact ⟨.slice A k k, by rw [HR.out, HHH.out]; rfl, by rw [HR.out]; exact (TM.out.below HB2.out).more HB2.out.size, HB1.out.trans (HB2.out.mono hs1)⟩
              · rw [decide_eq_false hq]
                have HNE := Lib.hid hq
                clear hq
                go_wp2_with fail
                exact ⟨⟨.inr (.inr ⟨rfl, HN0, HNE⟩), HB2⟩, by simp [intOf]⟩
          · as_aux_lemma =>
              have HR := Lib.hid (HNO.out HN0.out HN1.out)
              go_wp2_with fail
              (try simp only [Exit.inBlock, Exit.then]); refine bodyPost_ret (results_tmp4 rfl _ _ _) rfl ?_
              exact ⟨.slice none 0 0, by rw [HR.out]; rfl, by rw [HR.out]; exact Byt.nil _ _, HB1.out.trans (HBL.out.mono hs1)⟩
      · rw [HSP.out] at hf; cases hf
end Go.Proofs.YtgiljhdjknglpaaDoor

/-
  The reference's step and sum of bech32. Conditions: the numbers are below 2^30.
-/
namespace Go.Proofs.YtgiljhdjknglpaaDoor
open Go.RowKit

theorem mixB_next (up c m : Nat) : (if up / 2 ^ m % 2 = 1 then mixB up c m ^^^ gB m else mixB up c m) = mixB up c (m + 1) := rfl

set_option maxRecDepth 100000 in
set_option maxHeartbeats 1600000 in
theorem rstep_any (c v : Nat) (w : World) (hc : c < 1073741824) (hv : v < 256) :
    Calls Tryd.prog 49 #[.int .u64 c, .int .u8 v] w fun e w' => e = .returned (.int .u64 ((turnB c v : Nat) : Int)) ∧ Below w.heap.size w w' := by
  have hx : bits .xor .u64 ((c : Int) % 33554432 * 32) (v : Int) = ((c % 33554432 * 32 ^^^ v : Nat) : Int) := by
    have h2 : ((c : Int) % 33554432 * 32) = ((c % 33554432 * 32 : Nat) : Int) := by omega
    rw [h2, bits_xor_u64_nat _ _ (by omega) (by omega)]
  have hwv : IntKind.u64.wrap (v : Int) = v := by rw [IntKind.wrap_u64]; omega
  have hu : ((c : Int) / 33554432) = ((c / 33554432 : Nat) : Int) := by omega
  obtain ⟨up, hup⟩ : ∃ up, up = c / 33554432 := ⟨_, rfl⟩
  obtain ⟨z, hz⟩ : ∃ z, z = c % 33554432 * 32 ^^^ v := ⟨_, rfl⟩
  have ht : turnB c v = mixB up z 5 := by rw [hup, hz]; rfl
  have hz2 : z < 1073741824 := by rw [hz]; exact Nat.xor_lt_two_pow (n := 30) (by omega) (by omega)
  have hu2 : up < 1073741824 := by omega
  rw [← hup] at hu
  rw [← hz] at hx
  rw [ht]
  have HT := Lib.hid ht
  clear ht hup hz
  go_enter Tryd.func49, Tryd.ntmps49
  go_wp2_with fail
  clear hx hwv hu
  go_loopw [7, 6, 0] (fun j b cc wr => ∃ m : Nat, m ≤ 5 ∧ j = .int .i64 m ∧ b = .int .u64 ((up / 2 ^ m : Nat) : Int) ∧ cc = .int .u64 ((mixB up z m : Nat) : Int) ∧ wr = w.alloc (.cells #[.int .u64 996825010, .int .u64 642813549, .int .u64 513874426, .int .u64 1027748829, .int .u64 705979059] 68)) (fun j _ _ _ => 5 - (intOf j).toNat)
  case atStart => exact ⟨0, by omega, rfl, by simp, rfl, rfl⟩
  case round =>
    obtain ⟨m, hm, rfl, rfl, rfl, rfl⟩ := hrel
    by_cases h5 : m < 5
    · obtain ⟨b, hb⟩ : ∃ b, b = up / 2 ^ m := ⟨_, rfl⟩
      obtain ⟨y, hy⟩ : ∃ y, y = mixB up z m := ⟨_, rfl⟩
      have hnext := mixB_next up z m
      rw [← hb, ← hy] at hnext
      have hb2 : up / 2 ^ (m + 1) = b / 2 := by rw [hb, Nat.pow_succ, Nat.div_div_eq_div_mul]
      have hbb : b < 1073741824 := by rw [hb]; exact Nat.lt_of_le_of_lt (Nat.div_le_self _ _) hu2
      have hyb : y < 1073741824 := by rw [hy]; exact mixB_lt up z hz2 m
      have hgb := gB_lt m
      have hxor := bits_xor_u64_nat y (gB m) (by omega) (by omega)
      have hwb : IntKind.u64.wrap ((b : Int) / 2) = (b : Int) / 2 := by rw [IntKind.wrap_u64]; omega
      rw [← hb, ← hy]
      have HB := Lib.hid hb2
      clear hb hy hb2
      by_cases hodd : b % 2 = 1
      · rw [if_pos hodd] at hnext
        have HN := Lib.hid hnext
        have hd : ((b : Int) % 2 == 1) = true := by simp; omega
        clear hnext
        obtain rfl | rfl | rfl | rfl | rfl : m = 0 ∨ m = 1 ∨ m = 2 ∨ m = 3 ∨ m = 4 := by omega
        · simp only [gB] at hxor
          go_wp2
          exact ⟨⟨1, by omega, rfl, congrArg (Value.int .u64) (by rw [HB.out]; omega), congrArg (Value.int .u64) (by rw [← HN.out]; first | rfl | exact hxor), trivial⟩, by simp [intOf]⟩
        · simp only [gB] at hxor
          go_wp2
          exact ⟨⟨2, by omega, rfl, congrArg (Value.int .u64) (by rw [HB.out]; omega), congrArg (Value.int .u64) (by rw [← HN.out]; first | rfl | exact hxor), trivial⟩, by simp [intOf]⟩
        · simp only [gB] at hxor
          go_wp2
          exact ⟨⟨3, by omega, rfl, congrArg (Value.int .u64) (by rw [HB.out]; omega), congrArg (Value.int .u64) (by rw [← HN.out]; first | rfl | exact hxor), trivial⟩, by simp [intOf]⟩
        · simp only [gB] at hxor
          go_wp2
          exact ⟨⟨4, by omega, rfl, congrArg (Value.int .u64) (by rw [HB.out]; omega), congrArg (Value.int .u64) (by rw [← HN.out]; first | rfl | exact hxor), trivial⟩, by simp [intOf]⟩
        · simp only [gB] at hxor
          go_wp2
          exact ⟨⟨5, by omega, rfl, congrArg (Value.int .u64) (by rw [HB.out]; omega), congrArg (Value.int .u64) (by rw [← HN.out]; first | rfl | exact hxor), trivial⟩, by simp [intOf]⟩
      · rw [if_neg hodd] at hnext
        have HN := Lib.hid hnext
        have hd : ((b : Int) % 2 == 1) = false := by simp; omega
        clear hnext
        go_wp2
        exact ⟨⟨m + 1, by omega, by go_num, congrArg (Value.int .u64) (by rw [HB.out]; omega), congrArg (Value.int .u64) (by rw [← HN.out]), trivial⟩, by simp [intOf]; omega⟩
    · have hm5 : m = 5 := by omega
      subst hm5
      go_wp2
      go_ret
      exact ⟨rfl, (Below.refl _ _).alloc (Nat.le_refl _) _⟩


theorem rest_take {d : List UInt8} {i : Nat} {q : UInt8} (hq : d[i]? = some q) (c : Nat) : turnsB c (d.take (i + 1)) = turnB (turnsB c (d.take i)) q.toNat := by
  rw [List.take_add_one, hq, turnsB_append]
  rfl

set_option maxRecDepth 100000 in
set_option maxHeartbeats 3200000 in
theorem rsum_any (B : Nat) (s : ByteArray) (x : Value) (d : List UInt8) (w : World) (hx : Byt w B x d) (hB : B ≤ w.heap.size) (hs : s.size ≤ 60000) (hl : d.length ≤ 60000) :
    Calls Tryd.prog 26 #[.string s, x] w fun e w' => e = .returned (.int .u64 ((sumB s.data.toList d : Nat) : Int)) ∧ Below w.heap.size w w' := by
  obtain ⟨A, cx, hxf⟩ := hx.form
  subst hxf
  have HX := Lib.hid hx
  obtain ⟨h, hh⟩ : ∃ h, h = s.data.toList := ⟨_, rfl⟩
  have hhs : h.length = s.size := by rw [hh]; rfl
  rw [← hh]
  have HH := Lib.hid hh
  have HHS := Lib.hid hhs
  obtain ⟨r, hr⟩ : ∃ r, r = sumB h d := ⟨_, rfl⟩
  rw [← hr]
  have HR := Lib.hid hr
  have ST := Lib.hid (fun (c v : Nat) (W : World) (hc : c < 1073741824) (hv : v < 256) => rstep_any c v W hc hv)
  clear hx hh hhs hr
  go_enter Tryd.func26, Tryd.ntmps26
  go_wp2_with fail
  go_loopw [6, 5] (fun j cc wr => ∃ i : Nat, i ≤ s.size ∧ j = .int .i64 i ∧ cc = .int .u64 ((turnsB 1 (hiS (h.take i)) : Nat) : Int) ∧ Below w.heap.size w wr) (fun j _ _ => s.size - (intOf j).toNat)
  case atStart => exact ⟨0, Nat.zero_le _, rfl, rfl, Below.refl _ _⟩
  case round =>
    obtain ⟨i, hi, rfl, rfl, hbel⟩ := hrel
    by_cases hlt : i < s.size
    · obtain ⟨q, hq⟩ : ∃ q, q = s[i]'hlt := ⟨_, rfl⟩
      have hqi : h[i]? = some q := by rw [HH.out, hq]; exact Lib.data_getElem? s i hlt
      have hq256 := q.toNat_lt
      have hnext := hi_take hqi 1
      obtain ⟨c, hcc⟩ : ∃ c, c = turnsB 1 (hiS (h.take i)) := ⟨_, rfl⟩
      have hc30 : c < 1073741824 := by rw [hcc]; exact turnsB_lt _ _ (by omega)
      rw [← hcc] at hnext
      rw [← hcc]
      have HN := Lib.hid hnext
      have HB := Lib.hid hbel
      have C1 := fun W => ST.out c (q.toNat / 32) W hc30 (by omega)
      simp only [show ((q.toNat / 32 : Nat) : Int) = (q.toNat : Int) / 32 by omega] at C1
      have C1 := Lib.hid C1
      have hw1 : IntKind.u8.wrap ((q.toNat : Int) / 32) = (q.toNat : Int) / 32 := by rw [IntKind.wrap_u8]; omega
      have hqs : (s[i]'hlt) = q := hq.symm
      clear hbel hnext hqi hcc hq
      go_wp2_with fail
      refine (C1.out _).mono ?_
      rintro e w2 ⟨rfl, hb2⟩
      go_wp2_with fail
      refine ⟨⟨i + 1, by omega, by go_num, ?_, HB.out.trans (hb2.mono HB.out.size)⟩, by simp [intOf]; omega⟩
      rw [HN.out]
    · have hie : h.take i = h := List.take_of_length_le (by have := HHS.out; omega)
      rw [hie]
      obtain ⟨c, hcc⟩ : ∃ c, c = turnsB 1 (hiS h) := ⟨_, rfl⟩
      have hc30 : c < 1073741824 := by rw [hcc]; exact turnsB_lt _ _ (by omega)
      rw [← hcc]
      have HCC := Lib.hid hcc
      have HB := Lib.hid hbel
      have C0 := Lib.hid (fun W => ST.out c 0 W hc30 (by omega))
      clear hie hcc hbel
      go_wp2_with fail
      refine (C0.out _).mono ?_
      rintro e w1 ⟨rfl, hb1⟩
      obtain ⟨c1, hc1⟩ : ∃ c1, c1 = turnB c 0 := ⟨_, rfl⟩
      have hc1l : c1 < 1073741824 := by rw [hc1]; exact turnB_lt _ _ (by decide)
      rw [← hc1]
      have HC1 := Lib.hid hc1
      have HB1 := Lib.hid (HB.out.trans (hb1.mono HB.out.size))
      clear hc1 hb1 HB C0
      go_wp2_with fail
      go_loopw [7, 5] (fun j cc wr => ∃ i : Nat, i ≤ s.size ∧ j = .int .i64 i ∧ cc = .int .u64 ((turnsB c1 (loS (h.take i)) : Nat) : Int) ∧ Below w.heap.size w wr) (fun j _ _ => s.size - (intOf j).toNat)
      case atStart => exact ⟨0, Nat.zero_le _, rfl, rfl, HB1.out⟩
      case round =>
        obtain ⟨i, hi, rfl, rfl, hbel⟩ := hrel
        by_cases hlt : i < s.size
        · obtain ⟨q, hq⟩ : ∃ q, q = s[i]'hlt := ⟨_, rfl⟩
          have hqi : h[i]? = some q := by rw [HH.out, hq]; exact Lib.data_getElem? s i hlt
          have hq256 := q.toNat_lt
          have hnext := lo_take hqi c1
          obtain ⟨c, hcc⟩ : ∃ c, c = turnsB c1 (loS (h.take i)) := ⟨_, rfl⟩
          have hc30 : c < 1073741824 := by rw [hcc]; exact turnsB_lt _ _ hc1l
          rw [← hcc] at hnext
          rw [← hcc]
          have HN := Lib.hid hnext
          have HB := Lib.hid hbel
          have C1 := fun W => ST.out c (q.toNat % 32) W hc30 (by omega)
          simp only [show ((q.toNat % 32 : Nat) : Int) = (q.toNat : Int) % 32 by omega] at C1
          have C1 := Lib.hid C1
          have hqs : (s[i]'hlt) = q := hq.symm
          clear hbel hnext hqi hcc hq
          go_wp2_with fail
          refine (C1.out _).mono ?_
          rintro e w2 ⟨rfl, hb2⟩
          go_wp2_with fail
          refine ⟨⟨i + 1, by omega, by go_num, ?_, HB.out.trans (hb2.mono HB.out.size)⟩, by simp [intOf]; omega⟩
          rw [HN.out]
        · have hie : h.take i = h := List.take_of_length_le (by have := HHS.out; omega)
          rw [hie]
          obtain ⟨c2, hc2⟩ : ∃ c2, c2 = turnsB c1 (loS h) := ⟨_, rfl⟩
          have hc2l : c2 < 1073741824 := by rw [hc2]; exact turnsB_lt _ _ hc1l
          rw [← hc2]
          have HC2 := Lib.hid hc2
          have HB := Lib.hid hbel
          clear hie hc2 hbel
          go_wp2_with fail
          go_loopw [8, 5] (fun j cc wr => ∃ i : Nat, i ≤ d.length ∧ j = .int .i64 i ∧ cc = .int .u64 ((turnsB c2 (d.take i) : Nat) : Int) ∧ Below w.heap.size w wr) (fun j _ _ => d.length - (intOf j).toNat)
          case atStart => exact ⟨0, Nat.zero_le _, rfl, rfl, HB.out⟩
          case round =>
            obtain ⟨i, hi, rfl, rfl, hbel⟩ := hrel
            by_cases hlt : i < d.length
            · obtain ⟨A', c', e0, _, _, _, h4⟩ := HX.out
              obtain ⟨e1, e2, e3⟩ := Value.slice.inj e0
              subst e1 e3
              clear e2 e0
              obtain ⟨b, o, rfl, hb, hbc⟩ := h4 (by rintro rfl; simp at hlt)
              obtain ⟨q, hq⟩ : ∃ q, q = d[i] := ⟨_, rfl⟩
              have hci := hbc i _ (List.getElem?_eq_getElem hlt)
              rw [← hq] at hci
              have hbi : ∀ W, Below w.heap.size w W → W.cell? ⟨b, o + i, none⟩ = some (.int .u8 (q.toNat : Int)) := fun W hW => (hW.cell (p := ⟨b, _, none⟩) (by show b < _; omega)).trans hci
              have hqi : d[i]? = some q := by rw [hq]; exact List.getElem?_eq_getElem hlt
              have hq256 := q.toNat_lt
              have hnext := rest_take hqi c2
              obtain ⟨c, hcc⟩ : ∃ c, c = turnsB c2 (d.take i) := ⟨_, rfl⟩
              have hc30 : c < 1073741824 := by rw [hcc]; exact turnsB_lt _ _ hc2l
              rw [← hcc] at hnext
              rw [← hcc]
              have hbw := hbi _ hbel
              have HN := Lib.hid hnext
              have HB := Lib.hid hbel
              have C1 := Lib.hid (fun W => ST.out c q.toNat W hc30 hq256)
              clear hbel hnext hqi hcc hq hci hbc h4 hbi
              go_wp2_with fail
              refine (C1.out _).mono ?_
              rintro e w2 ⟨rfl, hb2⟩
              go_wp2_with fail
              refine ⟨⟨i + 1, by omega, by go_num, ?_, HB.out.trans (hb2.mono HB.out.size)⟩, by simp [intOf]; omega⟩
              rw [HN.out]
            · have hie : d.take i = d := List.take_of_length_le (by omega)
              rw [hie]
              have hrr : turnsB c2 d = r := by rw [HR.out, HC2.out, HC1.out, HCC.out, sum_parts]
              rw [hrr]
              clear hie hrr
              go_wp2_with fail
              go_ret
              exact ⟨rfl, hbel⟩
end Go.Proofs.YtgiljhdjknglpaaDoor

/-
  The reference's turn and place. Conditions: the numbers are below 2^40.
-/
namespace Go.Proofs.YtgiljhdjknglpaaDoor
open Go.RowKit

theorem mixN_next (up c m : Nat) : (if up / 2 ^ m % 2 = 1 then mixN up c m ^^^ gN m else mixN up c m) = mixN up c (m + 1) := rfl

/-- Where a byte stands, up to i none. -/
theorem posB_at {al : ByteArray} {c : UInt8} {i : Nat} (hi : i < al.size) (hall : ∀ (k : Nat) (d : UInt8), k < i → al.data.toList[k]? = some d → d ≠ c) (hc : al[i] = c) : posB al c = i := by
  unfold posB
  have hg := Lib.data_getElem? al i hi
  rw [hc] at hg
  have hge := Lib.indexByte_ge al.data.toList c
  by_cases h : Lib.indexByte al.data.toList c = -1
  · exact absurd hg (Lib.indexByte_none h i)
  · obtain ⟨o, ho⟩ : ∃ o : Nat, Lib.indexByte al.data.toList c = o := ⟨(Lib.indexByte al.data.toList c).toNat, by omega⟩
    obtain ⟨h1, h2⟩ := Lib.indexByte_some ho
    rw [ho]
    have h3 : ¬ i < o := fun h => h2 i h hg
    have h4 : ¬ o < i := fun h => hall o c h h1 rfl
    have : o = i := by omega
    rw [this]
theorem posB_no {al : ByteArray} {c : UInt8} (hall : ∀ (k : Nat) (d : UInt8), k < al.size → al.data.toList[k]? = some d → d ≠ c) : posB al c = -1 := by
  unfold posB
  have hge := Lib.indexByte_ge al.data.toList c
  by_cases h : Lib.indexByte al.data.toList c = -1
  · exact h
  · obtain ⟨o, ho⟩ : ∃ o : Nat, Lib.indexByte al.data.toList c = o := ⟨(Lib.indexByte al.data.toList c).toNat, by omega⟩
    have h1 := (Lib.indexByte_some ho).1
    exact absurd rfl (hall o c ((List.getElem?_eq_some_iff.1 h1).1) h1)

set_option maxRecDepth 100000 in
set_option maxHeartbeats 1600000 in
theorem place_any (al : ByteArray) (c : UInt8) (w : World) (hal : al.size ≤ 255) :
    Calls Tryd.prog 25 #[.string al, .int .u8 (c.toNat : Int)] w fun e w' => e = .returned (.int .i64 (posB al c)) ∧ w = w' := by
  go_enter Tryd.func25, Tryd.ntmps25
  go_wp2_with fail
  go_loopw [5] (fun j wr => ∃ i : Nat, i ≤ al.size ∧ j = .int .i64 i ∧ wr = w ∧ Hid (∀ (k : Nat) (d : UInt8), k < i → al.data.toList[k]? = some d → d ≠ c)) (fun j _ => al.size - (intOf j).toNat)
  case atStart => exact ⟨0, Nat.zero_le _, rfl, rfl, Lib.hid (fun k d h => by omega)⟩
  case round =>
    obtain ⟨i, hi, rfl, rfl, hall⟩ := hrel
    by_cases hlt : i < al.size
    · by_cases hq : al[i] = c
      · have hd : (((al[i]'hlt).toNat : Int) == (c.toNat : Int)) = true := by rw [hq]; simp
        have HP := Lib.hid (posB_at hlt hall.out hq)
        clear hq
        go_wp2
        go_ret
        exact ⟨by rw [HP.out]; rfl, rfl⟩
      · have hd : (((al[i]'hlt).toNat : Int) == (c.toNat : Int)) = false := by
          have : (al[i]'hlt).toNat ≠ c.toNat := fun h => hq (UInt8.toNat_inj.1 h)
          simp; omega
        have HA : Hid (∀ (k : Nat) (d : UInt8), k < i + 1 → al.data.toList[k]? = some d → d ≠ c) := Lib.hid (fun k d hk hd2 => by
          by_cases hki : k < i
          · exact hall.out k d hki hd2
          · have : k = i := by omega
            subst this
            rw [Lib.data_getElem? al k hlt] at hd2
            injection hd2 with hd2
            rw [← hd2]
            exact hq)
        clear hq hall
        go_wp2
        refine ⟨⟨i + 1, by omega, by go_num, trivial, HA⟩, by simp [intOf]; omega⟩
    · have HP := Lib.hid (posB_no (al := al) (c := c) (fun k d hk hd => hall.out k d (by omega) hd))
      clear hall
      go_wp2
      go_ret
      exact ⟨by rw [HP.out]; rfl, rfl⟩
end Go.Proofs.YtgiljhdjknglpaaDoor
