/-
  Texts joined: BcCut, BcFrom, Grp. Conditions: those of each.
-/
import Derived.Test.YtocblkacdoahfaaGreatDoorJ25
import Derived.Test.YtocblkacdoahfaaGreatDoorJ23
import Derived.Deep.RegionHeld
import Derived.OrdersHeld
import Derived.Test.YtocblkacdoahfaaGreatDoorJ24
import Derived.Test.YtocblkacdoahfaaGreatDoorJ21
import Derived.Laws.BitsLemmas
/-
  Slices of slices of bytes; bytes.Equal. Conditions: none.
-/
namespace Go.Proofs.YtocblkacdoahfaaGreatDoor.Tx
open Go.RowKit

theorem byt_drewN {w : World} {B : Nat} {v : Value} {xs : List UInt8} (h : Byt w B v xs) (n : Nat) : Byt (w.drewN n) B v xs := h.keep fun _ _ _ => rfl

theorem run_to (A : Option Addr) (n c m : Nat) (hm : m ≤ c) (h0 : 0 < c) (W : World) :
    (Instr.slice 23 (.slice A n c) none (some (.int .i64 (m : Int))) none).run Tryz.prog W = .ok (.slice A m c) W := by
  obtain ⟨i0, hi, hz0, hz1, hz2⟩ := info_parts info_u8
  have he : Tryz.prog.elem 23 = 5 := by kernel_rfl
  have ht : Tryz.prog.underlying 23 = some (.slice (Tryz.prog.elem 23)) := by rw [he]; exact slice_u8
  rw [run_slice_h (ht := ht) (h0 := by omega) (h2 := by omega), he]
  have hc0 : ¬ c = 0 := by omega
  simp [sizeOf, typeInfo, hi, hz1, sliced, go_sem, hc0]
theorem run_to3 (A : Option Addr) (n c m : Nat) (hm : m ≤ c) (W : World) :
    (Instr.slice 23 (.slice A n c) none (some (.int .i64 (m : Int))) (some (.int .i64 (m : Int)))).run Tryz.prog W = .ok (.slice A m m) W := by
  obtain ⟨i0, hi, hz0, hz1, hz2⟩ := info_parts info_u8
  have he : Tryz.prog.elem 23 = 5 := by kernel_rfl
  have ht : Tryz.prog.underlying 23 = some (.slice (Tryz.prog.elem 23)) := by rw [he]; exact slice_u8
  rw [run_slice_hm (ht := ht) (h0 := by omega) (h2 := by omega) (h3 := by omega), he]
  by_cases h0 : m = 0
  · subst h0
    simp [sizeOf, typeInfo, hi, hz1, sliced, go_sem]
  · simp [sizeOf, typeInfo, hi, hz1, sliced, go_sem, h0]

theorem byt_cap {w : World} {B c : Nat} {A : Option Addr} {xs : List UInt8} (h : Byt w B (.slice A xs.length c) xs) {k : Nat} (hk : k ≤ xs.length) : Byt w B (.slice A k k) (xs.take k) := by
  obtain ⟨A', c', e, h1, h2, h3, h4⟩ := h
  injection e with e1 e2 e3
  subst e1 e3
  have hm : k ≤ maxLen := by omega
  refine ⟨A, k, by rw [List.length_take, Nat.min_eq_left hk], by rw [List.length_take]; omega, hm, fun h => ?_, fun hne => ?_⟩
  · obtain ⟨rfl, hc⟩ := h3 h
    simp at hk
    subst hk
    exact ⟨by simp, rfl⟩
  · obtain ⟨b, o, e1, hb, hc⟩ := h4 (by rintro rfl; simp at hne)
    refine ⟨b, o, e1, hb, fun j u hu => hc j u ?_⟩
    rw [List.getElem?_take] at hu
    split at hu
    · exact hu
    · cases hu

set_option maxRecDepth 100000 in
set_option maxHeartbeats 400000 in
theorem bequal_any (B B' : Nat) (x y : Value) (xs ys : List UInt8) (w : World) (hx : Byt w B x xs) (hy : Byt w B' y ys) :
    Calls Tryz.prog 46 #[x, y] w fun e w' => e = .returned (.bool (xs == ys)) ∧ w = w' := by
  have h1 := run_string_of (P := Tryz.prog) w 23 9 5 slice_u8 Tryz.underlying5 Tryz.underlying9 B x xs hx
  have h2 := run_string_of (P := Tryz.prog) w 23 9 5 slice_u8 Tryz.underlying5 Tryz.underlying9 B' y ys hy
  go_enter Tryz.func46, Tryz.ntmps46
  go_wp2
  go_ret
  exact ⟨rfl, rfl⟩

end Go.Proofs.YtocblkacdoahfaaGreatDoor.Tx

/-
  text.FromBech32: what a text says. Conditions: the listed table holds what its text lays.
-/
namespace Go.Proofs.YtocblkacdoahfaaGreatDoor.Tx
open Go.RowKit

theorem results_tmp4 {fn : Func} {t u v x : Tmp} (h : fn.results = #[.tmp t, .tmp u, .tmp v, .tmp x]) (tmps : Array Value) (P : Program) (w : World) :
    (results fn tmps).run P w = .ok (.tuple #[tmps.getD t undef, tmps.getD u undef, tmps.getD v undef, tmps.getD x undef]) w := by
  simp [results, h]
/-- What reading answers, in memory. -/
def BechPost (w : World) (r : FromR) (e : Ending) (w' : World) : Prop :=
  ∃ v, e = .returned (.tuple #[.string ⟨r.h.toArray⟩, v, .bool r.m, .int .i64 r.e]) ∧ Byt w' w'.heap.size v r.d ∧ Below w.heap.size w w'
theorem vals_length {cs : List UInt8} (h : splitOk cs = true) : 6 ≤ (valsS cs).length ∧ ∀ v ∈ valsS cs, v.toNat < 32 := by
  unfold splitOk at h
  simp only [Bool.and_eq_true, decide_eq_true_eq] at h
  obtain ⟨_, _, _, h6, hk⟩ := h
  refine ⟨by unfold valsS; rw [placesB_length]; exact h6, fun v hv => ?_⟩
  unfold valsS placesB at hv
  obtain ⟨c, hc, rfl⟩ := List.mem_map.1 hv
  have hk2 := List.all_eq_true.1 hk c hc
  unfold knownB at hk2
  have hk0 : 0 ≤ posB l32 c := by simpa using hk2
  have hlt : posB l32 c < 32 := by
    obtain ⟨o, ho⟩ : ∃ o : Nat, posB l32 c = o := ⟨(posB l32 c).toNat, by omega⟩
    have h1 := (List.getElem?_eq_some_iff.1 (Lib.indexByte_some (l := l32.data.toList) (by exact ho)).1).1
    have h2 : l32.data.toList.length = 32 := by decide
    omega
  have := b8_toNat (posB l32 c)
  omega
theorem sum_eq (h v : List UInt8) (k : Nat) (hk : v.length = k + 6) (hs : ∀ x ∈ v, x.toNat < 32) (m : Bool) : (v.drop k == closeB h (v.take k) m) = decide (sumB h v = lastX m) := by
  have h6 : (v.drop k).length = 6 := by rw [List.length_drop]; omega
  have hi := close_iff h (v.take k) (v.drop k) m h6 (fun x hx => hs x (List.mem_of_mem_drop hx))
  rw [List.take_append_drop] at hi
  by_cases hq : sumB h v = lastX m
  · rw [decide_eq_true hq, beq_iff_eq]
    exact hi.2 hq
  · rw [decide_eq_false hq]
    exact beq_eq_false_iff_ne.2 fun e => hq (hi.1 e)
theorem sumR_lo {h v : List UInt8} (e : sumB h v = lastX false) : sumR h v = ⟨0, h, v.take (v.length - 6), false⟩ := by unfold sumR; rw [if_pos (show sumB h v = 1 from e)]
theorem sumR_hi {h v : List UInt8} (e0 : ¬ sumB h v = lastX false) (e : sumB h v = lastX true) : sumR h v = ⟨0, h, v.take (v.length - 6), true⟩ := by
  unfold sumR; rw [if_neg (show ¬ sumB h v = 1 from e0), if_pos (show sumB h v = 734539939 from e)]
theorem sumR_no {h v : List UInt8} (e0 : ¬ sumB h v = lastX false) (e : ¬ sumB h v = lastX true) : sumR h v = noR 5 := by
  unfold sumR; rw [if_neg (show ¬ sumB h v = 1 from e0), if_neg (show ¬ sumB h v = 734539939 from e)]

set_option maxRecDepth 100000 in
set_option maxHeartbeats 6400000 in
theorem frombech_any (s : ByteArray) (w : World) (hc : BechIs w) (hs : s.size ≤ 140737488355328) :
    Calls Tryz.prog 32 #[.string s] w (BechPost w (fromS s.data.toList)) := by
  have hhs : s.data.toList.length = s.size := rfl
  by_cases h1 : 90 < s.size
  · have hr := fromS_size (cs := s.data.toList) (by omega)
    rw [hr]
    have d1 : decide (90 < (s.size : Int)) = true := decide_eq_true (by omega)
    clear hr hhs h1
    go_enter Tryz.func32, Tryz.ntmps32
    go_wp2_with fail
    (try simp only [Exit.inBlock, Exit.then]); refine bodyPost_ret (results_tmp4 rfl _ _ _) rfl ?_
    exact ⟨_, rfl, Byt.nil _ _, Below.refl _ _⟩
  · have d1 : decide (90 < (s.size : Int)) = false := decide_eq_false (by omega)
    have SP := Lib.hid (split_any s w (by omega))
    cases hsp : splitOk s.data.toList with
    | false =>
      rw [fromS_form (by omega) hsp]
      have HSP := Lib.hid hsp
      clear hsp hhs h1
      go_enter Tryz.func32, Tryz.ntmps32
      go_wp2_with fail
      refine SP.out.mono ?_
      rintro e w1 ⟨hb1, ⟨ht, _⟩ | ⟨_, rfl⟩⟩
      · rw [HSP.out] at ht; cases ht
      · go_wp2_with fail
        (try simp only [Exit.inBlock, Exit.then]); refine bodyPost_ret (results_tmp4 rfl _ _ _) rfl ?_
        exact ⟨_, rfl, Byt.nil _ _, hb1⟩
    | true =>
      obtain ⟨h6, h32⟩ := vals_length hsp
      rw [fromS_sum (by omega) hsp]
      have hvl : (valsS s.data.toList).length ≤ 90 := by
        unfold valsS tailS
        rw [placesB_length, List.length_drop, lowS_length]
        omega
      obtain ⟨hd, hhd⟩ : ∃ hd, hd = headS s.data.toList := ⟨_, rfl⟩
      have hhl : hd.length ≤ 90 := by rw [hhd]; unfold headS; rw [List.length_take, lowS_length]; omega
      obtain ⟨vs, hvs⟩ : ∃ vs, vs = valsS s.data.toList := ⟨_, rfl⟩
      rw [← hvs] at h6 h32 hvl
      rw [← hvs, ← hhd]
      obtain ⟨n, hn⟩ : ∃ n, n = vs.length := ⟨_, rfl⟩
      obtain ⟨k, hk⟩ : ∃ k, n = k + 6 := ⟨n - 6, by omega⟩
      have hq := fun m => sum_eq hd vs k (by omega) h32 m
      obtain ⟨D, hD⟩ : ∃ D, D = vs.take k := ⟨_, rfl⟩
      obtain ⟨T, hT⟩ : ∃ T, T = vs.drop k := ⟨_, rfl⟩
      have hDk : vs.take (vs.length - 6) = D := by rw [hD]; congr 1; omega
      have hDl : D.length = k := by rw [hD, List.length_take]; omega
      have hTl : T.length = 6 := by rw [hT, List.length_drop]; omega
      simp only [← hD, ← hT] at hq
      obtain ⟨H, hH⟩ : ∃ H : ByteArray, H = ⟨hd.toArray⟩ := ⟨_, rfl⟩
      have hHs : H.size ≤ 90 := by rw [hH]; show hd.toArray.size ≤ 90; rw [List.size_toArray]; exact hhl
      have hHd : hd = H.data.toList := by rw [hH]
      have hlo : sumB hd vs = lastX false → sumR hd vs = ⟨0, hd, D, false⟩ := fun e => by rw [sumR_lo e, hDk]
      have hhi : ¬ sumB hd vs = lastX false → sumB hd vs = lastX true → sumR hd vs = ⟨0, hd, D, true⟩ := fun e0 e => by rw [sumR_hi e0 e, hDk]
      have hno : ¬ sumB hd vs = lastX false → ¬ sumB hd vs = lastX true → sumR hd vs = noR 5 := fun e0 e => sumR_no e0 e
      have hk84 : k ≤ 84 := by omega
      have HSP := Lib.hid hsp
      have HVS := Lib.hid hvs
      have HHD := Lib.hid hhd
      have HQ := Lib.hid hq
      have HLO := Lib.hid hlo
      have HHI := Lib.hid hhi
      have HNO := Lib.hid hno
      have HN := Lib.hid hn
      have HK := Lib.hid hk
      have HD := Lib.hid hD
      have HT := Lib.hid hT
      have HDL := Lib.hid hDl
      have HTL := Lib.hid hTl
      have HHH := Lib.hid hH
      have HHS := Lib.hid hHd
      have HC := Lib.hid hc
      have i0 : ∀ w, (Instr.index 108 (.agg #[.bool false, .bool true]) (.int .i64 0)).run Tryz.prog w = .ok (.bool false) w := fun _ => by kernel_rfl
      have i1 : ∀ w, (Instr.index 108 (.agg #[.bool false, .bool true]) (.int .i64 1)).run Tryz.prog w = .ok (.bool true) w := fun _ => by kernel_rfl
      clear hsp hhs h1 hvs hhd hq hlo hhi hno hk hD hT hDk hDl hTl hH hHd h32 hhl hvl hc
      go_enter Tryz.func32, Tryz.ntmps32
      go_wp2_with fail
      refine SP.out.mono ?_
      rintro e w1 ⟨hb1, ⟨_, v, rfl, hby⟩ | ⟨hf, _⟩⟩
      · rw [← HHD.out, ← HHH.out]
        rw [← HVS.out] at hby
        obtain ⟨A, c, rfl⟩ := hby.form
        have hcap := hby.cap
        have hs1 := hb1.size
        rw [← hn] at hby hcap ⊢
        have sa := run_tail A n c k (by have := HK.out; omega)
        have s3 := run_to3 A n c k (by have := HK.out; omega)
        obtain ⟨A2, hA2⟩ : ∃ A2, A2 = if c = k then A else A.map (fun x => x.add k) := ⟨_, rfl⟩
        have hnm : n - k = 6 := by have := HK.out; omega
        rw [← hA2, hnm] at sa
        rw [hn] at hby
        have tT : Byt w1 w1.heap.size (.slice A2 6 (c - k)) T := by
          have h := hby.tail (k := k) (by have := HK.out; omega)
          rw [← hA2, ← hn, hnm, ← HT.out] at h
          exact h
        have tM : Byt w1 w1.heap.size (.slice A k k) D := by
          have h := byt_cap hby (k := k) (by have := HK.out; omega)
          rw [← HD.out] at h
          exact h
        have TT := Lib.hid tT
        have TM := Lib.hid tM
        have HB1 := Lib.hid hb1
        have hw : IntKind.i64.wrap ((n : Int) - 6) = (k : Int) := by rw [IntWalk.i64_in _ (by omega)]; have := HK.out; omega
        have hn90 : n ≤ 90 := by have := HK.out; omega
        clear hby hb1 tT tM hA2 hnm hn SP
        go_wp2_with fail
        refine wp_region_held_drew (S := AnyW) (by kernel_rfl) ?_ (fun hHeld => ?_)
        · exact anyW _
        refine wpAnyH_take (i := 0) (oi := { dst := some 28, op := Go.Op.move (Go.Operand.tmp 7), type := 23, pos := "bech32.go:44", after := #[], guard := none }) (v := ?av0) rfl (by kernel_rfl) (by kernel_rfl) (by kernel_rfl) (fun _ _ _ h => h) (Or.inl ⟨by rfl, ?ay0⟩) (by assumption) ?ar0
        case ay0 => (intro w hSw; (try dsimp only at hSw); go_simp; try (with_reducible rfl))
        case ar0 =>
        try simp only [Act.put, List.setIfInBounds_toArray, List.set_cons_zero, List.set_cons_succ]
        refine wpAnyH_take (i := 1) (oi := { dst := some 29, op := Go.Op.move (Go.Operand.tmp 9), type := 3, pos := "bech32.go:44", after := #[], guard := none }) (v := ?av1) rfl (by kernel_rfl) (by kernel_rfl) (by kernel_rfl) (fun _ _ _ h => h) (Or.inl ⟨by rfl, ?ay1⟩) (by assumption) ?ar1
        case ay1 => (intro w hSw; (try dsimp only at hSw); go_simp; try (with_reducible rfl))
        case ar1 =>
        try simp only [Act.put, List.setIfInBounds_toArray, List.set_cons_zero, List.set_cons_succ]
        refine wpAnyH_take (i := 2) (oi := { dst := some 30, op := Go.Op.move (Go.Operand.tmp 9), type := 3, pos := "bech32.go:44", after := #[], guard := none }) (v := ?av2) rfl (by kernel_rfl) (by kernel_rfl) (by kernel_rfl) (fun _ _ _ h => h) (Or.inl ⟨by rfl, ?ay2⟩) (by assumption) ?ar2
        case ay2 => (intro w hSw; (try dsimp only at hSw); go_simp; try (with_reducible rfl))
        case ar2 =>
        try simp only [Act.put, List.setIfInBounds_toArray, List.set_cons_zero, List.set_cons_succ]
        refine wpAnyH_take (i := 3) (oi := { dst := some 31, op := Go.Op.slice 23 (Go.Operand.tmp 28) none (some (Go.Operand.tmp 29)) (some (Go.Operand.tmp 30)), type := 23, pos := "bech32.go:44", after := #[{ on := 0, ground := Go.Ground.data }, { on := 1, ground := Go.Ground.data }, { on := 2, ground := Go.Ground.data }], guard := none }) (v := (.slice A k k)) rfl (by kernel_rfl) (by kernel_rfl) (by kernel_rfl) (fun _ _ _ h => h) (Or.inl ⟨by rfl, ?ay3⟩) (by assumption) ?ar3
        case ay3 => (intro w hSw; (try dsimp only at hSw); go_simp; try (with_reducible rfl))
        case ar3 =>
        try simp only [Act.put, List.setIfInBounds_toArray, List.set_cons_zero, List.set_cons_succ]
        refine wpAnyH_take (i := 4) (oi := { dst := some 32, op := Go.Op.move (Go.Operand.tmp 7), type := 23, pos := "bech32.go:44", after := #[], guard := none }) (v := ?av4) rfl (by kernel_rfl) (by kernel_rfl) (by kernel_rfl) (fun _ _ _ h => h) (Or.inl ⟨by rfl, ?ay4⟩) (by assumption) ?ar4
        case ay4 => (intro w hSw; (try dsimp only at hSw); go_simp; try (with_reducible rfl))
        case ar4 =>
        try simp only [Act.put, List.setIfInBounds_toArray, List.set_cons_zero, List.set_cons_succ]
        refine wpAnyH_take (i := 5) (oi := { dst := some 33, op := Go.Op.move (Go.Operand.tmp 9), type := 3, pos := "bech32.go:44", after := #[], guard := none }) (v := ?av5) rfl (by kernel_rfl) (by kernel_rfl) (by kernel_rfl) (fun _ _ _ h => h) (Or.inl ⟨by rfl, ?ay5⟩) (by assumption) ?ar5
        case ay5 => (intro w hSw; (try dsimp only at hSw); go_simp; try (with_reducible rfl))
        case ar5 =>
        try simp only [Act.put, List.setIfInBounds_toArray, List.set_cons_zero, List.set_cons_succ]
        refine wpAnyH_take (i := 6) (oi := { dst := some 34, op := Go.Op.slice 23 (Go.Operand.tmp 32) (some (Go.Operand.tmp 33)) none none, type := 23, pos := "bech32.go:44", after := #[{ on := 4, ground := Go.Ground.data }, { on := 5, ground := Go.Ground.data }], guard := none }) (v := (.slice A2 6 (c - k))) rfl (by kernel_rfl) (by kernel_rfl) (by kernel_rfl) (fun _ _ _ h => h) (Or.inl ⟨by rfl, ?ay6⟩) (by assumption) ?ar6
        case ay6 => (intro w hSw; (try dsimp only at hSw); go_simp; try (with_reducible rfl))
        case ar6 =>
        try simp only [Act.put, List.setIfInBounds_toArray, List.set_cons_zero, List.set_cons_succ]
        refine wpAnyH_take (i := 7) (oi := { dst := some 10, op := Go.Op.assign (Go.Operand.tmp 31), type := 23, pos := "bech32.go:44", after := #[{ on := 3, ground := Go.Ground.data }, { on := 0, ground := Go.Ground.phase }, { on := 1, ground := Go.Ground.phase }, { on := 2, ground := Go.Ground.phase }, { on := 3, ground := Go.Ground.phase }, { on := 4, ground := Go.Ground.textOnly Go.Departure.lateStores }, { on := 5, ground := Go.Ground.textOnly Go.Departure.lateStores }, { on := 6, ground := Go.Ground.textOnly Go.Departure.lateStoresUnsure }], guard := none }) (v := ?av7) rfl (by kernel_rfl) (by kernel_rfl) (by kernel_rfl) (fun _ _ _ h => h) (Or.inl ⟨by rfl, ?ay7⟩) (by assumption) ?ar7
        case ay7 => (intro w hSw; (try dsimp only at hSw); go_simp; try (with_reducible rfl))
        case ar7 =>
        try simp only [Act.put, List.setIfInBounds_toArray, List.set_cons_zero, List.set_cons_succ]
        refine wpAnyH_take (i := 8) (oi := { dst := some 11, op := Go.Op.assign (Go.Operand.tmp 34), type := 23, pos := "bech32.go:44", after := #[{ on := 6, ground := Go.Ground.data }, { on := 7, ground := Go.Ground.chain }, { on := 0, ground := Go.Ground.phase }, { on := 1, ground := Go.Ground.phase }, { on := 2, ground := Go.Ground.phase }, { on := 3, ground := Go.Ground.phase }, { on := 4, ground := Go.Ground.phase }, { on := 5, ground := Go.Ground.phase }, { on := 6, ground := Go.Ground.phase }, { on := 7, ground := Go.Ground.phase }], guard := none }) (v := ?av8) rfl (by kernel_rfl) (by kernel_rfl) (by kernel_rfl) (fun _ _ _ h => h) (Or.inl ⟨by rfl, ?ay8⟩) (by assumption) ?ar8
        case ay8 => (intro w hSw; (try dsimp only at hSw); go_simp; try (with_reducible rfl))
        case ar8 =>
        try simp only [Act.put, List.setIfInBounds_toArray, List.set_cons_zero, List.set_cons_succ]
        refine wpAnyH_done (by kernel_rfl) ?_ _
        go_wp2_with fail
        clear sa s3
        go_loopw [36] (fun j wr => (j = .int .i64 0 ∨ (j = .int .i64 1 ∧ Hid (¬ sumB hd vs = lastX false)) ∨ (j = .int .i64 2 ∧ Hid (¬ sumB hd vs = lastX false) ∧ Hid (¬ sumB hd vs = lastX true))) ∧ Hid (Below w1.heap.size w1 wr)) (fun j _ => 2 - (intOf j).toNat)
        case atStart => exact ⟨.inl rfl, Lib.hid ⟨rfl, rfl, rfl, Nat.le_refl _, fun _ _ => rfl⟩⟩
        case round =>
          obtain ⟨rfl | ⟨rfl, HN0⟩ | ⟨rfl, HN0, HN1⟩, HBL⟩ := hrel
          · as_aux_lemma =>
              have hbs := HBL.out.size
              have S := sum32_any w1.heap.size H (.slice A k k) D false wr (HC.out.below (HB1.out.trans (HBL.out.mono hs1)) HC.out.1) (TM.out.below HBL.out) hbs (by omega) (by rw [HDL.out]; omega)
              rw [← HHS.out] at S
              have HSUM := Lib.hid S
              clear S
              go_wp2_with fail
              refine HSUM.out.mono ?_
              rintro e w2 ⟨g, rfl, hg, hrow, hb2⟩
              have hby2 := hrow.byt (n := 6) (c := 6) (by rw [closeB_length]; omega) (by omega) (by unfold maxLen; omega)
              rw [List.take_of_length_le (by rw [closeB_length]; omega)] at hby2
              have EQ := bequal_any w1.heap.size _ (.slice A2 6 (c - k)) (.slice (some ⟨g, 0, none⟩) 6 6) T (closeB hd D false) w2 (TT.out.below (HBL.out.trans (hb2.mono hbs))) hby2
              rw [HQ.out false] at EQ
              have HEQ := Lib.hid EQ
              have HB2 := Lib.hid (HBL.out.trans (hb2.mono hbs))
              clear EQ hby2 hrow hb2 HSUM
              go_wp2_with fail
              refine HEQ.out.mono ?_
              rintro e w3 ⟨rfl, rfl⟩
              by_cases hq : sumB hd vs = lastX false
              · rw [decide_eq_true hq]
                have HR := Lib.hid (HLO.out hq)
                clear hq
                go_wp2_with fail
                (try simp only [Exit.inBlock, Exit.then]); refine bodyPost_ret (results_tmp4 rfl _ _ _) rfl ?_
                exact ⟨.slice A k k, by rw [HR.out, HHH.out]; rfl, by rw [HR.out]; exact (TM.out.below HB2.out).more HB2.out.size, HB1.out.trans (HB2.out.mono hs1)⟩
              · rw [decide_eq_false hq]
                have HNE := Lib.hid hq
                clear hq
                go_wp2_with fail
                exact ⟨⟨.inr (.inl ⟨rfl, HNE⟩), HB2⟩, by simp [intOf]⟩
          · as_aux_lemma =>
              have hbs := HBL.out.size
              have S := sum32_any w1.heap.size H (.slice A k k) D true wr (HC.out.below (HB1.out.trans (HBL.out.mono hs1)) HC.out.1) (TM.out.below HBL.out) hbs (by omega) (by rw [HDL.out]; omega)
              rw [← HHS.out] at S
              have HSUM := Lib.hid S
              clear S
              go_wp2_with fail
              refine HSUM.out.mono ?_
              rintro e w2 ⟨g, rfl, hg, hrow, hb2⟩
              have hby2 := hrow.byt (n := 6) (c := 6) (by rw [closeB_length]; omega) (by omega) (by unfold maxLen; omega)
              rw [List.take_of_length_le (by rw [closeB_length]; omega)] at hby2
              have EQ := bequal_any w1.heap.size _ (.slice A2 6 (c - k)) (.slice (some ⟨g, 0, none⟩) 6 6) T (closeB hd D true) w2 (TT.out.below (HBL.out.trans (hb2.mono hbs))) hby2
              rw [HQ.out true] at EQ
              have HEQ := Lib.hid EQ
              have HB2 := Lib.hid (HBL.out.trans (hb2.mono hbs))
              clear EQ hby2 hrow hb2 HSUM
              go_wp2_with fail
              refine HEQ.out.mono ?_
              rintro e w3 ⟨rfl, rfl⟩
              by_cases hq : sumB hd vs = lastX true
              · rw [decide_eq_true hq]
                have HR := Lib.hid (HHI.out HN0.out hq)
                clear hq
                go_wp2_with fail
                (try simp only [Exit.inBlock, Exit.then]); refine bodyPost_ret (results_tmp4 rfl _ _ _) rfl ?_
                exact ⟨.slice A k k, by rw [HR.out, HHH.out]; rfl, by rw [HR.out]; exact (TM.out.below HB2.out).more HB2.out.size, HB1.out.trans (HB2.out.mono hs1)⟩
              · rw [decide_eq_false hq]
                have HNE := Lib.hid hq
                clear hq
                go_wp2_with fail
                exact ⟨⟨.inr (.inr ⟨rfl, HN0, HNE⟩), HB2⟩, by simp [intOf]⟩
          · as_aux_lemma =>
              have HR := Lib.hid (HNO.out HN0.out HN1.out)
              go_wp2_with fail
              (try simp only [Exit.inBlock, Exit.then]); refine bodyPost_ret (results_tmp4 rfl _ _ _) rfl ?_
              exact ⟨.slice none 0 0, by rw [HR.out]; rfl, by rw [HR.out]; exact Byt.nil _ _, HB1.out.trans (HBL.out.mono hs1)⟩
      · rw [HSP.out] at hf; cases hf
end Go.Proofs.YtocblkacdoahfaaGreatDoor.Tx

/-
  text.Regroup. Conditions: sizes within the reach.
-/
namespace Go.Proofs.YtocblkacdoahfaaGreatDoor
open Go.RowKit

theorem width_yes (n : Int) (w : World) (h0 : 1 ≤ n) (h1 : n ≤ 8) :
    Calls Tryz.prog 55 #[.int .i64 n] w fun e w' => e = .returned (.bool true) ∧ w = w' := by
  have d0 : decide (1 ≤ n) = true := decide_eq_true h0
  have d1 : decide (n ≤ 8) = true := decide_eq_true h1
  go_enter Tryz.func55, Tryz.ntmps55
  go_wp2
  go_ret
  exact ⟨rfl, rfl⟩
theorem width_no (n : Int) (w : World) (h : n < 1 ∨ 8 < n) :
    Calls Tryz.prog 55 #[.int .i64 n] w fun e w' => e = .returned (.bool false) ∧ w = w' := by
  by_cases h0 : 1 ≤ n
  · have d0 : decide (1 ≤ n) = true := decide_eq_true h0
    have d1 : decide (n ≤ 8) = false := decide_eq_false (by omega)
    go_enter Tryz.func55, Tryz.ntmps55
    go_wp2
    go_ret
    exact ⟨rfl, rfl⟩
  · have d0 : decide (1 ≤ n) = false := decide_eq_false h0
    go_enter Tryz.func55, Tryz.ntmps55
    go_wp2
    go_ret
    exact ⟨rfl, rfl⟩

/-- What regrouping answers. -/
def RegPost (w : World) (r : Int × List UInt8) (e : Ending) (w' : World) : Prop :=
  ∃ v, e = .returned (.tuple #[v, .int .i64 r.1]) ∧ OwnB w' w.heap.size v r.2 ∧ Below w.heap.size w w'

/-- Behind the first bits l: q values, and hv bits left, which are rr. -/
structure Left (b : Nat) (l : List Nat) (q hv rr : Nat) : Prop where
  len : b * q + hv = l.length
  val : rr = valN (l.drop (b * q))
theorem Left.rest {b q hv rr : Nat} {l : List Nat} (h : Left b l q hv rr) : (l.drop (b * q)).length = hv := by rw [List.length_drop]; have := h.len; omega
theorem Left.lt {b q hv rr : Nat} {l : List Nat} (h : Left b l q hv rr) (hb : Bin l) : rr < 2 ^ hv := by
  have := valN_lt (l := l.drop (b * q)) (fun x hx => hb x (List.mem_of_mem_drop hx))
  rw [h.rest] at this
  rw [h.val]; exact this
theorem Left.more {b q hv rr a v : Nat} {l : List Nat} (h : Left b l q hv rr) (hv2 : v < 2 ^ a) : Left b (l ++ bitsV a v) q (hv + a) (rr * 2 ^ a + v) := by
  refine ⟨by rw [List.length_append, bitsV_length]; have := h.len; omega, ?_⟩
  rw [List.drop_append_of_le_length (by have := h.len; omega), valN_append, bitsV_length, bitsV_val _ _ hv2, ← h.val]
theorem Left.less {b q hv rr : Nat} {l : List Nat} (h : Left b l q hv rr) (hb : Bin l) (hle : b ≤ hv) :
    Left b l (q + 1) (hv - b) (rr % 2 ^ (hv - b)) ∧ outsN b l (q + 1) = outsN b l q ++ [b8 ((rr / 2 ^ (hv - b) : Nat) : Int)] ∧ rr / 2 ^ (hv - b) < 2 ^ b := by
  have hbin : Bin (l.drop (b * q)) := fun x hx => hb x (List.mem_of_mem_drop hx)
  obtain ⟨h1, h2⟩ := split_left (t := b) hbin
  rw [h.rest, ← h.val] at h1 h2
  have hd : (l.drop (b * q)).drop b = l.drop (b * (q + 1)) := by rw [List.drop_drop]; congr 1
  refine ⟨⟨by rw [Nat.mul_add, Nat.mul_one]; have := h.len; omega, by rw [h2, hd]⟩, by rw [outsN_succ, h1], ?_⟩
  rw [h1]
  have := valN_lt (l := (l.drop (b * q)).take b) (fun x hx => hbin x (List.mem_of_mem_take hx))
  refine Nat.lt_of_lt_of_le this (Nat.pow_le_pow_right (by omega) (List.length_take_le _ _))

theorem regS_eval {a b q hv rr : Nat} {ds : List UInt8} (ha0 : 1 ≤ a) (ha1 : a ≤ 8) (hb0 : 1 ≤ b) (hb1 : b ≤ 8) (hd : ∀ d ∈ ds, d.toNat < 2 ^ a) (h : Left b (bitsAll a ds) q hv rr) (hlt : hv < b) (pad : Bool) :
    regS a b pad ds = if pad then (0, if 0 < hv then outsN b (bitsAll a ds) q ++ [b8 ((rr * 2 ^ (b - hv) : Nat) : Int)] else outsN b (bitsAll a ds) q) else if a ≤ hv ∨ rr ≠ 0 then (3, []) else (0, outsN b (bitsAll a ds) q) := by
  have e1 : (a : Int).toNat = a := Int.toNat_natCast _
  have e2 : (b : Int).toNat = b := Int.toNat_natCast _
  have hq : (bitsAll a ds).length / b = q := by
    rw [← h.len, Nat.mul_add_div (by omega), Nat.div_eq_of_lt hlt, Nat.add_zero]
  have hnb : ¬ ∃ d ∈ ds, 2 ^ a ≤ d.toNat := fun ⟨d, h1, h2⟩ => by have := hd d h1; omega
  unfold regS
  rw [if_neg (by omega), e1, e2, if_neg hnb]
  simp only [hq, h.rest]
  rw [← h.val, valN_append, valN_zeros, List.length_replicate, ← h.val, Nat.add_zero]
theorem regS_bad {a b : Nat} {ds : List UInt8} (ha0 : 1 ≤ a) (ha1 : a ≤ 8) (hb0 : 1 ≤ b) (hb1 : b ≤ 8) (hd : ∃ d ∈ ds, 2 ^ a ≤ d.toNat) (pad : Bool) : regS a b pad ds = (3, []) := by
  have e1 : (a : Int).toNat = a := Int.toNat_natCast _
  unfold regS
  rw [if_neg (by omega), e1, if_pos hd]
theorem regS_out {f t : Int} {ds : List UInt8} (h : f < 1 ∨ 8 < f ∨ t < 1 ∨ 8 < t) (pad : Bool) : regS f t pad ds = (1, []) := by
  unfold regS
  rw [if_pos h]
theorem pow_8 {a : Nat} (h : a ≤ 8) : (2 : Nat) ^ a ≤ 256 := Nat.pow_le_pow_right (n := 2) (by omega) h

set_option maxRecDepth 100000 in
set_option maxHeartbeats 6400000 in
theorem regroup_good (B : Nat) (x : Value) (ds : List UInt8) (a b : Nat) (pad : Bool) (w : World) (hx : Byt w B x ds) (hB : B ≤ w.heap.size) (hl : ds.length ≤ 20000) (ha0 : 1 ≤ a) (ha1 : a ≤ 8) (hb0 : 1 ≤ b) (hb1 : b ≤ 8) :
    Calls Tryz.prog 30 #[x, .int .i64 a, .int .i64 b, .bool pad] w (RegPost w (regS a b pad ds)) := by
  obtain ⟨i0, hi, hz0, hz1, hz2⟩ := info_parts info_u8
  obtain ⟨A, c, hxf⟩ := hx.form
  subst hxf
  have hX := Lib.hid hx
  have W1 := Lib.hid (fun W => width_yes (a : Int) W (by omega) (by omega))
  have W2 := Lib.hid (fun W => width_yes (b : Int) W (by omega) (by omega))
  obtain ⟨p, hp⟩ : ∃ p, p = ds.length * a := ⟨_, rfl⟩
  have hpb : p ≤ 160000 := by rw [hp]; exact Nat.mul_le_mul hl ha1
  have e1 : (ds.length : Int) * (a : Int) = (p : Int) := by rw [hp]; simp
  obtain ⟨k, hk⟩ : ∃ k, k = (p + b - 1) / b := ⟨_, rfl⟩
  have hkb : k ≤ 160008 := by rw [hk]; exact Nat.le_trans (Nat.div_le_self _ _) (by omega)
  have e2 : ((p : Int) + (b : Int) - 1) / (b : Int) = (k : Int) := by
    rw [hk]
    have : ((p + b - 1 : Nat) : Int) = (p : Int) + (b : Int) - 1 := by omega
    rw [Int.natCast_ediv, this]
  have e3 : ¬ ((b : Int) = 0) := by omega
  obtain ⟨w0, hmk, hown0, hg0⟩ := run_make_own (P := Tryz.prog) w w.heap.size 23 5 i0 (.int .u8 0) 1 slice_u8 hi hz0 hz1 .i64 .i64 k (by rw [hz2]; omega) (by unfold maxLen; omega) (Nat.le_refl _)
  have hb0w : Below w.heap.size w w0 := (Below.refl _ _).grown hg0 (Nat.le_refl _) (fun k hk => by cases hk)
  have HB0 := Lib.hid hb0w
  have HO0 := Lib.hid hown0
  have HR := Lib.hid (fun q hv rr hd h hlt => regS_eval (a := a) (b := b) (q := q) (hv := hv) (rr := rr) (ds := ds) ha0 ha1 hb0 hb1 hd h hlt pad)
  have HRB := Lib.hid (fun hd => regS_bad (a := a) (b := b) (ds := ds) ha0 ha1 hb0 hb1 hd pad)
  have hpa := pow_8 ha1
  have hpb2 := pow_8 hb1
  have hpa0 : 1 ≤ 2 ^ a := Nat.one_le_two_pow
  obtain ⟨pa, hpae⟩ : ∃ pa, pa = 2 ^ a := ⟨_, rfl⟩
  rw [← hpae] at hpa hpa0
  have hpaI : (2 : Int) ^ a = (pa : Int) := by rw [hpae]; simp
  have HPA := Lib.hid hpae
  have HPAI := Lib.hid hpaI
  clear hx hp hk hg0 hb0w hown0 hpae hpaI
  go_enter Tryz.func30, Tryz.ntmps30
  go_wp2_with fail
  refine (W1.out _).mono ?_
  rintro e w' ⟨rfl, rfl⟩
  go_wp2_with fail
  refine (W2.out _).mono ?_
  rintro e w' ⟨rfl, rfl⟩
  go_wp2_with fail
  clear hmk e1 e2
  go_loopw [35, 10, 11, 12] (fun j v r h wr => ∃ i q hv rr : Nat, i ≤ ds.length ∧ j = .int .i64 i ∧ OwnB wr w.heap.size v (outsN b (bitsAll a (ds.take i)) q) ∧ r = .int .i64 rr ∧ h = .int .i64 hv ∧ Hid (Left b (bitsAll a (ds.take i)) q hv rr) ∧ hv < b ∧ Hid (∀ d ∈ ds.take i, d.toNat < 2 ^ a) ∧ Below w.heap.size w wr) (fun j _ _ _ _ => ds.length - (intOf j).toNat)
  case atStart => exact ⟨0, 0, 0, 0, Nat.zero_le _, rfl, by simpa [outsN, OwnB] using HO0.out, rfl, rfl, Lib.hid ⟨by simp [bitsAll], by simp [bitsAll, valN]⟩, by omega, Lib.hid (by simp), HB0.out⟩
  case round =>
    obtain ⟨i, q, hv, rr, hi2, rfl, hown, rfl, rfl, hleft, hvb, hall, hbel⟩ := hrel
    have hrr := hleft.out.lt (bitsAll_bin _ _)
    have hrr2 : rr < 128 := Nat.lt_of_lt_of_le hrr (show 2 ^ hv ≤ 2 ^ 7 from Nat.pow_le_pow_right (by omega) (by omega))
    clear hrr
    by_cases hlt : i < ds.length
    · obtain ⟨A', c', e0, _, _, _, h4⟩ := hX.out
      injection e0 with e1 e2 e4
      subst e1 e4
      clear e2
      obtain ⟨bb, o, rfl, hbb, hbc⟩ := h4 (by rintro rfl; simp at hlt)
      have hci := hbc i _ (List.getElem?_eq_getElem hlt)
      obtain ⟨d, hd⟩ : ∃ d, d = ds[i] := ⟨_, rfl⟩
      rw [← hd] at hci
      have hbi : wr.cell? ⟨bb, o + i, none⟩ = some (.int .u8 (d.toNat : Int)) := (hbel.cell (p := ⟨bb, _, none⟩) (by show bb < _; omega)).trans hci
      have hqi : ds[i]? = some d := by rw [hd]; exact List.getElem?_eq_getElem hlt
      have hsn := bitsAll_snoc a hqi
      have hd256 := d.toNat_lt
      have HQI := Lib.hid hqi
      have HSN := Lib.hid hsn
      have hpaI2 := HPAI.out
      clear hbc h4 hci hd hqi hsn
      by_cases hbig : pa ≤ d.toNat
      · have hd1 : ((d.toNat : Int) / (pa : Int) != 0) = true := by
          have h1 : 0 < d.toNat / pa := Nat.div_pos hbig (by omega)
          have h2 : ((d.toNat : Int) / (pa : Int)) = ((d.toNat / pa : Nat) : Int) := by simp
          rw [h2]; simp; omega
        have HBAD : Hid (regS a b pad ds = (3, [])) := Lib.hid (HRB.out ⟨d, List.mem_of_getElem? HQI.out, by rw [← HPA.out]; exact hbig⟩)
        go_wp2
        go_ret2
        exact ⟨_, by rw [HBAD.out]; rfl, by rw [HBAD.out]; exact OwnB.nil _ _, hbel⟩
      · have hd1 : ((d.toNat : Int) / (pa : Int) != 0) = false := by
          have h1 : d.toNat / pa = 0 := Nat.div_eq_of_lt (by omega)
          have h2 : ((d.toNat : Int) / (pa : Int)) = ((d.toNat / pa : Nat) : Int) := by simp
          rw [h2, h1]; rfl
        obtain ⟨s, hs⟩ : ∃ s, s = rr * pa := ⟨_, rfl⟩
        have hsb : s ≤ 32768 := by rw [hs]; exact Nat.mul_le_mul (show rr ≤ 128 by omega) hpa
        have e1 : IntKind.i64.wrap ((rr : Int) * (pa : Int)) = (s : Int) := by
          have : (rr : Int) * (pa : Int) = ((s : Nat) : Int) := by rw [hs]; simp
          rw [this]; exact IntWalk.i64_in _ (by omega)
        have hsm : (s : Int) % 2 ^ a = 0 := by
          rw [hpaI2, hs]; simp
        have e2 : bits .or .i64 (s : Int) (d.toNat : Int) = (s : Int) + (d.toNat : Int) := by
          refine bits_join .i64 62 (by decide) (fun n h0 h1 => IntWalk.i64_in _ (by omega)) a (s : Int) (d.toNat : Int) (by omega) hsm (by omega) (by omega) (by rw [hpaI2]; omega) (by omega)
        have hmore := hleft.out.more (a := a) (v := d.toNat) (by rw [← HPA.out]; omega)
        rw [← HPA.out, ← hs, ← HSN.out] at hmore
        have houts : outsN b (bitsAll a (ds.take i)) q = outsN b (bitsAll a (ds.take (i + 1))) q := by
          rw [HSN.out, outsN_more _ (by have := hleft.out.len; omega)]
        rw [houts] at hown
        have HA1 : Hid (∀ e ∈ ds.take (i + 1), e.toNat < 2 ^ a) := Lib.hid (fun e he => by
          rw [List.take_add_one, HQI.out] at he
          rcases List.mem_append.1 he with h | h
          · exact hall.out e h
          · have : e = d := by simpa using h
            rw [this, ← HPA.out]; omega)
        have HM := Lib.hid hmore
        obtain ⟨l, hle⟩ : ∃ l, l = bitsAll a (ds.take (i + 1)) := ⟨_, rfl⟩
        rw [← hle] at hown HM
        have hlb : Bin l := by rw [hle]; exact bitsAll_bin _ _
        have hll : l.length ≤ 160008 := by
          rw [hle, bitsAll_length, List.length_take]
          exact Nat.le_trans (Nat.mul_le_mul (Nat.le_trans (Nat.min_le_right _ _) hl) ha1) (by omega)
        have HLE := Lib.hid hle
        have HLB := Lib.hid hlb
        clear hs hsm hmore houts hleft hall hle hlb
        have hpaI3 := HPAI.out
        go_wp2_with fail
        go_loopw [12, 10, 11] (fun h v r wx => ∃ q hv rr : Nat, h = .int .i64 hv ∧ hv ≤ 16 ∧ OwnB wx w.heap.size v (outsN b l q) ∧ r = .int .i64 rr ∧ Hid (Left b l q hv rr) ∧ Below w.heap.size w wx) (fun h _ _ _ => (intOf h).toNat)
        case atStart => exact ⟨q, hv + a, s + d.toNat, by go_num, by omega, hown, by go_num, HM, hbel⟩
        case round =>
          obtain ⟨q, hv, rr, rfl, hv16, hown2, rfl, hleft, hbel2⟩ := hrel
          have hrr := hleft.out.lt HLB.out
          have hrr3 : rr < 65536 := Nat.lt_of_lt_of_le hrr (show 2 ^ hv ≤ 2 ^ 16 from Nat.pow_le_pow_right (by omega) hv16)
          clear hrr
          by_cases hge : b ≤ hv
          · obtain ⟨hl1, hl2, hl3⟩ := hleft.out.less HLB.out hge
            obtain ⟨h2, hh2⟩ : ∃ h2, h2 = hv - b := ⟨_, rfl⟩
            rw [← hh2] at hl1 hl2 hl3
            have e1 : (hv : Int) - (b : Int) = (h2 : Int) := by omega
            obtain ⟨pw, hpw⟩ : ∃ pw, pw = 2 ^ h2 := ⟨_, rfl⟩
            have hpw1 : 1 ≤ pw := by rw [hpw]; exact Nat.one_le_two_pow
            have hpw2 : pw ≤ 65536 := by rw [hpw]; exact (show 2 ^ h2 ≤ 2 ^ 16 from Nat.pow_le_pow_right (by omega) (by omega))
            have ep : (2 : Int) ^ h2 = (pw : Int) := by rw [hpw]; simp
            rw [← hpw] at hl1 hl2 hl3
            obtain ⟨xv, hxv⟩ : ∃ xv, xv = rr / pw := ⟨_, rfl⟩
            obtain ⟨yv, hyv⟩ : ∃ yv, yv = rr % pw := ⟨_, rfl⟩
            rw [← hxv] at hl2 hl3
            rw [← hyv] at hl1
            have ex : (rr : Int) / (pw : Int) = (xv : Int) := by rw [hxv]; simp
            have ew1 : IntKind.i64.wrap (pw : Int) = (pw : Int) := IntWalk.i64_in _ (by omega)
            have ey : bits .and .i64 (rr : Int) ((pw : Int) - 1) = (yv : Int) := by
              have h := bits_mask .i64 62 (by decide) (fun n h0 h1 => IntWalk.i64_in _ (by omega)) h2 (by omega) (rr : Int) (by omega) (by omega)
              rw [ep] at h
              rw [h, hyv]
              simp
            have hx256 : xv < 256 := Nat.lt_of_lt_of_le hl3 hpb2
            have hmade : Byt (wr.alloc (.cells #[.int .u8 (xv : Int)] 5)) (wr.heap.size + 1) (.slice (some ⟨wr.heap.size, 0, none⟩) 1 1) [b8 (xv : Int)] :=
              Byt.made wr _ [_] [b8 (xv : Int)] (by rw [List.map_cons, List.map_nil, bv_b8_of (by omega) (by omega)]) (by unfold maxLen; simp)
            obtain ⟨Av3, cv3, hv3⟩ := hown2.form
            subst hv3
            have hbs3 := hbel2.size
            have hlen3 : (outsN b l q).length ≤ 160008 := by
              rw [outsN_length]
              have h1 := hleft.out.len
              have h2 : 1 * q ≤ b * q := Nat.mul_le_mul_right q hb0
              omega
            have hoa : (wr.alloc (.cells #[.int .u8 (xv : Int)] 5)).ownsRow w.heap.size 5 1 (.slice Av3 (outsN b l q).length cv3) (outsN b l q).length ((outsN b l q).map bv) := World.ownsRow.alloc hown2 _
            have HOA := Lib.hid hoa
            have HL1 := Lib.hid hl1
            have HL2 := Lib.hid hl2
            have hhb : h2 < hv := by omega
            clear hl1 hl2 hl3 hh2 hpw hxv hyv hoa hown2 hleft
            go_wp2_with (at_builtin; refine wpList_append_bytes rfl (.tmp 59) (.tmp 64) 23 rfl w.heap.size 5 i0 slice_u8 hi hz0 hz1 hz2 _ (outsN b l q).length ((outsN b l q).map bv) rfl HOA.out (wr.heap.size + 1) _ [b8 (xv : Int)] rfl hmade (by simp; omega) (by simp; omega) ?_; intro v1 w1 hown1 hg1 hat1)
            have hb1' : Below w.heap.size w w1 := (hbel2.alloc hbs3 _).grown hg1 (by simp; omega) (fun j hj => (HOA.out.lt j hj).1)
            refine ⟨⟨q + 1, h2, yv, rfl, by omega, ?_, rfl, HL1, hb1'⟩, by simp [intOf]; omega⟩
            rw [HL2.out]
            unfold OwnB
            rw [List.length_append, List.map_append]
            exact hown1
          · go_wp2
            exact ⟨⟨i + 1, q, hv, rr, by omega, by go_num, by rw [← HLE.out]; exact hown2, rfl, rfl, Lib.hid (by rw [← HLE.out]; exact hleft.out), by omega, HA1, hbel2⟩, by simp [intOf]; omega⟩
    · have hie : ds.take i = ds := List.take_of_length_le (by omega)
      rw [hie] at hown hleft hall
      have hreg := HR.out q hv rr hall.out hleft.out hvb
      have HREG := Lib.hid hreg
      have hq3 : q ≤ 160008 := by
        have h1 := hleft.out.len
        have h2 : 1 * q ≤ b * q := Nat.mul_le_mul_right q hb0
        have h3 : (bitsAll a ds).length ≤ 160000 := by rw [bitsAll_length]; exact Nat.mul_le_mul hl ha1
        omega
      obtain ⟨l, hle⟩ : ∃ l, l = bitsAll a ds := ⟨_, rfl⟩
      rw [← hle] at hown
      have HLE := Lib.hid hle
      have HLF := Lib.hid hleft.out
      clear hie hreg hle hleft hall HR HRB
      cases pad with
      | false =>
        by_cases h1 : a ≤ hv
        · have hd1 : decide (a ≤ hv) = true := decide_eq_true h1
          have hd2 : decide ((a : Int) ≤ (hv : Int)) = true := decide_eq_true (by omega)
          have HRE : Hid (regS a b false ds = (3, [])) := Lib.hid (by rw [HREG.out, if_neg (by simp), if_pos (.inl h1)])
          go_wp2
          go_ret2
          exact ⟨_, by rw [HRE.out]; rfl, by rw [HRE.out]; exact OwnB.nil _ _, hbel⟩
        · have hd1 : decide (a ≤ hv) = false := decide_eq_false h1
          have hd2 : decide ((a : Int) ≤ (hv : Int)) = false := decide_eq_false (by omega)
          by_cases h2 : rr = 0
          · have HRE : Hid (regS a b false ds = (0, outsN b l q)) := Lib.hid (by rw [HREG.out, if_neg (by simp), if_neg (by omega), HLE.out])
            subst h2
            have HOWN := Lib.hid hown
            clear hown
            go_wp2
            go_ret2
            exact ⟨_, by rw [HRE.out]; rfl, by rw [HRE.out]; exact HOWN.out, hbel⟩
          · have hd3 : ((rr : Int) != 0) = true := by simp; omega
            have HRE : Hid (regS a b false ds = (3, [])) := Lib.hid (by rw [HREG.out, if_neg (by simp), if_pos (.inr h2)])
            go_wp2
            go_ret2
            exact ⟨_, by rw [HRE.out]; rfl, by rw [HRE.out]; exact OwnB.nil _ _, hbel⟩
      | true =>
        by_cases h1 : 0 < hv
        · have hd1 : decide (0 < hv) = true := decide_eq_true h1
          have hd2 : decide ((0 : Int) < (hv : Int)) = true := decide_eq_true (by omega)
          obtain ⟨h2, hh2⟩ : ∃ h2, h2 = b - hv := ⟨_, rfl⟩
          have e1 : (b : Int) - (hv : Int) = (h2 : Int) := by omega
          obtain ⟨pw, hpw⟩ : ∃ pw, pw = 2 ^ h2 := ⟨_, rfl⟩
          have ep : (2 : Int) ^ h2 = (pw : Int) := by rw [hpw]; simp
          obtain ⟨zv, hzv⟩ : ∃ zv, zv = rr * pw := ⟨_, rfl⟩
          have hlt2 := HLF.out.lt (bitsAll_bin _ _)
          have hz256 : zv < 256 := by
            have h3 : rr * 2 ^ h2 < 2 ^ hv * 2 ^ h2 := Nat.mul_lt_mul_of_pos_right hlt2 (Nat.two_pow_pos _)
            rw [← Nat.pow_add] at h3
            have h4 : hv + h2 = b := by omega
            rw [h4] at h3
            rw [hzv, hpw]
            omega
          have ez : (rr : Int) * (pw : Int) = (zv : Int) := by rw [hzv]; simp
          have ew : IntKind.i64.wrap (zv : Int) = (zv : Int) := IntWalk.i64_in _ (by omega)
          have HRE : Hid (regS a b true ds = (0, outsN b l q ++ [b8 (zv : Int)])) := Lib.hid (by rw [HREG.out, if_pos rfl, if_pos h1, HLE.out, hzv, hpw, hh2])
          have hmade : Byt (wr.alloc (.cells #[.int .u8 (zv : Int)] 5)) (wr.heap.size + 1) (.slice (some ⟨wr.heap.size, 0, none⟩) 1 1) [b8 (zv : Int)] :=
            Byt.made wr _ [_] [b8 (zv : Int)] (by rw [List.map_cons, List.map_nil, bv_b8_of (by omega) (by omega)]) (by unfold maxLen; simp)
          obtain ⟨Av3, cv3, hv3⟩ := hown.form
          subst hv3
          have hbs3 := hbel.size
          have hlen3 : (outsN b l q).length ≤ 160008 := by rw [outsN_length]; exact hq3
          have hoa : (wr.alloc (.cells #[.int .u8 (zv : Int)] 5)).ownsRow w.heap.size 5 1 (.slice Av3 (outsN b l q).length cv3) (outsN b l q).length ((outsN b l q).map bv) := World.ownsRow.alloc hown _
          have HOA := Lib.hid hoa
          clear hlt2 hh2 hpw hzv hoa hown
          go_wp2_with (at_builtin; refine wpList_append_bytes rfl (.tmp 88) (.tmp 95) 23 rfl w.heap.size 5 i0 slice_u8 hi hz0 hz1 hz2 _ (outsN b l q).length ((outsN b l q).map bv) rfl HOA.out (wr.heap.size + 1) _ [b8 (zv : Int)] rfl hmade (by simp; omega) (by simp; omega) ?_; intro v1 w1 hown1 hg1 hat1; obtain ⟨Av4, cv4, rfl⟩ := own_form hown1)
          have hb1' : Below w.heap.size w w1 := (hbel.alloc hbs3 _).grown hg1 (by simp; omega) (fun j hj => (HOA.out.lt j hj).1)
          have HOWN := Lib.hid hown1
          clear hown1
          go_wp2
          go_ret2
          refine ⟨_, by rw [HRE.out]; rfl, ?_, hb1'⟩
          rw [HRE.out]
          unfold OwnB
          rw [List.length_append, List.map_append]
          exact HOWN.out
        · have hd1 : decide (0 < hv) = false := decide_eq_false h1
          have hd2 : decide ((0 : Int) < (hv : Int)) = false := decide_eq_false (by omega)
          have HRE : Hid (regS a b true ds = (0, outsN b l q)) := Lib.hid (by rw [HREG.out, if_pos rfl, if_neg h1, HLE.out])
          obtain ⟨Av3, cv3, hv3⟩ := hown.form
          subst hv3
          have HOWN := Lib.hid hown
          clear hown
          go_wp2
          go_ret2
          exact ⟨_, by rw [HRE.out]; rfl, by rw [HRE.out]; exact HOWN.out, hbel⟩
end Go.Proofs.YtocblkacdoahfaaGreatDoor
