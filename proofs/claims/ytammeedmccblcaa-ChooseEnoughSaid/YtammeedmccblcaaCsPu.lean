/-
  The least of the great coins; a hand parted. Conditions: at most a thousand coins.
-/
import Derived.Test.YtammeedmccblcaaCsPt
import Derived.Test.YtammeedmccblcaaCsCn
namespace Go.Proofs.Ytammeedmccblcaa.Cs
open Go.RowKit

theorem least_take {H : List Cn} {i : Nat} {c m : Cn} (hc : H[i]? = some c) (hm : leastD (H.take i) = some m) : leastD (H.take (i + 1)) = some (leastF m c) := by
  have h : ∀ (l : List Cn), leastD l = some m → leastD (l ++ [c]) = some (leastF m c) := fun l h => by
    cases l with
    | nil => cases h
    | cons a l =>
      show some ((l ++ [c]).foldl leastF a) = _
      rw [List.foldl_append]
      injection h with h
      rw [h]
      rfl
  rw [List.take_add_one, hc, Option.toList_some]
  exact h _ hm
theorem coin_results {w : World} {g : Nat} {c : Cn} (h : VRow w g 75 (cnC c)) (tm : Array Value) (ht : tm.getD 4 undef = .pointer (some ⟨g, 0, none⟩)) : (results Try.f53 tm).run Try.prog w = .ok (.agg (cnC c).toArray) w :=
  results_cell_row Try.results53 _ _ g 75 _ (0, 0) _ ht h Try.underlying75 rfl (by rw [List.size_toArray]; exact size_coin)
set_option maxRecDepth 100000 in
set_option maxHeartbeats 6400000 in
theorem min_any (B : Nat) (v : Value) (H : List Cn) (m0 : Cn) (w : World) (hX : CnR w B v H) (hB : B ≤ w.heap.size) (hl : H.length ≤ 1000) (hm0 : leastD H = some m0) :
    Calls Try.prog 53 #[v, .func (.func 54) #[] #[]] w fun e w' => e = .returned (.agg #[.int .i64 m0.1, .int .i64 (m0.2 : Int)]) ∧ Below w.heap.size w w' := by
  have hz : ∀ W, (zeroValue 75).run Try.prog W = .ok (.agg #[.int .i64 0, .int .i64 0]) W := fun W => by kernel_rfl
  have h0 : 0 < H.length := by
    cases H with
    | nil => cases hm0
    | cons a l => simp
  obtain ⟨x0, hx0⟩ : ∃ x, H[0]? = some x := ⟨_, List.getElem?_eq_getElem h0⟩
  have hst : leastD (H.take 1) = some x0 := by
    cases H with
    | nil => cases hm0
    | cons a l => injection hx0 with hx0; rw [hx0]; rfl
  obtain ⟨b0, o0, k0, rfl, hk1, hk2, hbl0, hc00, hc01⟩ := hX.at hx0
  rw [Nat.zero_mul, Nat.add_zero] at hc00 hc01
  obtain ⟨n, hn⟩ : ∃ z, z = H.length := ⟨_, rfl⟩
  rw [← hn] at hX hl h0 ⊢
  have HX := Lib.hid hX
  have HB := Lib.hid hB
  have HN := Lib.hid hn
  have HM := Lib.hid hm0
  have hb1 : Below w.heap.size w (w.alloc (.cells #[.int .i64 0, .int .i64 0] 75)) := (Below.refl _ _).alloc (Nat.le_refl _) _
  obtain ⟨w1, hw1⟩ : ∃ z, z = w.alloc (.cells #[.int .i64 0, .int .i64 0] 75) := ⟨_, rfl⟩
  have hv1 : VRow w1 w.heap.size 75 [.int .i64 0, .int .i64 0] := by rw [hw1]; exact VRow.new _ _ _
  have hs1 : w1.heap.size = w.heap.size + 1 := by rw [hw1]; simp
  rw [← hw1] at hb1
  have d1 : decide ((n : Int) < 1) = false := decide_eq_false (by omega)
  have y0 : w1.cell? ⟨b0, o0, none⟩ = some (.int .i64 x0.1) := (hb1.cell (p := ⟨b0, o0, none⟩) (Nat.lt_of_lt_of_le hbl0 hB)).trans hc00
  have y1 : w1.cell? ⟨b0, o0 + 1, none⟩ = some (.int .i64 (x0.2 : Int)) := (hb1.cell (p := ⟨b0, o0 + 1, none⟩) (Nat.lt_of_lt_of_le hbl0 hB)).trans hc01
  obtain ⟨w2, hw2⟩ : ∃ z, z = w1.alloc (.cells #[.int .i64 x0.1, .int .i64 (x0.2 : Int)] 75) := ⟨_, rfl⟩
  have hb12 : Below w1.heap.size w1 w2 := by rw [hw2]; exact (Below.refl _ _).alloc (Nat.le_refl _) _
  have V2 := Lib.hid (show VRow w2 w1.heap.size 75 (cnC x0) by rw [hw2]; exact VRow.new _ _ _)
  have R2 := Lib.hid (show VRow w2 w.heap.size 75 [.int .i64 0, .int .i64 0] from hv1.below hb12 hv1.lt)
  have B2 := Lib.hid (show Below w.heap.size w w2 from hb1.trans (hb12.mono (by omega)))
  have HST := Lib.hid hst
  clear hX hB hn hm0 hbl0 hc00 hc01 hst hb1 hv1 hb12
  go_enter Try.func53, Try.ntmps53
  go_upto_region 1 with fail
  change Code.wp _ _ _ _ (w.alloc (.cells #[.int .i64 0, .int .i64 0] 75))
  rw [← hw1]
  have HW2 := Lib.hid hw2
  clear hw1 hw2
  go_upto_region 4 with fail
  change Code.wp _ _ _ _ (w1.alloc (.cells #[.int .i64 x0.1, .int .i64 (x0.2 : Int)] 75))
  rw [← HW2.out]
  obtain ⟨GM, hGM⟩ : ∃ z, z = w.heap.size + 1 := ⟨_, rfl⟩
  obtain ⟨GR, hGR⟩ : ∃ z, z = w.heap.size := ⟨_, rfl⟩
  rw [hs1, ← hGM] at V2
  rw [← hGR] at R2
  rw [← hGM, ← hGR]
  have HNE := Lib.hid (show GM ≠ GR by omega)
  have HLE := Lib.hid (show w.heap.size ≤ GM ∧ w.heap.size ≤ GR by omega)
  clear HW2 y0 y1 hGM hGR hs1
  go_wp2_with fail
  go_loopw [6] (fun si wr => ∃ (i : Nat) (m : Cn), 1 ≤ i ∧ i ≤ n ∧ si = .int .i64 (i : Int) ∧ Hid (leastD (H.take i) = some m) ∧ Hid (VRow wr GM 75 (cnC m)) ∧ Hid (VRow wr GR 75 [.int .i64 0, .int .i64 0]) ∧ Hid (Below w.heap.size w wr)) (fun si _ => n - (intOf si).toNat)
  case atStart => exact ⟨1, x0, Nat.le_refl _, h0, rfl, HST, V2, R2, B2⟩
  case round =>
    obtain ⟨i, m, hi1, hi, rfl, hlm, hvm, hvr, hBW⟩ := hrel
    obtain ⟨w3, rfl⟩ : ∃ z : World, z = wr := ⟨_, rfl⟩
    by_cases hlt : i < n
    · have dj : decide ((i : Int) < (n : Int)) = true := decide_eq_true (by omega)
      obtain ⟨x, hx⟩ : ∃ x, H[i]? = some x := ⟨_, List.getElem?_eq_getElem (by rw [← HN.out]; exact hlt)⟩
      have hXw : CnR w3 B (.slice (some ⟨b0, o0, none⟩) n k0) H := by have := HX.out; exact this.below (hBW.out.mono HB.out)
      obtain ⟨b', o', c', ef, _, _, hbl, hc0, hc1⟩ := hXw.at hx
      injection ef with ef1 ef2 ef3
      injection ef1 with ef1
      injection ef1 with e1 e2 e3
      subst e1 e2
      clear ef2 ef3 e3
      have hnx := least_take hx hlm.out
      have HQ := Lib.hid (fun W => lessT_any x m W)
      obtain ⟨r, hr⟩ : ∃ z, z = cmpF x.1 m.1 := ⟨_, rfl⟩
      simp only [← hr] at HQ
      have hrg : w3.drew.rangeAt b0 (o0 + i * 2) (cnC x) := fun j v hv => by match j, hv with | 0, hv => (injection hv with hv; subst hv; exact hc0) | 1, hv => (injection hv with hv; subst hv; exact hc1)
      have HRG := Lib.hid hrg
      have VM := Lib.hid (show VRow w3.drew GM 75 (cnC m) from hvm.out)
      have VR := Lib.hid (show VRow w3.drew GR 75 [.int .i64 0, .int .i64 0] from hvr.out)
      have BL := Lib.hid (show b0 < w3.drew.heap.size from Nat.lt_of_lt_of_le hbl (Nat.le_trans HB.out hBW.out.size))
      have BW3 := Lib.hid (show Below w.heap.size w w3.drew from hBW.out.drew)
      have hin0 : (0 : Int) ≤ (i : Int) := by omega
      have hin1 : (i : Int) < (n : Int) := by omega
      by_cases hlx : x.1 < m.1
      · as_aux_lemma =>
        have dr : decide (r < 0) = true := decide_eq_true (by rw [hr]; unfold cmpF; rw [if_pos hlx]; decide)
        have hlf : leastF m x = x := if_pos hlx
        rw [hlf] at hnx
        have HNX := Lib.hid hnx
        clear hnx hXw hx hlm hvm hvr hBW hrg hc0 hc1 hlf hr
        go_upto_region 7 with fail
        refine wp_region_held_drew (S := (fun w' => VRow w' GM 75 (cnC m) ∧ w'.rangeAt b0 (o0 + i * 2) (cnC x))) (by kernel_rfl) ?_ (fun hHeld => ?_)
        · exact ⟨VM.out, HRG.out⟩
        refine wpAnyH_take (i := 0) (oi := { dst := some 20, op := Go.Op.move (Go.Operand.tmp 1), type := 89, pos := "sort.go:85", after := #[], guard := none }) (v := ?av0) rfl (by kernel_rfl) (by kernel_rfl) (by kernel_rfl) (fun _ _ _ h => h) (Or.inl ⟨by rfl, ?ay0⟩) (by assumption) ?ar0
        case ay0 => (intro w hSw; (try dsimp only at hSw); go_simp; try (with_reducible rfl))
        case ar0 =>
        try simp only [Act.put, List.setIfInBounds_toArray, List.set_cons_zero, List.set_cons_succ]
        refine wpAnyH_take (i := 1) (oi := { dst := some 21, op := Go.Op.move (Go.Operand.tmp 0), type := 58, pos := "sort.go:85", after := #[], guard := none }) (v := ?av1) rfl (by kernel_rfl) (by kernel_rfl) (by kernel_rfl) (fun _ _ _ h => h) (Or.inl ⟨by rfl, ?ay1⟩) (by assumption) ?ar1
        case ay1 => (intro w hSw; (try dsimp only at hSw); go_simp; try (with_reducible rfl))
        case ar1 =>
        try simp only [Act.put, List.setIfInBounds_toArray, List.set_cons_zero, List.set_cons_succ]
        refine wpAnyH_take (i := 2) (oi := { dst := some 22, op := Go.Op.move (Go.Operand.tmp 6), type := 3, pos := "sort.go:85", after := #[], guard := none }) (v := ?av2) rfl (by kernel_rfl) (by kernel_rfl) (by kernel_rfl) (fun _ _ _ h => h) (Or.inl ⟨by rfl, ?ay2⟩) (by assumption) ?ar2
        case ay2 => (intro w hSw; (try dsimp only at hSw); go_simp; try (with_reducible rfl))
        case ar2 =>
        try simp only [Act.put, List.setIfInBounds_toArray, List.set_cons_zero, List.set_cons_succ]
        refine wpAnyH_take (i := 3) (oi := { dst := some 23, op := Go.Op.indexAddr 58 (Go.Operand.tmp 21) (Go.Operand.tmp 22), type := 0, pos := "sort.go:85", after := #[{ on := 1, ground := Go.Ground.data }, { on := 2, ground := Go.Ground.data }], guard := none }) (v := ?av3) rfl (by kernel_rfl) (by kernel_rfl) (by kernel_rfl) (fun _ _ _ h => h) (Or.inl ⟨by rfl, ?ay3⟩) (by assumption) ?ar3
        case ay3 => (intro w hSw; (try dsimp only at hSw); go_simp; try (with_reducible rfl))
        case ar3 =>
        try simp only [Act.put, List.setIfInBounds_toArray, List.set_cons_zero, List.set_cons_succ]
        refine wpAnyH_take (i := 4) (oi := { dst := some 24, op := Go.Op.load 75 (Go.Operand.tmp 23), type := 75, pos := "sort.go:85", after := #[{ on := 3, ground := Go.Ground.data }], guard := none }) (v := (.agg #[.int .i64 x.1, .int .i64 (x.2 : Int)])) rfl (by kernel_rfl) (by kernel_rfl) (by kernel_rfl) (fun _ _ _ h => h) (yieldsIf_load_mid (by rfl) 75 (.tmp 23) rfl b0 (o0 + i * 2) rfl (cnC x) _ (fun w' h => h.2) Try.underlying75 rfl (by kernel_rfl)) (by assumption) ?_
        try simp only [Act.put, List.setIfInBounds_toArray, List.set_cons_zero, List.set_cons_succ]
        refine wpAnyH_take (i := 5) (oi := { dst := some 25, op := Go.Op.load 75 (Go.Operand.tmp 5), type := 75, pos := "sort.go:85", after := #[], guard := none }) (v := (.agg #[.int .i64 m.1, .int .i64 (m.2 : Int)])) rfl (by kernel_rfl) (by kernel_rfl) (by kernel_rfl) (fun _ _ _ h => h) (yieldsIf_load_mid (by rfl) 75 (.tmp 5) rfl GM 0 rfl (cnC m) _ (fun w' h => VRow.range h.1 (fun q v hv => by rw [Nat.zero_add]; exact hv)) Try.underlying75 rfl (by kernel_rfl)) (by assumption) ?_
        try simp only [Act.put, List.setIfInBounds_toArray, List.set_cons_zero, List.set_cons_succ]
        refine wpAnyH_ready (rs := [6]) (by kernel_rfl) (by simp) ?_
        refine AllReadyH.cons (o := { dst := some 26, op := Go.Op.call { callee := Go.Callee.value (Go.Operand.tmp 20), args := #[Go.Operand.tmp 24, Go.Operand.tmp 25], argTypes := #[75, 75] }, type := 3, pos := "sort.go:85", after := #[{ on := 0, ground := Go.Ground.data }, { on := 4, ground := Go.Ground.data }, { on := 5, ground := Go.Ground.data }], guard := none }) rfl (fun K hK => ?_) (AllReadyH.nil)
        go_simp
        refine (HQ.out _).mono ?_
        rintro e w4 ⟨rfl, hb4⟩
        go_simp
        refine hK.out _ _ ?_ (fun hHeld => ?_)
        · exact ⟨VM.out.below hb4 VM.out.lt, fun j v hv => (hb4.cell (p := ⟨b0, _, none⟩) BL.out).trans (HRG.out j v hv)⟩
        clear hK K
        try simp only [Act.put, List.setIfInBounds_toArray, List.set_cons_zero, List.set_cons_succ]
        refine wpAnyH_take (i := 7) (oi := { dst := some 27, op := Go.Op.binOp Go.BinOp.lss 3 (Go.Operand.tmp 26) (Go.Operand.const (Go.Value.int Go.IntKind.i64 0)) 3, type := 4, pos := "sort.go:85", after := #[{ on := 6, ground := Go.Ground.data }], guard := none }) (v := ?a_6v7) rfl (by kernel_rfl) (by kernel_rfl) (by kernel_rfl) (fun _ _ _ h => h) (Or.inl ⟨by rfl, ?a_6y7⟩) (by assumption) ?a_6r7
        case a_6y7 => (intro w hSw; (try dsimp only at hSw); go_simp; try (with_reducible rfl))
        case a_6r7 =>
        try simp only [Act.put, List.setIfInBounds_toArray, List.set_cons_zero, List.set_cons_succ]
        refine wpAnyH_done (by kernel_rfl) ?_ _
        have V4 := VM.out.below hb4 VM.out.lt
        have R4 := VR.out.below hb4 VR.out.lt
        have z0 : w4.cell? ⟨b0, o0 + i * 2, none⟩ = some (.int .i64 x.1) := (hb4.cell (p := ⟨b0, _, none⟩) BL.out).trans (HRG.out 0 _ rfl)
        have z1 : w4.cell? ⟨b0, o0 + i * 2 + 1, none⟩ = some (.int .i64 (x.2 : Int)) := (hb4.cell (p := ⟨b0, _, none⟩) BL.out).trans (HRG.out 1 _ rfl)
        have tt : Turns (fun q => q = GM) w4 (w4.setRow GM (cnC x).toArray) := Turns.setRow (S := fun q => q = GM) (Turns.refl _ _) (fun _ => rfl) _
        go_wp2_with (first | (refine wpList_store_vrow rfl 75 (.tmp 5) (.tmp 31) rfl (us := cnC x) rfl rfl V4 (by kernel_rfl) rfl (by simp only [cnC, List.all_toArray, List.all_cons, List.all_nil]; rfl) ?_))
        exact ⟨⟨i + 1, x, by omega, hlt, by first | rfl | exact next (by omega), HNX, Lib.hid (V4.setRow _), Lib.hid (VRow.turns R4 tt (fun e => HNE.out e.symm)), Lib.hid (below_setRow (BW3.out.trans (hb4.mono BW3.out.size)) HLE.out.1 _)⟩, by first | exact meas hlt (by omega) | (show n - ((i : Int) + 1).toNat < n - (i : Int).toNat; omega)⟩
      · as_aux_lemma =>
        have dr : decide (r < 0) = false := decide_eq_false (by rw [hr]; unfold cmpF; rw [if_neg hlx]; split <;> decide)
        have hlf : leastF m x = m := if_neg hlx
        rw [hlf] at hnx
        have HNX := Lib.hid hnx
        clear hnx hXw hx hlm hvm hvr hBW hrg hc0 hc1 hlf hr
        go_upto_region 7 with fail
        refine wp_region_held_drew (S := (fun w' => VRow w' GM 75 (cnC m) ∧ w'.rangeAt b0 (o0 + i * 2) (cnC x))) (by kernel_rfl) ?_ (fun hHeld => ?_)
        · exact ⟨VM.out, HRG.out⟩
        refine wpAnyH_take (i := 0) (oi := { dst := some 20, op := Go.Op.move (Go.Operand.tmp 1), type := 89, pos := "sort.go:85", after := #[], guard := none }) (v := ?bv0) rfl (by kernel_rfl) (by kernel_rfl) (by kernel_rfl) (fun _ _ _ h => h) (Or.inl ⟨by rfl, ?by0⟩) (by assumption) ?br0
        case by0 => (intro w hSw; (try dsimp only at hSw); go_simp; try (with_reducible rfl))
        case br0 =>
        try simp only [Act.put, List.setIfInBounds_toArray, List.set_cons_zero, List.set_cons_succ]
        refine wpAnyH_take (i := 1) (oi := { dst := some 21, op := Go.Op.move (Go.Operand.tmp 0), type := 58, pos := "sort.go:85", after := #[], guard := none }) (v := ?bv1) rfl (by kernel_rfl) (by kernel_rfl) (by kernel_rfl) (fun _ _ _ h => h) (Or.inl ⟨by rfl, ?by1⟩) (by assumption) ?br1
        case by1 => (intro w hSw; (try dsimp only at hSw); go_simp; try (with_reducible rfl))
        case br1 =>
        try simp only [Act.put, List.setIfInBounds_toArray, List.set_cons_zero, List.set_cons_succ]
        refine wpAnyH_take (i := 2) (oi := { dst := some 22, op := Go.Op.move (Go.Operand.tmp 6), type := 3, pos := "sort.go:85", after := #[], guard := none }) (v := ?bv2) rfl (by kernel_rfl) (by kernel_rfl) (by kernel_rfl) (fun _ _ _ h => h) (Or.inl ⟨by rfl, ?by2⟩) (by assumption) ?br2
        case by2 => (intro w hSw; (try dsimp only at hSw); go_simp; try (with_reducible rfl))
        case br2 =>
        try simp only [Act.put, List.setIfInBounds_toArray, List.set_cons_zero, List.set_cons_succ]
        refine wpAnyH_take (i := 3) (oi := { dst := some 23, op := Go.Op.indexAddr 58 (Go.Operand.tmp 21) (Go.Operand.tmp 22), type := 0, pos := "sort.go:85", after := #[{ on := 1, ground := Go.Ground.data }, { on := 2, ground := Go.Ground.data }], guard := none }) (v := ?bv3) rfl (by kernel_rfl) (by kernel_rfl) (by kernel_rfl) (fun _ _ _ h => h) (Or.inl ⟨by rfl, ?by3⟩) (by assumption) ?br3
        case by3 => (intro w hSw; (try dsimp only at hSw); go_simp; try (with_reducible rfl))
        case br3 =>
        try simp only [Act.put, List.setIfInBounds_toArray, List.set_cons_zero, List.set_cons_succ]
        refine wpAnyH_take (i := 4) (oi := { dst := some 24, op := Go.Op.load 75 (Go.Operand.tmp 23), type := 75, pos := "sort.go:85", after := #[{ on := 3, ground := Go.Ground.data }], guard := none }) (v := (.agg #[.int .i64 x.1, .int .i64 (x.2 : Int)])) rfl (by kernel_rfl) (by kernel_rfl) (by kernel_rfl) (fun _ _ _ h => h) (yieldsIf_load_mid (by rfl) 75 (.tmp 23) rfl b0 (o0 + i * 2) rfl (cnC x) _ (fun w' h => h.2) Try.underlying75 rfl (by kernel_rfl)) (by assumption) ?_
        try simp only [Act.put, List.setIfInBounds_toArray, List.set_cons_zero, List.set_cons_succ]
        refine wpAnyH_take (i := 5) (oi := { dst := some 25, op := Go.Op.load 75 (Go.Operand.tmp 5), type := 75, pos := "sort.go:85", after := #[], guard := none }) (v := (.agg #[.int .i64 m.1, .int .i64 (m.2 : Int)])) rfl (by kernel_rfl) (by kernel_rfl) (by kernel_rfl) (fun _ _ _ h => h) (yieldsIf_load_mid (by rfl) 75 (.tmp 5) rfl GM 0 rfl (cnC m) _ (fun w' h => VRow.range h.1 (fun q v hv => by rw [Nat.zero_add]; exact hv)) Try.underlying75 rfl (by kernel_rfl)) (by assumption) ?_
        try simp only [Act.put, List.setIfInBounds_toArray, List.set_cons_zero, List.set_cons_succ]
        refine wpAnyH_ready (rs := [6]) (by kernel_rfl) (by simp) ?_
        refine AllReadyH.cons (o := { dst := some 26, op := Go.Op.call { callee := Go.Callee.value (Go.Operand.tmp 20), args := #[Go.Operand.tmp 24, Go.Operand.tmp 25], argTypes := #[75, 75] }, type := 3, pos := "sort.go:85", after := #[{ on := 0, ground := Go.Ground.data }, { on := 4, ground := Go.Ground.data }, { on := 5, ground := Go.Ground.data }], guard := none }) rfl (fun K hK => ?_) (AllReadyH.nil)
        go_simp
        refine (HQ.out _).mono ?_
        rintro e w4 ⟨rfl, hb4⟩
        go_simp
        refine hK.out _ _ ?_ (fun hHeld => ?_)
        · exact ⟨VM.out.below hb4 VM.out.lt, fun j v hv => (hb4.cell (p := ⟨b0, _, none⟩) BL.out).trans (HRG.out j v hv)⟩
        clear hK K
        try simp only [Act.put, List.setIfInBounds_toArray, List.set_cons_zero, List.set_cons_succ]
        refine wpAnyH_take (i := 7) (oi := { dst := some 27, op := Go.Op.binOp Go.BinOp.lss 3 (Go.Operand.tmp 26) (Go.Operand.const (Go.Value.int Go.IntKind.i64 0)) 3, type := 4, pos := "sort.go:85", after := #[{ on := 6, ground := Go.Ground.data }], guard := none }) (v := ?b_6v7) rfl (by kernel_rfl) (by kernel_rfl) (by kernel_rfl) (fun _ _ _ h => h) (Or.inl ⟨by rfl, ?b_6y7⟩) (by assumption) ?b_6r7
        case b_6y7 => (intro w hSw; (try dsimp only at hSw); go_simp; try (with_reducible rfl))
        case b_6r7 =>
        try simp only [Act.put, List.setIfInBounds_toArray, List.set_cons_zero, List.set_cons_succ]
        refine wpAnyH_done (by kernel_rfl) ?_ _
        have V4 := VM.out.below hb4 VM.out.lt
        have R4 := VR.out.below hb4 VR.out.lt
        go_wp2_with fail
        exact ⟨⟨i + 1, m, by omega, hlt, by first | rfl | exact next (by omega), HNX, Lib.hid V4, Lib.hid R4, Lib.hid (BW3.out.trans (hb4.mono BW3.out.size))⟩, by first | exact meas hlt (by omega) | (show n - ((i : Int) + 1).toNat < n - (i : Int).toNat; omega)⟩
    · as_aux_lemma =>
      have dj : decide ((i : Int) < (n : Int)) = false := decide_eq_false (by omega)
      have hmm : m0 = m := by
        have q := hlm.out
        rw [List.take_of_length_le (by rw [← HN.out]; omega), HM.out] at q
        injection q
      subst hmm
      have V3 := hvm.out
      have R3 := hvr.out
      have hfin : VRow (w3.setRow GR (cnC m0).toArray) GR 75 (cnC m0) := R3.setRow _
      have HFIN := Lib.hid hfin
      have HBF := Lib.hid (below_setRow hBW.out HLE.out.2 (cnC m0).toArray)
      clear hlm hvm hvr hfin
      go_wp2_with (first
        | (refine wpList_load_vrow rfl 75 (.tmp 5) rfl rfl V3 Try.underlying75 (by kernel_rfl) ?_)
        | (refine wpList_store_vrow rfl 75 (.tmp 4) (.tmp 32) rfl (us := cnC m0) rfl rfl R3 (by kernel_rfl) rfl (by simp only [cnC, List.all_toArray, List.all_cons, List.all_nil]; rfl) ?_))
      exact bodyPost_ret (v := .agg (cnC m0).toArray) (coin_results HFIN.out _ rfl) rfl ⟨rfl, HBF.out⟩
end Go.Proofs.Ytammeedmccblcaa.Cs
