/-
  Texts joined: RmRev, RmMem, RmSum. Conditions: those of each.
-/
import Derived.Test.YtocblkacdoahfaaGreatDoorJ41
import Derived.Test.YtocblkacdoahfaaGreatDoorJ37
/-
  slices.Reverse over the last eight bytes of a row. Conditions: the row may be written.
-/
namespace Go.Proofs.YtocblkacdoahfaaGreatDoor.Rm
open Go.RowKit

/-- Eight numbers with the first k and the last k exchanged. -/
def swK (l : List Int) (k : Nat) : List Int := (List.range 8).map fun i => l.getD (if i < k ∨ 8 - k ≤ i then 7 - i else i) 0
theorem swK_length (l : List Int) (k : Nat) : (swK l k).length = 8 := by simp [swK]
theorem eight {l : List Int} (h : l.length = 8) : ∃ a b c d e f g i, l = [a, b, c, d, e, f, g, i] := by
  match l, h with
  | [a, b, c, d, e, f, g, i], _ => exact ⟨a, b, c, d, e, f, g, i, rfl⟩
theorem swK_zero {l : List Int} (h : l.length = 8) : swK l 0 = l := by obtain ⟨a, b, c, d, e, f, g, i, rfl⟩ := eight h; rfl
theorem swK_four {l : List Int} (h : l.length = 8) : swK l 4 = l.reverse := by obtain ⟨a, b, c, d, e, f, g, i, rfl⟩ := eight h; rfl
theorem swK_next (l : List Int) {k m : Nat} (hm : m + k = 7) (hk : k < 4) : ∃ x y, (swK l k)[k]? = some x ∧ (swK l k)[m]? = some y ∧ ((swK l k).set k y).set m x = swK l (k + 1) := by
  obtain rfl | rfl | rfl | rfl : k = 0 ∨ k = 1 ∨ k = 2 ∨ k = 3 := by omega
  · obtain rfl : m = 7 := by omega
    exact ⟨_, _, rfl, rfl, rfl⟩
  · obtain rfl : m = 6 := by omega
    exact ⟨_, _, rfl, rfl, rfl⟩
  · obtain rfl : m = 5 := by omega
    exact ⟨_, _, rfl, rfl, rfl⟩
  · obtain rfl : m = 4 := by omega
    exact ⟨_, _, rfl, rfl, rfl⟩
theorem at_right {A l : List Int} {i : Nat} {x : Int} (h : l[i]? = some x) : (A ++ l)[A.length + i]? = some x := by
  rw [List.getElem?_append_right (by omega), Nat.add_sub_cancel_left]
  exact h
theorem set_right {A l : List Int} {i : Nat} {x : Int} : (A ++ l).set (A.length + i) x = A ++ l.set i x := by
  rw [List.set_append_right _ _ (by omega), Nat.add_sub_cancel_left]
set_option maxRecDepth 100000 in
set_option maxHeartbeats 3200000 in
theorem reverse_any (g o c : Nat) (t : TypeId) (A l : List Int) (w : World) (hr : IRow w g t .u8 (A ++ l)) (hA : o = A.length) (hl : l.length = 8) :
    Calls Tryz.prog 76 #[.slice (some ⟨g, o, none⟩) 8 c] w fun e w' => e = .returned (.tuple #[]) ∧ IRow w' g t .u8 (A ++ l.reverse) ∧ ∀ B, B ≤ g → Below B w w' := by
  have HR := Lib.hid hr
  have HA := Lib.hid hA
  have HL := Lib.hid hl
  clear hr hA hl
  go_enter Tryz.func76, Tryz.ntmps76
  go_wp2_with fail
  go_loopw [2, 3] (fun vi vj wr => ∃ k m : Nat, k ≤ 4 ∧ Hid (m + k = 7) ∧ vi = .int .i64 (k : Int) ∧ vj = .int .i64 (m : Int) ∧ IRow wr g t .u8 (A ++ swK l k) ∧ ∀ B, B ≤ g → Below B w wr) (fun vi _ _ => 4 - (intOf vi).toNat)
  case atStart => exact ⟨0, 7, by omega, Lib.hid rfl, rfl, rfl, by rw [swK_zero HL.out]; exact HR.out, fun B _ => Below.refl _ _⟩
  case round =>
    obtain ⟨k, m, hk, hmk, rfl, rfl, hrow, hbel⟩ := hrel
    obtain ⟨w5, hw5⟩ : ∃ z : World, z = wr := ⟨_, rfl⟩
    rw [← hw5] at hrow hbel ⊢
    clear hw5
    by_cases h4 : k < 4
    · obtain ⟨x, y, hx, hy, hsw⟩ := swK_next l hmk.out h4
      have hm7 := hmk.out
      have bkm : (k : Int) < (m : Int) := by omega
      have bk8 : (k : Int) < 8 := by omega
      have bm8 : (m : Int) < 8 := by omega
      have r0 : IRow w5.drew g t .u8 (A ++ swK l k) := hrow
      have a1 : o + k = A.length + k := by rw [HA.out]
      have a2 : o + m = A.length + m := by rw [HA.out]
      have r1 := r0.set (A.length + k) y
      rw [set_right] at r1
      have r2 := r1.set (A.length + m) x
      rw [set_right, hsw] at r2
      have cx := r0.cell (at_right (A := A) hx)
      have cy := r0.cell (at_right (A := A) hy)
      have fx := r0.free (A.length + k)
      obtain ⟨x1, hx1⟩ : ∃ x1, ((swK l k).set k y)[m]? = some x1 := ⟨_, List.getElem?_eq_getElem (by rw [List.length_set, swK_length]; omega)⟩
      have cm := r1.cell (at_right (A := A) hx1)
      have fm := r0.free (A.length + m)
      rw [← a1] at cx fx r1 r2 cm
      rw [← a2] at cy r2 cm fm
      have dx : w5.cell? ⟨g, o + k, none⟩ = some (.int .u8 x) := cx
      have dy : w5.cell? ⟨g, o + m, none⟩ = some (.int .u8 y) := cy
      have gm : w5.frozen? ⟨g, o + m, none⟩ = false := fm
      have gx : w5.frozen? ⟨g, o + k, none⟩ = false := fx
      have HR2 := Lib.hid r2
      have HBEL := Lib.hid hbel
      have w1 : IntKind.i64.wrap ((k : Int) + 1) = ((k + 1 : Nat) : Int) := by rw [IntWalk.i64_in _ (by omega)]; omega
      obtain ⟨m1, hm1⟩ : ∃ m1, m1 = m - 1 := ⟨_, rfl⟩
      have w2 : IntKind.i64.wrap ((m : Int) - 1) = (m1 : Int) := by rw [IntWalk.i64_in _ (by omega)]; omega
      have HM1 := Lib.hid (show m1 + (k + 1) = 7 by omega)
      clear hx hy hsw hm7 r0 r1 r2 hx1 a1 a2 hrow hbel hm1 w1 cx cy fx fm
      go_wp2_with fail
      refine wp_region_held_drew (S := AnyW) (by kernel_rfl) ?_ (fun hHeld => ?_)
      · exact anyW _
      refine wpAnyH_take (i := 0) (oi := { dst := some 14, op := Go.Op.move (Go.Operand.tmp 0), type := 23, pos := "slices.go:485", after := #[], guard := none }) (v := ?av0) rfl (by kernel_rfl) (by kernel_rfl) (by kernel_rfl) (fun _ _ _ h => h) (Or.inl ⟨by rfl, ?ay0⟩) (by assumption) ?ar0
      case ay0 => (intro w hSw; (try dsimp only at hSw); go_simp; try (with_reducible rfl))
      case ar0 =>
      try simp only [Act.put, List.setIfInBounds_toArray, List.set_cons_zero, List.set_cons_succ]
      refine wpAnyH_take (i := 1) (oi := { dst := some 15, op := Go.Op.move (Go.Operand.tmp 2), type := 3, pos := "slices.go:485", after := #[], guard := none }) (v := ?av1) rfl (by kernel_rfl) (by kernel_rfl) (by kernel_rfl) (fun _ _ _ h => h) (Or.inl ⟨by rfl, ?ay1⟩) (by assumption) ?ar1
      case ay1 => (intro w hSw; (try dsimp only at hSw); go_simp; try (with_reducible rfl))
      case ar1 =>
      try simp only [Act.put, List.setIfInBounds_toArray, List.set_cons_zero, List.set_cons_succ]
      refine wpAnyH_take (i := 2) (oi := { dst := some 16, op := Go.Op.move (Go.Operand.tmp 0), type := 23, pos := "slices.go:485", after := #[{ on := 13, ground := Go.Ground.gcOnly Go.Departure.lateStores }], guard := none }) (v := ?av2) rfl (by kernel_rfl) (by kernel_rfl) (by kernel_rfl) (fun _ _ _ h => h) (Or.inl ⟨by rfl, ?ay2⟩) (by assumption) ?ar2
      case ay2 => (intro w hSw; (try dsimp only at hSw); go_simp; try (with_reducible rfl))
      case ar2 =>
      try simp only [Act.put, List.setIfInBounds_toArray, List.set_cons_zero, List.set_cons_succ]
      refine wpAnyH_take (i := 3) (oi := { dst := some 17, op := Go.Op.move (Go.Operand.tmp 3), type := 3, pos := "slices.go:485", after := #[{ on := 13, ground := Go.Ground.gcOnly Go.Departure.lateStores }], guard := none }) (v := ?av3) rfl (by kernel_rfl) (by kernel_rfl) (by kernel_rfl) (fun _ _ _ h => h) (Or.inl ⟨by rfl, ?ay3⟩) (by assumption) ?ar3
      case ay3 => (intro w hSw; (try dsimp only at hSw); go_simp; try (with_reducible rfl))
      case ar3 =>
      try simp only [Act.put, List.setIfInBounds_toArray, List.set_cons_zero, List.set_cons_succ]
      refine wpAnyH_take (i := 4) (oi := { dst := some 18, op := Go.Op.move (Go.Operand.tmp 0), type := 23, pos := "slices.go:485", after := #[], guard := none }) (v := ?av4) rfl (by kernel_rfl) (by kernel_rfl) (by kernel_rfl) (fun _ _ _ h => h) (Or.inl ⟨by rfl, ?ay4⟩) (by assumption) ?ar4
      case ay4 => (intro w hSw; (try dsimp only at hSw); go_simp; try (with_reducible rfl))
      case ar4 =>
      try simp only [Act.put, List.setIfInBounds_toArray, List.set_cons_zero, List.set_cons_succ]
      refine wpAnyH_take (i := 5) (oi := { dst := some 19, op := Go.Op.move (Go.Operand.tmp 3), type := 3, pos := "slices.go:485", after := #[], guard := none }) (v := ?av5) rfl (by kernel_rfl) (by kernel_rfl) (by kernel_rfl) (fun _ _ _ h => h) (Or.inl ⟨by rfl, ?ay5⟩) (by assumption) ?ar5
      case ay5 => (intro w hSw; (try dsimp only at hSw); go_simp; try (with_reducible rfl))
      case ar5 =>
      try simp only [Act.put, List.setIfInBounds_toArray, List.set_cons_zero, List.set_cons_succ]
      refine wpAnyH_take (i := 6) (oi := { dst := some 20, op := Go.Op.indexAddr 23 (Go.Operand.tmp 18) (Go.Operand.tmp 19), type := 0, pos := "slices.go:485", after := #[{ on := 4, ground := Go.Ground.data }, { on := 5, ground := Go.Ground.data }], guard := none }) (v := ?av6) rfl (by kernel_rfl) (by kernel_rfl) (by kernel_rfl) (fun _ _ _ h => h) (Or.inl ⟨by rfl, ?ay6⟩) (by assumption) ?ar6
      case ay6 => (intro w hSw; (try dsimp only at hSw); go_simp; try (with_reducible rfl))
      case ar6 =>
      try simp only [Act.put, List.setIfInBounds_toArray, List.set_cons_zero, List.set_cons_succ]
      refine wpAnyH_take (i := 8) (oi := { dst := some 22, op := Go.Op.move (Go.Operand.tmp 0), type := 23, pos := "slices.go:485", after := #[], guard := none }) (v := ?av8) rfl (by kernel_rfl) (by kernel_rfl) (by kernel_rfl) (fun _ _ _ h => h) (Or.inl ⟨by rfl, ?ay8⟩) (by assumption) ?ar8
      case ay8 => (intro w hSw; (try dsimp only at hSw); go_simp; try (with_reducible rfl))
      case ar8 =>
      try simp only [Act.put, List.setIfInBounds_toArray, List.set_cons_zero, List.set_cons_succ]
      refine wpAnyH_take (i := 9) (oi := { dst := some 23, op := Go.Op.move (Go.Operand.tmp 2), type := 3, pos := "slices.go:485", after := #[], guard := none }) (v := ?av9) rfl (by kernel_rfl) (by kernel_rfl) (by kernel_rfl) (fun _ _ _ h => h) (Or.inl ⟨by rfl, ?ay9⟩) (by assumption) ?ar9
      case ay9 => (intro w hSw; (try dsimp only at hSw); go_simp; try (with_reducible rfl))
      case ar9 =>
      try simp only [Act.put, List.setIfInBounds_toArray, List.set_cons_zero, List.set_cons_succ]
      refine wpAnyH_take (i := 10) (oi := { dst := some 24, op := Go.Op.indexAddr 23 (Go.Operand.tmp 22) (Go.Operand.tmp 23), type := 0, pos := "slices.go:485", after := #[{ on := 8, ground := Go.Ground.data }, { on := 9, ground := Go.Ground.data }], guard := none }) (v := ?av10) rfl (by kernel_rfl) (by kernel_rfl) (by kernel_rfl) (fun _ _ _ h => h) (Or.inl ⟨by rfl, ?ay10⟩) (by assumption) ?ar10
      case ay10 => (intro w hSw; (try dsimp only at hSw); go_simp; try (with_reducible rfl))
      case ar10 =>
      try simp only [Act.put, List.setIfInBounds_toArray, List.set_cons_zero, List.set_cons_succ]
      refine wpAnyH_ready (rs := [7, 11]) (by kernel_rfl) (by simp) ?_
      refine AllReadyH.cons (o := { dst := some 21, op := Go.Op.load 5 (Go.Operand.tmp 20), type := 5, pos := "slices.go:485", after := #[{ on := 6, ground := Go.Ground.data }], guard := none }) rfl (fun K hK => ?_) (AllReadyH.cons (o := { dst := some 25, op := Go.Op.load 5 (Go.Operand.tmp 24), type := 5, pos := "slices.go:485", after := #[{ on := 10, ground := Go.Ground.data }], guard := none }) rfl (fun K hK => ?_) (AllReadyH.nil))
      · as_aux_lemma =>
        go_simp
        refine hK.out _ _ ?_ (fun hHeld => ?_)
        · exact anyW _
        clear hK K
        try simp only [Act.put, List.setIfInBounds_toArray, List.set_cons_zero, List.set_cons_succ]
        refine wpAnyH_ready (rs := [11]) (by kernel_rfl) (by simp) ?_
        refine AllReadyH.cons (o := { dst := some 25, op := Go.Op.load 5 (Go.Operand.tmp 24), type := 5, pos := "slices.go:485", after := #[{ on := 10, ground := Go.Ground.data }], guard := none }) rfl (fun K hK => ?_) (AllReadyH.nil)
        go_simp
        refine hK.out _ _ ?_ (fun hHeld => ?_)
        · exact anyW _
        clear hK K
        try simp only [Act.put, List.setIfInBounds_toArray, List.set_cons_zero, List.set_cons_succ]
        refine wpAnyH_take (i := 12) (oi := { dst := some 26, op := Go.Op.indexAddr 23 (Go.Operand.tmp 14) (Go.Operand.tmp 15), type := 0, pos := "slices.go:485", after := #[{ on := 0, ground := Go.Ground.data }, { on := 1, ground := Go.Ground.data }, { on := 0, ground := Go.Ground.phase }, { on := 1, ground := Go.Ground.phase }, { on := 2, ground := Go.Ground.textOnly Go.Departure.lateStores }, { on := 3, ground := Go.Ground.textOnly Go.Departure.lateStores }, { on := 4, ground := Go.Ground.phase }, { on := 5, ground := Go.Ground.phase }, { on := 6, ground := Go.Ground.phase }, { on := 7, ground := Go.Ground.phase }, { on := 8, ground := Go.Ground.textOnly Go.Departure.lateStores }, { on := 9, ground := Go.Ground.textOnly Go.Departure.lateStores }, { on := 10, ground := Go.Ground.textOnly Go.Departure.lateStoresUnsure }, { on := 11, ground := Go.Ground.phase }], guard := none }) (v := ?a_7_11v12) rfl (by kernel_rfl) (by kernel_rfl) (by kernel_rfl) (fun _ _ _ h => h) (Or.inl ⟨by rfl, ?a_7_11y12⟩) (by assumption) ?a_7_11r12
        case a_7_11y12 => (intro w hSw; (try dsimp only at hSw); go_simp; try (with_reducible rfl))
        case a_7_11r12 =>
        try simp only [Act.put, List.setIfInBounds_toArray, List.set_cons_zero, List.set_cons_succ]
        refine wpAnyH_ready (rs := [13]) (by kernel_rfl) (by simp) ?_
        refine AllReadyH.cons (o := { dst := none, op := Go.Op.store 5 (Go.Operand.tmp 26) (Go.Operand.tmp 21), type := 0, pos := "slices.go:485", after := #[{ on := 12, ground := Go.Ground.data }, { on := 7, ground := Go.Ground.data }, { on := 0, ground := Go.Ground.phase }, { on := 1, ground := Go.Ground.phase }, { on := 2, ground := Go.Ground.textOnly Go.Departure.lateStores }, { on := 3, ground := Go.Ground.textOnly Go.Departure.lateStores }, { on := 4, ground := Go.Ground.phase }, { on := 5, ground := Go.Ground.phase }, { on := 6, ground := Go.Ground.phase }, { on := 7, ground := Go.Ground.phase }, { on := 8, ground := Go.Ground.textOnly Go.Departure.lateStores }, { on := 9, ground := Go.Ground.textOnly Go.Departure.lateStores }, { on := 10, ground := Go.Ground.textOnly Go.Departure.lateStoresUnsure }, { on := 11, ground := Go.Ground.phase }], guard := none }) rfl (fun K hK => ?_) (AllReadyH.nil)
        go_simp
        refine hK.out _ _ ?_ (fun hHeld => ?_)
        · exact anyW _
        clear hK K
        try simp only [Act.put]
        refine wpAnyH_take (i := 14) (oi := { dst := some 27, op := Go.Op.indexAddr 23 (Go.Operand.tmp 16) (Go.Operand.tmp 17), type := 0, pos := "slices.go:485", after := #[{ on := 2, ground := Go.Ground.data }, { on := 3, ground := Go.Ground.data }, { on := 0, ground := Go.Ground.phase }, { on := 1, ground := Go.Ground.phase }, { on := 2, ground := Go.Ground.phase }, { on := 3, ground := Go.Ground.phase }, { on := 4, ground := Go.Ground.phase }, { on := 5, ground := Go.Ground.phase }, { on := 6, ground := Go.Ground.phase }, { on := 7, ground := Go.Ground.phase }, { on := 8, ground := Go.Ground.phase }, { on := 9, ground := Go.Ground.phase }, { on := 10, ground := Go.Ground.phase }, { on := 11, ground := Go.Ground.phase }, { on := 12, ground := Go.Ground.phase }, { on := 13, ground := Go.Ground.phase }], guard := none }) (v := ?a_7_11_13v14) rfl (by kernel_rfl) (by kernel_rfl) (by kernel_rfl) (fun _ _ _ h => h) (Or.inl ⟨by rfl, ?a_7_11_13y14⟩) (by assumption) ?a_7_11_13r14
        case a_7_11_13y14 => (intro w hSw; (try dsimp only at hSw); go_simp; try (with_reducible rfl))
        case a_7_11_13r14 =>
        try simp only [Act.put, List.setIfInBounds_toArray, List.set_cons_zero, List.set_cons_succ]
        refine wpAnyH_ready (rs := [15]) (by kernel_rfl) (by simp) ?_
        refine AllReadyH.cons (o := { dst := none, op := Go.Op.store 5 (Go.Operand.tmp 27) (Go.Operand.tmp 25), type := 0, pos := "slices.go:485", after := #[{ on := 14, ground := Go.Ground.data }, { on := 11, ground := Go.Ground.data }, { on := 13, ground := Go.Ground.chain }, { on := 0, ground := Go.Ground.phase }, { on := 1, ground := Go.Ground.phase }, { on := 2, ground := Go.Ground.phase }, { on := 3, ground := Go.Ground.phase }, { on := 4, ground := Go.Ground.phase }, { on := 5, ground := Go.Ground.phase }, { on := 6, ground := Go.Ground.phase }, { on := 7, ground := Go.Ground.phase }, { on := 8, ground := Go.Ground.phase }, { on := 9, ground := Go.Ground.phase }, { on := 10, ground := Go.Ground.phase }, { on := 11, ground := Go.Ground.phase }, { on := 12, ground := Go.Ground.phase }, { on := 13, ground := Go.Ground.phase }], guard := none }) rfl (fun K hK => ?_) (AllReadyH.nil)
        go_simp
        refine hK.out _ _ ?_ (fun hHeld => ?_)
        · exact anyW _
        clear hK K
        try simp only [Act.put]
        refine wpAnyH_done (by kernel_rfl) ?_ _
        go_wp2_with fail
        exact ⟨⟨k + 1, m1, by omega, HM1, by go_num, rfl, HR2.out, fun B hB => ((HBEL.out B hB).drew.setCell (p := ⟨g, o + k, none⟩) hB _).setCell (p := ⟨g, o + m, none⟩) hB _⟩, by simp [intOf]; omega⟩
      · as_aux_lemma =>
        go_simp
        refine hK.out _ _ ?_ (fun hHeld => ?_)
        · exact anyW _
        clear hK K
        try simp only [Act.put, List.setIfInBounds_toArray, List.set_cons_zero, List.set_cons_succ]
        refine wpAnyH_ready (rs := [7]) (by kernel_rfl) (by simp) ?_
        refine AllReadyH.cons (o := { dst := some 21, op := Go.Op.load 5 (Go.Operand.tmp 20), type := 5, pos := "slices.go:485", after := #[{ on := 6, ground := Go.Ground.data }], guard := none }) rfl (fun K hK => ?_) (AllReadyH.nil)
        go_simp
        refine hK.out _ _ ?_ (fun hHeld => ?_)
        · exact anyW _
        clear hK K
        try simp only [Act.put, List.setIfInBounds_toArray, List.set_cons_zero, List.set_cons_succ]
        refine wpAnyH_take (i := 12) (oi := { dst := some 26, op := Go.Op.indexAddr 23 (Go.Operand.tmp 14) (Go.Operand.tmp 15), type := 0, pos := "slices.go:485", after := #[{ on := 0, ground := Go.Ground.data }, { on := 1, ground := Go.Ground.data }, { on := 0, ground := Go.Ground.phase }, { on := 1, ground := Go.Ground.phase }, { on := 2, ground := Go.Ground.textOnly Go.Departure.lateStores }, { on := 3, ground := Go.Ground.textOnly Go.Departure.lateStores }, { on := 4, ground := Go.Ground.phase }, { on := 5, ground := Go.Ground.phase }, { on := 6, ground := Go.Ground.phase }, { on := 7, ground := Go.Ground.phase }, { on := 8, ground := Go.Ground.textOnly Go.Departure.lateStores }, { on := 9, ground := Go.Ground.textOnly Go.Departure.lateStores }, { on := 10, ground := Go.Ground.textOnly Go.Departure.lateStoresUnsure }, { on := 11, ground := Go.Ground.phase }], guard := none }) (v := ?a_11_7v12) rfl (by kernel_rfl) (by kernel_rfl) (by kernel_rfl) (fun _ _ _ h => h) (Or.inl ⟨by rfl, ?a_11_7y12⟩) (by assumption) ?a_11_7r12
        case a_11_7y12 => (intro w hSw; (try dsimp only at hSw); go_simp; try (with_reducible rfl))
        case a_11_7r12 =>
        try simp only [Act.put, List.setIfInBounds_toArray, List.set_cons_zero, List.set_cons_succ]
        refine wpAnyH_ready (rs := [13]) (by kernel_rfl) (by simp) ?_
        refine AllReadyH.cons (o := { dst := none, op := Go.Op.store 5 (Go.Operand.tmp 26) (Go.Operand.tmp 21), type := 0, pos := "slices.go:485", after := #[{ on := 12, ground := Go.Ground.data }, { on := 7, ground := Go.Ground.data }, { on := 0, ground := Go.Ground.phase }, { on := 1, ground := Go.Ground.phase }, { on := 2, ground := Go.Ground.textOnly Go.Departure.lateStores }, { on := 3, ground := Go.Ground.textOnly Go.Departure.lateStores }, { on := 4, ground := Go.Ground.phase }, { on := 5, ground := Go.Ground.phase }, { on := 6, ground := Go.Ground.phase }, { on := 7, ground := Go.Ground.phase }, { on := 8, ground := Go.Ground.textOnly Go.Departure.lateStores }, { on := 9, ground := Go.Ground.textOnly Go.Departure.lateStores }, { on := 10, ground := Go.Ground.textOnly Go.Departure.lateStoresUnsure }, { on := 11, ground := Go.Ground.phase }], guard := none }) rfl (fun K hK => ?_) (AllReadyH.nil)
        go_simp
        refine hK.out _ _ ?_ (fun hHeld => ?_)
        · exact anyW _
        clear hK K
        try simp only [Act.put]
        refine wpAnyH_take (i := 14) (oi := { dst := some 27, op := Go.Op.indexAddr 23 (Go.Operand.tmp 16) (Go.Operand.tmp 17), type := 0, pos := "slices.go:485", after := #[{ on := 2, ground := Go.Ground.data }, { on := 3, ground := Go.Ground.data }, { on := 0, ground := Go.Ground.phase }, { on := 1, ground := Go.Ground.phase }, { on := 2, ground := Go.Ground.phase }, { on := 3, ground := Go.Ground.phase }, { on := 4, ground := Go.Ground.phase }, { on := 5, ground := Go.Ground.phase }, { on := 6, ground := Go.Ground.phase }, { on := 7, ground := Go.Ground.phase }, { on := 8, ground := Go.Ground.phase }, { on := 9, ground := Go.Ground.phase }, { on := 10, ground := Go.Ground.phase }, { on := 11, ground := Go.Ground.phase }, { on := 12, ground := Go.Ground.phase }, { on := 13, ground := Go.Ground.phase }], guard := none }) (v := ?a_11_7_13v14) rfl (by kernel_rfl) (by kernel_rfl) (by kernel_rfl) (fun _ _ _ h => h) (Or.inl ⟨by rfl, ?a_11_7_13y14⟩) (by assumption) ?a_11_7_13r14
        case a_11_7_13y14 => (intro w hSw; (try dsimp only at hSw); go_simp; try (with_reducible rfl))
        case a_11_7_13r14 =>
        try simp only [Act.put, List.setIfInBounds_toArray, List.set_cons_zero, List.set_cons_succ]
        refine wpAnyH_ready (rs := [15]) (by kernel_rfl) (by simp) ?_
        refine AllReadyH.cons (o := { dst := none, op := Go.Op.store 5 (Go.Operand.tmp 27) (Go.Operand.tmp 25), type := 0, pos := "slices.go:485", after := #[{ on := 14, ground := Go.Ground.data }, { on := 11, ground := Go.Ground.data }, { on := 13, ground := Go.Ground.chain }, { on := 0, ground := Go.Ground.phase }, { on := 1, ground := Go.Ground.phase }, { on := 2, ground := Go.Ground.phase }, { on := 3, ground := Go.Ground.phase }, { on := 4, ground := Go.Ground.phase }, { on := 5, ground := Go.Ground.phase }, { on := 6, ground := Go.Ground.phase }, { on := 7, ground := Go.Ground.phase }, { on := 8, ground := Go.Ground.phase }, { on := 9, ground := Go.Ground.phase }, { on := 10, ground := Go.Ground.phase }, { on := 11, ground := Go.Ground.phase }, { on := 12, ground := Go.Ground.phase }, { on := 13, ground := Go.Ground.phase }], guard := none }) rfl (fun K hK => ?_) (AllReadyH.nil)
        go_simp
        refine hK.out _ _ ?_ (fun hHeld => ?_)
        · exact anyW _
        clear hK K
        try simp only [Act.put]
        refine wpAnyH_done (by kernel_rfl) ?_ _
        go_wp2_with fail
        exact ⟨⟨k + 1, m1, by omega, HM1, by go_num, rfl, HR2.out, fun B hB => ((HBEL.out B hB).drew.setCell (p := ⟨g, o + k, none⟩) hB _).setCell (p := ⟨g, o + m, none⟩) hB _⟩, by simp [intOf]; omega⟩
    · obtain rfl : k = 4 := by omega
      have hm3 : m = 3 := by have := hmk.out; omega
      subst hm3
      rw [swK_four HL.out] at hrow
      have HROW := Lib.hid hrow
      have HBEL := Lib.hid hbel
      have e4 : ((4 : Nat) : Int) = 4 := rfl
      have e3 : ((3 : Nat) : Int) = 3 := rfl
      rw [e4, e3]
      clear hrow hbel e4 e3 hmk h4 hk
      go_wp2_with fail
      exact bodyPost_end (results_none Tryz.results76 _ _ _) rfl ⟨rfl, HROW.out, HBEL.out⟩
end Go.Proofs.YtocblkacdoahfaaGreatDoor.Rm

/-
  A literal that is built, taken as it is (for seats without SHA-512). Conditions: none.
-/
namespace Go.Proofs.YtocblkacdoahfaaGreatDoor.S5
open Go.RowKit

theorem wpList_build_lit {ops : Array Oper} {rest : List Oper} {op : Oper} {a : Act} {w : World} {Q : Exit → Act → World → Prop} (hgd : op.guard = none) (ty : TypeId) (parts : Array (Nat × Operand)) (v : Value) (ho : op.op = .build ty parts)
    (hx : ∀ w, (Instr.build ty (parts.map fun p => (p.1, a.eval p.2))).run Tryz.prog w = .ok v w)
    (hn : wpList Tryz.prog ops Q rest (a.put op.dst v) w) : wpList Tryz.prog ops Q (op :: rest) a w :=
  wpList_plain hgd fun K hK => by
    unfold Oper.wp execOp
    have hx2 := hx w
    simp only [ho, hx2, Sem.run_bind, Sem.run_pure, Result.andThen_ok]
    exact hK _ _ hn
end Go.Proofs.YtocblkacdoahfaaGreatDoor.S5

/-
  hash.Ripemd. Conditions: the size stays below 2^59; the tables are laid.
-/
namespace Go.Proofs.YtocblkacdoahfaaGreatDoor.Rm
open Go.RowKit

def zIn : List Value := inRow (List.replicate 5 0) (List.replicate 128 0) 0
theorem info_kind : (Tryz.prog.info? 123).map (·.size) = some 7 := by kernel_rfl
theorem info_20 : (Tryz.prog.info? 41).map (·.size) = some 20 := by kernel_rfl
theorem zero_in (W : World) : (zeroValue 125).run Tryz.prog W = .ok (.agg zIn.toArray) W := by kernel_rfl
def zKind : List Value := [.int .i64 0, .int .u32 0, .int .u32 0, .int .u32 0, .int .u32 0, .int .u32 0, .nilFunc]
theorem zero_kind (W : World) : (zeroValue 123).run Tryz.prog W = .ok (.agg zKind.toArray) W := by kernel_rfl
theorem zero_20 (W : World) : (zeroValue 41).run Tryz.prog W = .ok (.agg ((List.replicate 20 (0 : Int)).map (Value.int .u8)).toArray) W := by kernel_rfl
theorem kRow_one : kRow.toArray.all (·.oneCell') = true := by simp [kRow, Value.oneCell', S5.list]
theorem full_ne (m : List UInt8) : fullR m ≠ [] := by unfold fullR padR; simp
theorem padR_full (n : Nat) : (128 :: List.replicate ((119 - n % 64) % 64) 0) ++ (lenI n 8).reverse = nums (padR n) := by
  unfold padR
  rw [nums_append, nums_append, lenI_full]
  have h : ∀ k, nums (List.replicate k (0 : UInt8)) = List.replicate k (0 : Int) := fun k => by unfold nums; rw [List.map_replicate]; rfl
  rw [h]
  unfold nums
  rw [List.map_reverse]
  rfl
theorem idx5 (a b c d e : Int) {i : Nat} (hi : i < 5) : ∃ v, [a, b, c, d, e][i]? = some v ∧ ∀ w, (Instr.index 120 (.agg #[.int .u32 a, .int .u32 b, .int .u32 c, .int .u32 d, .int .u32 e]) (.int .i64 i)).run Tryz.prog w = .ok (.int .u32 v) w := by
  obtain rfl | rfl | rfl | rfl | rfl : i = 0 ∨ i = 1 ∨ i = 2 ∨ i = 3 ∨ i = 4 := by omega
  · exact ⟨_, rfl, fun w => by kernel_rfl⟩
  · exact ⟨_, rfl, fun w => by kernel_rfl⟩
  · exact ⟨_, rfl, fun w => by kernel_rfl⟩
  · exact ⟨_, rfl, fun w => by kernel_rfl⟩
  · exact ⟨_, rfl, fun w => by kernel_rfl⟩
theorem irow_src {w : World} {gp g : Nat} {t : TypeId} {bs : List UInt8} (h : IRow w gp t .u8 (nums bs)) (hl : bs.length ≤ maxLen) (hne : g ≠ gp) : Src w g (.slice (some ⟨gp, 0, none⟩) bs.length bs.length) bs := by
  refine ⟨_, bs.length, rfl, Nat.le_refl _, hl, (by intro h; cases h), fun _ => ⟨gp, 0, rfl, h.lt, Ne.symm hne, fun j u hu => ?_⟩⟩
  rw [Nat.zero_add]
  exact h.cell (i := j) (z := (u.toNat : Int)) (by unfold nums; rw [List.getElem?_map, hu]; rfl)
set_option maxRecDepth 100000 in
set_option maxHeartbeats 6400000 in
theorem ripemd_any (B : Nat) (v : Value) (m : List UInt8) (W0 : World) (hb : Byt W0 B v m) (hB : B ≤ W0.heap.size) (hl : m.length < 576460752303423488) (htab : TabsIs W0) :
    Calls Tryz.prog 42 #[v] W0 fun e w' => e = .returned (digV (ripemd m)) ∧ Below W0.heap.size W0 w' := by
  obtain ⟨A, c, hxf⟩ := hb.form
  subst hxf
  have HX := Lib.hid hb
  have HTAB := Lib.hid htab
  have HLB := Lib.hid hB
  have z20 := zero_20
  have zk := zero_kind
  have zi := zero_in
  clear hb htab
  have rA := IRow.new W0 41 .u8 (List.replicate 20 0)
  have bA : Below W0.heap.size W0 (W0.alloc (.cells ((List.replicate 20 (0 : Int)).map (Value.int .u8)).toArray 41)) := (Below.refl _ W0).alloc (Nat.le_refl _) _
  have sA : (W0.alloc (.cells ((List.replicate 20 (0 : Int)).map (Value.int .u8)).toArray 41)).heap.size = W0.heap.size + 1 := by simp
  go_enter Tryz.func42, Tryz.ntmps42
  go_upto_region 1 with fail
  change Code.wp _ _ _ _ (W0.alloc (.cells ((List.replicate 20 (0 : Int)).map (Value.int .u8)).toArray 41))
  obtain ⟨wA, hwA⟩ : ∃ x, x = W0.alloc (.cells ((List.replicate 20 (0 : Int)).map (Value.int .u8)).toArray 41) := ⟨_, rfl⟩
  rw [← hwA] at rA bA sA ⊢
  obtain ⟨B0, hB0⟩ : ∃ B0, B0 = W0.heap.size := ⟨_, rfl⟩
  rw [← hB0] at rA bA sA ⊢
  have RZ := Lib.hid (VRow.new wA 123 zKind)
  have bB : Below wA.heap.size wA ((wA.alloc (.cells zKind.toArray 123)).setRow wA.heap.size kRow.toArray) := below_setRow ((Below.refl _ wA).alloc (Nat.le_refl _) _) (Nat.le_refl _) _
  have rB := RZ.out.setRow kRow
  have RA := Lib.hid rA
  have BA := Lib.hid bA
  have SA := Lib.hid sA
  have HB0 := Lib.hid hB0
  have RB := Lib.hid rB
  have BB := Lib.hid bB
  clear hwA rA bA sA hB0 bB rB
  go_upto_region 2 with (first
    | (refine S5.wpList_build_lit rfl 123 _ (.agg kRow.toArray) rfl (fun _ => by kernel_rfl) ?_)
    | (refine wpList_store_vrow rfl 123 (.tmp 3) (.tmp 10) rfl (g := wA.heap.size) (t := 123) (vs := zKind) (us := kRow) rfl rfl RZ.out info_kind rfl kRow_one ?_))
  change Code.wp _ _ _ _ ((wA.alloc (.cells zKind.toArray 123)).setRow wA.heap.size kRow.toArray)
  obtain ⟨wB, hwB⟩ : ∃ x, x = (wA.alloc (.cells zKind.toArray 123)).setRow wA.heap.size kRow.toArray := ⟨_, rfl⟩
  have rB : VRow wB wA.heap.size 123 kRow := by rw [hwB]; exact RB.out
  have bB : Below wA.heap.size wA wB := by rw [hwB]; exact BB.out
  rw [← hwB]
  obtain ⟨BK, hBK⟩ : ∃ BK, BK = wA.heap.size := ⟨_, rfl⟩
  rw [← hBK] at rB bB ⊢
  have hk0 : B0 < BK := by rw [hBK, SA.out]; omega
  have rA2 := RA.out.below bB (by rw [hBK, SA.out]; omega)
  have b2 := BA.out.trans (bB.mono (by omega : B0 ≤ BK))
  have hkb := rB.lt
  have RK := Lib.hid rB
  have RA2 := Lib.hid rA2
  have B2 := Lib.hid b2
  have HKB := Lib.hid hkb
  clear hwB rB bB hBK rA2 b2 hkb RB BB RZ SA
  try dsimp only [Act.put]
  go_upto_region 3 with fail
  change Code.wp _ _ _ _ (wB.alloc (.cells zIn.toArray 125))
  have sm := VRow.new wB 125 zIn
  have bC : Below wB.heap.size wB (wB.alloc (.cells zIn.toArray 125)) := (Below.refl _ wB).alloc (Nat.le_refl _) _
  have sC : (wB.alloc (.cells zIn.toArray 125)).heap.size = wB.heap.size + 1 := by simp
  obtain ⟨wC, hwC⟩ : ∃ x, x = wB.alloc (.cells zIn.toArray 125) := ⟨_, rfl⟩
  rw [← hwC] at sm bC sC ⊢
  obtain ⟨BI, hBI⟩ : ∃ BI, BI = wB.heap.size := ⟨_, rfl⟩
  rw [← hBI] at sm bC sC ⊢
  have hKI : BK < BI := by rw [hBI]; exact HKB.out
  have RK3 := Lib.hid (RK.out.below bC hKI)
  have RA3 := Lib.hid (RA2.out.below bC (by omega))
  have b3 := B2.out.trans (bC.mono (by omega : B0 ≤ BI))
  have B3 := Lib.hid b3
  have hoff : OffT BI := HTAB.out.off (by rw [← HB0.out]; omega)
  have HOFF := Lib.hid hoff
  have ht3 : TabsIs wC := HTAB.out.below (by rw [← HB0.out]; exact b3)
  have hB0B : B ≤ B0 := by rw [HB0.out]; exact hB
  have ADD := Lib.hid (add_any BI 125 [] m _ _ (.slice A m.length c) wC Took.zero (by rw [List.length_replicate]) sm (Src.of_byt (HX.out.below (b3.mono hB0B)) (by have := b3.size; have := HB0.out; omega) (by omega)) (by simp; omega) ht3 hoff)
  rw [List.nil_append] at ADD
  have hIK := Lib.hid (show (Tryz.prog.info? 123).map (·.size) = some kRow.length from info_kind)
  have SC := Lib.hid sC
  clear hwC sm bC sC hBI b3 hoff ht3 RK RA2 B2 RA BA
  try dsimp only [Act.put]
  go_wp2_with (refine wpList_load_vrow rfl 123 (.tmp 3) rfl (g := BK) (t := 123) (vs := kRow) rfl RK3.out Tryz.underlying123 hIK.out ?_)
  refine ADD.out.mono ?_
  rintro e w4 ⟨rfl, ws, rest, ht, hws, hrow, htt⟩
  have hbi4 : BI < w4.heap.size := hrow.lt
  have RK4 := Lib.hid (RK3.out.turns htt (by omega))
  have RA4 := Lib.hid (RA3.out.turns htt (by omega))
  have b4 := B3.out.trans (htt.below_of (B := B0) (by have := SC.out; omega) (by intro i hi h; omega))
  have B4 := Lib.hid b4
  have TB4 := Lib.hid (show TabsIs w4 from HTAB.out.below (by rw [← HB0.out]; exact b4))
  obtain ⟨n, hn⟩ : ∃ n, n = m.length := ⟨_, rfl⟩
  obtain ⟨z, hz⟩ : ∃ z, z = (119 - n % 64) % 64 := ⟨_, rfl⟩
  have zc : w4.cell? ⟨BI, 133, none⟩ = some (.int .u64 (n : Int)) := by rw [hn]; exact hrow.cell (inRow_size _ hws ht.size)
  have PAD := Lib.hid (padding_any n z w4 (by omega) hz)
  have HT := Lib.hid ht
  have HWS := Lib.hid hws
  have HROW := Lib.hid hrow
  have HN := Lib.hid hn
  have HZ := Lib.hid hz
  have hz64 : z < 64 := by omega
  clear ht hws hrow htt b4 hn hz ADD RK3 RA3 B3
  go_wp2_with fail
  refine PAD.out.mono ?_
  rintro e w5 ⟨gp, rfl, hrow5, hb5, hge⟩
  have hs5 := hb5.size
  have REV := Lib.hid (reverse_any gp (z + 1) 8 5 (128 :: List.replicate z 0) (lenI n 8) w5 hrow5 (by simp) (by simp [lenI]))
  have HGE := Lib.hid hge
  have RK5 := Lib.hid (RK4.out.below hb5 (by omega))
  have RA5 := Lib.hid (RA4.out.below hb5 (by omega))
  have HROW5 := Lib.hid (HROW.out.below hb5 hbi4)
  have B5 := Lib.hid (B4.out.trans (hb5.mono (by omega)))
  have TB5 := Lib.hid (TB4.out.below hb5)
  obtain ⟨E, hE⟩ : ∃ E, E = z + 9 := ⟨_, rfl⟩
  rw [← hE]
  have HE := Lib.hid hE
  have k1 : IntKind.i64.wrap ((E : Int) - 8) = ((z + 1 : Nat) : Int) := by rw [IntWalk.i64_in _ (by omega)]; omega
  have k2 : ((z + 1 : Nat) : Int) ≤ (E : Int) := by omega
  have k3 : ¬ E = z + 1 := by omega
  have k4 : E - (z + 1) = 8 := by omega
  obtain ⟨o, ho⟩ : ∃ o, o = z + 1 := ⟨_, rfl⟩
  rw [← ho] at REV k1 k2 k3 k4
  have HO := Lib.hid ho
  clear hrow5 hb5 hge hE ho PAD RK4 RA4 HROW B4 TB4 zc
  go_wp2_with fail
  refine REV.out.mono ?_
  rintro e w6 ⟨rfl, hrow6, hb6⟩
  rw [HZ.out, padR_full] at hrow6
  have hgb : BI < gp := by have := HGE.out; omega
  have b6 : Below gp w5 w6 := hb6 gp (Nat.le_refl _)
  have hpl : (padR n).length = E := by rw [padR_length, HE.out, HZ.out]
  have hsrc : Src w6 BI (.slice (some ⟨gp, 0, none⟩) E E) (padR n) := by
    have h := irow_src (g := BI) hrow6 (by rw [hpl]; have := HE.out; unfold maxLen; omega) (by omega)
    rw [hpl] at h
    exact h
  have hrow66 := HROW5.out.below b6 hgb
  rw [HN.out] at hsrc
  have b66 := B5.out.trans (b6.mono (by omega : B0 ≤ gp))
  have ADD2 := Lib.hid (add_any BI 125 m (padR m.length) ws rest (.slice (some ⟨gp, 0, none⟩) E E) w6 HT.out HWS.out hrow66 hsrc (by rw [← HN.out, hpl]; have := HE.out; have := HN.out; omega) (HTAB.out.below (by rw [← HB0.out]; exact b66)) HOFF.out)
  have RK6 := Lib.hid (RK5.out.below b6 (by omega))
  have RA6 := Lib.hid (RA5.out.below b6 (by omega))
  have B6 := Lib.hid b66
  have HS6 := Lib.hid (show BI < w6.heap.size by have := b6.size; omega)
  clear hrow6 hb6 b6 hsrc hrow66 b66 REV k1 k2 k3 k4 hgb
  go_wp2_with (refine wpList_load_vrow rfl 123 (.tmp 3) rfl (g := BK) (t := 123) (vs := kRow) rfl RK6.out Tryz.underlying123 hIK.out ?_)
  refine ADD2.out.mono ?_
  rintro e w7 ⟨rfl, ws7, rest7, t7, l7, r7, tt7⟩
  have hrow7 : VRow w7 BI 125 (inRow ws7 rest7 (fullR m).length) := r7
  have hra7 : IRow w7 B0 41 .u8 (List.replicate 20 0) := RA6.out.turns tt7 (by omega)
  have hb7 : Below B0 W0 w7 := B6.out.trans (tt7.below_of (by have := HS6.out; omega) (by intro i hi h; omega))
  have hlt7 : BI < w7.heap.size := hrow7.lt
  have hw7 := t7.words (full_ne m)
  obtain ⟨s, hs⟩ : ∃ s, s = blocksR (fullR m) ((fullR m).length / 64) := ⟨_, rfl⟩
  have hrip : ripemd m = outR s.list := by rw [hs]; rfl
  have hok : s.Ok := by rw [hs]; exact blocksR_ok _ _
  have hw77 : ws7 = s.list := by rw [hs]; exact hw7
  subst hw77
  have rC := IRow.new w7 41 .u8 (List.replicate 20 0)
  have bC : Below w7.heap.size w7 (w7.alloc (.cells ((List.replicate 20 (0 : Int)).map (Value.int .u8)).toArray 41)) := (Below.refl _ w7).alloc (Nat.le_refl _) _
  have HRA := Lib.hid (show (w7.alloc (.cells ((List.replicate 20 (0 : Int)).map (Value.int .u8)).toArray 41)).rangeAt BI 0 [.int .u32 s.a, .int .u32 s.b, .int .u32 s.c, .int .u32 s.d, .int .u32 s.e] from (hrow7.below bC hlt7).range (by
    intro j x hx
    rw [Nat.zero_add]
    have hx2 : (s.list.map (Value.int .u32))[j]? = some x := hx
    rw [List.getElem?_map] at hx2
    cases hy : s.list[j]? with
    | none => rw [hy] at hx2; exact absurd hx2 (by simp)
    | some y =>
      rw [hy] at hx2
      obtain rfl : Value.int .u32 y = x := Option.some.inj hx2
      exact inRow_word _ hy))
  have RA8 := Lib.hid (hra7.below bC hra7.lt)
  have B8 := Lib.hid (hb7.trans (bC.mono (by omega)))
  have RC := Lib.hid rC
  have HRIP := Lib.hid hrip
  have HOK := Lib.hid hok
  have h20 := Lib.hid (show B0 < w7.heap.size by omega)
  clear hra7 hb7 hlt7 hrow7 hs hrip hok rC bC t7 l7 r7 tt7 hw7 ADD2 RK6 RA6 B6 RK5 RA5 HROW5 B5 TB5
  go_upto_region 8 with fail
  change Code.wp _ _ _ _ (w7.alloc (.cells ((List.replicate 20 (0 : Int)).map (Value.int .u8)).toArray 41))
  obtain ⟨w8, hw8⟩ : ∃ x, x = w7.alloc (.cells ((List.replicate 20 (0 : Int)).map (Value.int .u8)).toArray 41) := ⟨_, rfl⟩
  rw [← hw8] at HRA RA8 B8 RC ⊢
  obtain ⟨B9, hB9⟩ : ∃ B9, B9 = w7.heap.size := ⟨_, rfl⟩
  rw [← hB9] at RC h20 ⊢
  clear hw8 hB9
  try dsimp only [Act.put]
  go_wp2_with (refine wpList_load_mid rfl 120 (.tmp 26) rfl BI 0 rfl [.int .u32 s.a, .int .u32 s.b, .int .u32 s.c, .int .u32 s.d, .int .u32 s.e] _ HRA.out Tryz.underlying120 rfl info_5 ?_)
  go_loopw [28] (fun j wr => ∃ i : Nat, i ≤ 5 ∧ j = .int .i64 i ∧ IRow wr B9 41 .u8 (padZ 20 (nums (outR (s.list.take i)))) ∧ IRow wr B0 41 .u8 (List.replicate 20 0) ∧ Below B0 W0 wr) (fun j _ => 5 - (intOf j).toNat)
  case atStart => exact ⟨0, by omega, rfl, RC.out, RA8.out, B8.out⟩
  case round =>
    obtain ⟨i, hi, rfl, hrow, hres, hbel⟩ := hrel
    obtain ⟨w9, hw9⟩ : ∃ z : World, z = wr := ⟨_, rfl⟩
    rw [← hw9] at hrow hres hbel ⊢
    clear hw9
    by_cases h5 : i < 5
    · obtain ⟨x, hx, hix⟩ := idx5 s.a s.b s.c s.d s.e h5
      obtain ⟨p, hp⟩ : ∃ p, p = 4 * i := ⟨_, rfl⟩
      have ep : 4 * (i : Int) = (p : Int) := by omega
      have ew : IntKind.i64.wrap (p : Int) = (p : Int) := by rw [IntWalk.i64_in _ (by omega)]
      have hp16 : p ≤ 16 := by omega
      have i1 : (p : Int) ≤ 20 := by omega
      have i2 : ¬ 20 = p := by omega
      have i0 : (0 : Int) ≤ (p : Int) := by omega
      have b5 : (i : Int) < 5 := by omega
      have htl : (s.list.take i).length = i := by rw [List.length_take, S5.list_length]; omega
      have hhl : ((s.list.take i).map rev32).length = i := by rw [List.length_map, htl]
      have hol : (nums (outR (s.list.take i))).length = 4 * i := by rw [nums_length, outR_length, htl]
      have hxu : U32 x := S5.mem_ok HOK.out (List.mem_of_getElem? hx)
      have RV := Lib.hid (fun W => rev_any x W hxu)
      have hnext := put4_next (m := 20) (ws := (s.list.take i).map rev32) (x := rev32 x) (rev32_u hxu) (by rw [outB_length, hhl]; omega)
      rw [hhl, ← hp] at hnext
      have htk : (s.list.take i).map rev32 ++ [rev32 x] = (s.list.take (i + 1)).map rev32 := by
        rw [List.take_add_one]
        have : s.list[i]? = some x := hx
        rw [this]
        simp
      rw [htk] at hnext
      obtain ⟨RX, hRX⟩ : ∃ RX, RX = rev32 x := ⟨_, rfl⟩
      rw [← hRX] at RV hnext
      have C := Lib.hid (put32_any B9 p (20 - p) (20 - p) _ _ RX w9.drew (show IRow w9.drew _ _ _ _ from hrow) (by omega) (by rw [padZ_length (by rw [hol]; omega)]; omega))
      have hnext' : put4 (padZ 20 (nums (outR (s.list.take i)))) p RX = padZ 20 (nums (outR (s.list.take (i + 1)))) := hnext
      have HNEXT := Lib.hid hnext'
      have HRES := Lib.hid hres
      have HBEL := Lib.hid hbel
      clear hx hp htl hhl hol hnext hnext' htk hrow hres hbel hxu hRX
      go_wp2_with fail
      refine wp_region_held_drew (S := AnyW) (by kernel_rfl) ?_ (fun hHeld => ?_)
      · exact anyW _
      refine wpAnyH_take (i := 0) (oi := { dst := some 32, op := Go.Op.move (Go.Operand.tmp 7), type := 3, pos := "ripemd.go:24", after := #[], guard := none }) (v := ?av0) rfl (by kernel_rfl) (by kernel_rfl) (by kernel_rfl) (fun _ _ _ h => h) (Or.inl ⟨by rfl, ?ay0⟩) (by assumption) ?ar0
      case ay0 => (intro w hSw; (try dsimp only at hSw); go_simp; try (with_reducible rfl))
      case ar0 =>
      try simp only [Act.put, List.setIfInBounds_toArray, List.set_cons_zero, List.set_cons_succ]
      refine wpAnyH_take (i := 1) (oi := { dst := some 33, op := Go.Op.binOp Go.BinOp.mul 3 (Go.Operand.const (Go.Value.int Go.IntKind.i64 4)) (Go.Operand.tmp 32) 3, type := 3, pos := "ripemd.go:24", after := #[{ on := 0, ground := Go.Ground.data }], guard := none }) (v := ?av1) rfl (by kernel_rfl) (by kernel_rfl) (by kernel_rfl) (fun _ _ _ h => h) (Or.inl ⟨by rfl, ?ay1⟩) (by assumption) ?ar1
      case ay1 => (intro w hSw; (try dsimp only at hSw); go_simp; try (with_reducible rfl))
      case ar1 =>
      try simp only [Act.put, List.setIfInBounds_toArray, List.set_cons_zero, List.set_cons_succ]
      refine wpAnyH_take (i := 2) (oi := { dst := some 34, op := Go.Op.slice 41 (Go.Operand.tmp 6) (some (Go.Operand.tmp 33)) none none, type := 23, pos := "ripemd.go:24", after := #[{ on := 1, ground := Go.Ground.data }], guard := none }) (v := Value.slice (some ⟨B9, p, none⟩) (20 - p) (20 - p)) rfl (by kernel_rfl) (by kernel_rfl) (by kernel_rfl) (fun _ _ _ h => h) (Or.inl ⟨by rfl, ?ay2⟩) (by assumption) ?ar2
      case ay2 => (intro w hSw; (try dsimp only at hSw); go_simp; try (with_reducible rfl))
      case ar2 =>
      try simp only [Act.put, List.setIfInBounds_toArray, List.set_cons_zero, List.set_cons_succ]
      refine wpAnyH_take (i := 3) (oi := { dst := some 35, op := Go.Op.move (Go.Operand.tmp 8), type := 55, pos := "ripemd.go:24", after := #[], guard := none }) (v := ?av3) rfl (by kernel_rfl) (by kernel_rfl) (by kernel_rfl) (fun _ _ _ h => h) (Or.inl ⟨by rfl, ?ay3⟩) (by assumption) ?ar3
      case ay3 => (intro w hSw; (try dsimp only at hSw); go_simp; try (with_reducible rfl))
      case ar3 =>
      try simp only [Act.put, List.setIfInBounds_toArray, List.set_cons_zero, List.set_cons_succ]
      refine wpAnyH_ready (rs := [4]) (by kernel_rfl) (by simp) ?_
      refine AllReadyH.cons (o := { dst := some 36, op := Go.Op.call { callee := Go.Callee.value (Go.Operand.func 77), args := #[Go.Operand.tmp 35], argTypes := #[55] }, type := 55, pos := "ripemd.go:24", after := #[{ on := 3, ground := Go.Ground.data }], guard := none }) rfl (fun K hK => ?_) (AllReadyH.nil)
      go_simp
      refine (RV.out _).mono ?_
      rintro e w10 ⟨rfl, rfl⟩
      go_simp
      refine hK.out _ _ ?_ (fun hHeld => ?_)
      · exact anyW _
      clear hK K
      try simp only [Act.put, List.setIfInBounds_toArray, List.set_cons_zero, List.set_cons_succ]
      refine wpAnyH_ready (rs := [5]) (by kernel_rfl) (by simp) ?_
      refine AllReadyH.cons (o := { dst := some 37, op := Go.Op.call { callee := Go.Callee.value (Go.Operand.func 54), args := #[Go.Operand.tmp 34, Go.Operand.tmp 36], argTypes := #[23, 55] }, type := 0, pos := "ripemd.go:24", after := #[{ on := 2, ground := Go.Ground.data }, { on := 4, ground := Go.Ground.data }, { on := 4, ground := Go.Ground.chain }], guard := none }) rfl (fun K hK => ?_) (AllReadyH.nil)
      go_simp
      refine C.out.mono ?_
      rintro e w11 ⟨rfl, hr11, hb11⟩
      rw [HNEXT.out] at hr11
      have R11 := Lib.hid hr11
      have Q11 := Lib.hid (show Below B9 w9 w11 from ⟨(hb11 B9 (Nat.le_refl _)).os, (hb11 B9 (Nat.le_refl _)).tape, (hb11 B9 (Nat.le_refl _)).output, (hb11 B9 (Nat.le_refl _)).size, (hb11 B9 (Nat.le_refl _)).block⟩)
      clear hr11 hb11
      go_simp
      refine hK.out _ _ ?_ (fun hHeld => ?_)
      · exact anyW _
      clear hK K
      try simp only [Act.put, List.setIfInBounds_toArray, List.set_cons_zero, List.set_cons_succ]
      refine wpAnyH_done (by kernel_rfl) ?_ _
      go_wp2_with fail
      exact ⟨⟨i + 1, by omega, by go_num, R11.out, HRES.out.below Q11.out h20.out, HBEL.out.trans (Q11.out.mono (by have := h20.out; omega))⟩, by simp [intOf]; omega⟩
    · obtain rfl : i = 5 := by omega
      have h5' : ((5 : Nat) : Int) = 5 := rfl
      rw [h5']
      have e5 : padZ 20 (nums (outR (s.list.take 5))) = nums (ripemd m) := by
        have e : s.list.take 5 = s.list := rfl
        rw [e, ← HRIP.out]
        exact padZ_full (by rw [nums_length, ripemd_length])
      rw [e5] at hrow
      have hsz : (nums (ripemd m)).length = 20 := by rw [nums_length, ripemd_length]
      have HI := Lib.hid (show (Tryz.prog.info? 41).map (·.size) = some (nums (ripemd m)).length by rw [hsz]; exact info_20)
      have HL := Lib.hid (show (List.replicate 20 (0 : Int)).length = (nums (ripemd m)).length by rw [hsz]; rfl)
      have HRW := Lib.hid hrow
      have HRS := Lib.hid hres
      have HFIN := Lib.hid (setRow_irow (ys := nums (ripemd m)) hres)
      have HBF := Lib.hid (below_setRow hbel (Nat.le_refl _) ((nums (ripemd m)).map (Value.int .u8)).toArray)
      clear h5' e5 hrow hres hbel hi h5 hsz
      go_wp2_with (first
        | (refine wpList_load_irow rfl 41 (.tmp 6) rfl (g := B9) (t := 41) (k := .u8) (xs := nums (ripemd m)) rfl HRW.out Tryz.underlying41 HI.out ?_)
        | (refine wpList_store_irow rfl 41 (.tmp 2) (.tmp 39) rfl (g := B0) (t := 41) (k := .u8) (xs := List.replicate 20 0) (ys := nums (ripemd m)) rfl rfl HRS.out HI.out HL.out ?_))
      refine bodyPost_ret (v := digV (ripemd m)) ?_ rfl ⟨rfl, by rw [← HB0.out]; exact HBF.out⟩
      obtain ⟨fr, hrw⟩ : ∃ fr, (w9.setRow B0 ((nums (ripemd m)).map (Value.int .u8)).toArray).heap[B0]? = some (.cells ((nums (ripemd m)).map (Value.int .u8)).toArray 41 fr) := ⟨_, HFIN.out⟩
      exact results_cell_row Tryz.results42 _ _ B0 41 ((nums (ripemd m)).map (Value.int .u8)).toArray fr _ rfl hrw Tryz.underlying41 rfl (by rw [List.size_toArray, List.length_map]; exact HI.out)
end Go.Proofs.YtocblkacdoahfaaGreatDoor.Rm
