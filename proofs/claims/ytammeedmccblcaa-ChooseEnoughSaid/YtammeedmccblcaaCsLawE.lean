/-
  The law's own helper: the program's coins stand as the reference's. Conditions: none.
-/
import Derived.Test.YtammeedmccblcaaCsLawA
namespace Go.Proofs.Ytammeedmccblcaa.Cs
open Go.RowKit

set_option maxRecDepth 100000 in
set_option maxHeartbeats 3200000 in
theorem kept_any (B : Nat) (p q : Value) (l : List (Int × Int)) (w : World) (hp : CrR w B p l) (hq : CrR w B q l) (hB : B ≤ w.heap.size) :
    Calls Try.prog 15 #[p, q] w fun r w' => r = .returned (.bool true) ∧ Below w.heap.size w w' := by
  have hpc : ∀ W, Below w.heap.size w W → CrR W B p l := fun W h => RowR.below hp (h.mono hB)
  have hqc : ∀ W, Below w.heap.size w W → CrR W B q l := fun W h => RowR.below hq (h.mono hB)
  obtain ⟨A1, c1, rfl, hl1, hm1⟩ := RowR.form hp
  obtain ⟨A2, c2, rfl, _, _⟩ := RowR.form hq
  have hl : l.length ≤ 9223372036854775807 := Nat.le_trans hl1 hm1
  obtain ⟨nX, hnX⟩ : ∃ z, z = l.length := ⟨_, rfl⟩
  rw [← hnX] at hpc hqc hl ⊢
  have HP := Lib.hid hpc
  have HQ := Lib.hid hqc
  have HNX := Lib.hid hnX
  have HL := Lib.hid hl
  clear hpc hqc hnX hl hp hq hl1 hm1
  go_enter Try.func15, Try.ntmps15
  go_wp2
  go_loopw [5, 8] (fun q i wr => ∃ (j : Nat), j ≤ nX ∧ i = .int .i64 (j : Int) ∧ Hid (Below w.heap.size w wr)) (fun _ i _ => nX - (intOf i).toNat)
  case atStart => exact ⟨0, Nat.zero_le _, rfl, Lib.hid (Below.refl _ _)⟩
  case round =>
    obtain ⟨j, hj, rfl, hBW⟩ := hrel
    obtain ⟨w3, rfl⟩ : ∃ z : World, z = wr := ⟨_, rfl⟩
    have hl := HL.out
    by_cases hlt : j < nX
    · as_aux_lemma =>
      have dj : decide ((j : Int) < (nX : Int)) = true := decide_eq_true (by omega)
      obtain ⟨x, hx⟩ : ∃ x, l[j]? = some x := ⟨_, List.getElem?_eq_getElem (by rw [← HNX.out]; exact hlt)⟩
      obtain ⟨b1, o1, c1', e1, _, _, _, h1, h1'⟩ := (HP.out w3 hBW.out).at hx
      obtain ⟨b2, o2, c2', e2, _, _, _, h2, h2'⟩ := (HQ.out w3 hBW.out).at hx
      injection e1 with e1 f1 g1
      injection e2 with e2 f2 g2
      subst e1 e2
      clear f1 g1 f2 g2 hx
      obtain ⟨x0, x1⟩ := x
      simp only at h1 h1' h2 h2'
      have d0 : decide (x0 = x0) = true := decide_eq_true rfl
      have d1 : decide (x1 = x1) = true := decide_eq_true rfl
      go_wp2_with fail
      go_quiet (fail)
      go_wp2_with fail
      exact ⟨⟨j + 1, hlt, by first | rfl | exact next (by omega), Lib.hid (hBW.out.trans (show Below w.heap.size w3 (w3.drewN nq) from ⟨rfl, rfl, rfl, Nat.le_refl _, fun _ _ => rfl⟩))⟩, by first | exact meas hlt (by omega) | (show nX - ((j : Int) + 1).toNat < nX - (j : Int).toNat; omega)⟩
    · as_aux_lemma =>
      have dj : decide ((j : Int) < (nX : Int)) = false := decide_eq_false (by omega)
      go_wp2
      go_ret
      exact ⟨rfl, hBW.out⟩
end Go.Proofs.Ytammeedmccblcaa.Cs
