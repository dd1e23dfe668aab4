/-
  The law on values of some bits as values of others. Conditions: the listed table holds what its text lays.
-/
import Derived.Test.YtpaafkhlelljcaaDoorGrpRef2
import Derived.Test.YtpaafkhlelljcaaDoorTKept
import Derived.Test.YtpaafkhlelljcaaDoorTEq
import Derived.Test.YtpaafkhlelljcaaDoorB58
namespace Go.Proofs.YtpaafkhlelljcaaDoor
open Go.RowKit

set_option maxRecDepth 100000 in
set_option maxHeartbeats 1600000 in
theorem refReg_any (B : Nat) (x : Value) (ds : List UInt8) (f t : Int) (pad : Bool) (w : World) (hx : Byt w B x ds) (hB : B ≤ w.heap.size) (hl : ds.length ≤ 20000) :
    Calls Tryd.prog 41 #[x, .int .i64 f, .int .i64 t, .bool pad] w (RegPost w (regS f t pad ds)) := by
  by_cases hok : 1 ≤ f ∧ f ≤ 8 ∧ 1 ≤ t ∧ t ≤ 8
  · obtain ⟨a, rfl⟩ : ∃ a : Nat, f = a := ⟨f.toNat, by omega⟩
    obtain ⟨b, rfl⟩ : ∃ b : Nat, t = b := ⟨t.toNat, by omega⟩
    exact refReg_good B x ds a b pad w hx hB hl (by omega) (by omega) (by omega) (by omega)
  · have hr := regS_out (f := f) (t := t) (ds := ds) (by omega) pad
    rw [hr]
    obtain ⟨A, c, hxf⟩ := hx.form
    subst hxf
    clear hr hx
    by_cases h1 : f < 1
    · have d1 : decide (f < 1) = true := decide_eq_true h1
      go_enter Tryd.func41, Tryd.ntmps41
      go_wp2
      go_ret2
      exact ⟨_, rfl, OwnB.nil _ _, Below.refl _ _⟩
    · have d1 : decide (f < 1) = false := decide_eq_false h1
      by_cases h2 : 8 < f
      · have d2 : decide (8 < f) = true := decide_eq_true h2
        go_enter Tryd.func41, Tryd.ntmps41
        go_wp2
        go_ret2
        exact ⟨_, rfl, OwnB.nil _ _, Below.refl _ _⟩
      · have d2 : decide (8 < f) = false := decide_eq_false h2
        by_cases h3 : t < 1
        · have d3 : decide (t < 1) = true := decide_eq_true h3
          go_enter Tryd.func41, Tryd.ntmps41
          go_wp2
          go_ret2
          exact ⟨_, rfl, OwnB.nil _ _, Below.refl _ _⟩
        · have d3 : decide (t < 1) = false := decide_eq_false h3
          have d4 : decide (8 < t) = true := decide_eq_true (by omega)
          go_enter Tryd.func41, Tryd.ntmps41
          go_wp2
          go_ret2
          exact ⟨_, rfl, OwnB.nil _ _, Below.refl _ _⟩

theorem regS_code {f t : Int} {pad : Bool} {ds : List UInt8} (h : (regS f t pad ds).1 = 0) : 1 ≤ f ∧ f ≤ 8 ∧ 1 ≤ t ∧ t ≤ 8 ∧ ∀ d ∈ ds, d.toNat < 2 ^ f.toNat := by
  unfold regS at h
  split at h
  · cases h
  · next h1 =>
    split at h
    · cases h
    · next h2 =>
      refine ⟨by omega, by omega, by omega, by omega, fun d hd => ?_⟩
      rcases Nat.lt_or_ge d.toNat (2 ^ f.toNat) with h | h
      · exact h
      · exact absurd ⟨d, hd, h⟩ h2
theorem regS_back {f t : Int} {ds : List UInt8} (h : (regS f t true ds).1 = 0) (htf : t ≤ f) : regS t f false (regS f t true ds).2 = (0, ds) := by
  obtain ⟨h1, h2, h3, h4, h5⟩ := regS_code h
  obtain ⟨a, rfl⟩ : ∃ a : Nat, f = a := ⟨f.toNat, by omega⟩
  obtain ⟨b, rfl⟩ : ∃ b : Nat, t = b := ⟨t.toNat, by omega⟩
  exact reg_back (by omega) (by omega) (by omega) (by omega) (by omega) h5
theorem regS_length {f t : Int} {pad : Bool} {ds : List UInt8} (hl : ds.length ≤ 200) : (regS f t pad ds).2.length ≤ 2000 := by
  unfold regS
  split
  · simp
  · split
    · simp
    · have h1 : (bitsAll f.toNat ds).length ≤ 200 * 8 := by rw [bitsAll_length]; exact Nat.mul_le_mul hl (by omega)
      have h2 : (bitsAll f.toNat ds).length / t.toNat ≤ (bitsAll f.toNat ds).length := Nat.div_le_self _ _
      simp only
      split
      · split
        · simp only [List.length_append, outsN_length, List.length_cons, List.length_nil]; omega
        · simp only [outsN_length]; omega
      · split
        · simp
        · simp only [outsN_length]; omega

theorem drew_byt {w : World} {B k : Nat} {v : Value} {xs : List UInt8} (h : Byt w B v xs) : Byt (w.drewN k) B v xs := h.keep (fun _ _ _ => rfl)

end Go.Proofs.YtpaafkhlelljcaaDoor
