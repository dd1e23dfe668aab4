/-
  The reference's value: a hexadecimal digit's number. Conditions: none.
-/
import Derived.Test.YtpaafkhlelljcaaDoorHexRef
namespace Go.Proofs.YtpaafkhlelljcaaDoor
open Go.RowKit

/-- Is it the k-th digit? -/
def hitB (c : UInt8) (k : Nat) : Bool := decide ((c.toNat : Int) = digI k) || (decide (9 < k) && decide ((c.toNat : Int) = digI k - 32))
/-- The digit's number, or -1. -/
def refVal (c : UInt8) : Int := match (List.range 16).find? (hitB c) with | some k => k | none => -1
theorem find_first {f : Nat → Bool} {n k : Nat} (hk : k < n) (hf : f k = true) (hall : ∀ j, j < k → f j = false) : (List.range n).find? f = some k := by
  rw [List.find?_range_eq_some]
  exact ⟨hf, by simpa using hk, fun j hj => by simpa using hall j hj⟩
theorem refVal_at {c : UInt8} {k : Nat} (hk : k < 16) (hf : hitB c k = true) (hall : ∀ j, j < k → hitB c j = false) : refVal c = k := by
  unfold refVal
  rw [find_first hk hf hall]
theorem refVal_no {c : UInt8} (hall : ∀ j, j < 16 → hitB c j = false) : refVal c = -1 := by
  unfold refVal
  have : (List.range 16).find? (hitB c) = none := by
    rw [List.find?_eq_none]
    intro j hj
    rw [hall j (by simpa using hj)]
    simp
  rw [this]

/-- The number, by the program's table of digits. -/
def valB (c : UInt8) : Int := let p := posB hexD c; if p < 0 then -1 else if 15 < p then p - 6 else p
theorem val_same_fin : ∀ c : Fin 256, refVal (UInt8.ofNat c.val) = valB (UInt8.ofNat c.val) := by decide +kernel
theorem val_same (c : UInt8) : refVal c = valB c := by
  have h := val_same_fin ⟨c.toNat, by have := c.toNat_lt; omega⟩
  simpa using h
theorem val_bd (c : UInt8) : -1 ≤ valB c ∧ valB c ≤ 15 := by
  have h : ∀ c : Fin 256, -1 ≤ valB (UInt8.ofNat c.val) ∧ valB (UInt8.ofNat c.val) ≤ 15 := by decide +kernel
  have h := h ⟨c.toNat, by have := c.toNat_lt; omega⟩
  simpa using h

end Go.Proofs.YtpaafkhlelljcaaDoor
