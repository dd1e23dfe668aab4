/-
  Texts joined: Hex, HexRef, Val. Conditions: those of each.
-/
import Derived.Test.YtocblkacdoahfaaGreatDoorJ27
import Derived.Test.YtocblkacdoahfaaGreatDoorJ5
/-
  text.Hex: two digits for each byte. Conditions: sizes within the reach.
-/
namespace Go.Proofs.YtocblkacdoahfaaGreatDoor.Tx
open Go.RowKit

def nibs (c : UInt8) : List UInt8 := [b8 ((c.toNat : Int) / 16), b8 ((c.toNat : Int) % 16)]
def nibsOf (xs : List UInt8) : List UInt8 := xs.flatMap nibs
theorem nibsOf_length (xs : List UInt8) : (nibsOf xs).length = 2 * xs.length := by
  induction xs with
  | nil => rfl
  | cons c xs ih => unfold nibsOf at ih ⊢; rw [List.flatMap_cons, List.length_append, ih, List.length_cons]; simp [nibs]; omega
theorem nibsOf_snoc {xs : List UInt8} {i : Nat} {q : UInt8} (h : xs[i]? = some q) : nibsOf (xs.take (i + 1)) = nibsOf (xs.take i) ++ nibs q := by
  unfold nibsOf
  rw [List.take_add_one, h, List.flatMap_append]
  simp

theorem nibs_small {xs : List UInt8} {p : UInt8} (h : p ∈ nibsOf xs) : p.toNat < 22 := by
  unfold nibsOf at h
  obtain ⟨c, _, hc⟩ := List.mem_flatMap.1 h
  have hlt := c.toNat_lt
  have hb := b8_toNat ((c.toNat : Int) / 16)
  have hb2 := b8_toNat ((c.toNat : Int) % 16)
  unfold nibs at hc
  rcases List.mem_cons.1 hc with rfl | hc
  · omega
  · rw [List.mem_singleton.1 hc]
    omega

end Go.Proofs.YtocblkacdoahfaaGreatDoor.Tx

/-
  The reference's Hex and value. Conditions: sizes within the reach.
-/
namespace Go.Proofs.YtocblkacdoahfaaGreatDoor.Tx
open Go.RowKit

def hexD : ByteArray := ⟨#[48, 49, 50, 51, 52, 53, 54, 55, 56, 57, 97, 98, 99, 100, 101, 102, 65, 66, 67, 68, 69, 70]⟩
/-- A digit's number. -/
def digI (q : Int) : Int := if q < 10 then 48 + q else 87 + q
def digs (c : UInt8) : List UInt8 := [b8 (digI ((c.toNat : Int) / 16)), b8 (digI ((c.toNat : Int) % 16))]
def digsOf (xs : List UInt8) : List UInt8 := xs.flatMap digs
theorem digsOf_length (xs : List UInt8) : (digsOf xs).length = 2 * xs.length := by
  induction xs with
  | nil => rfl
  | cons c xs ih => unfold digsOf at ih ⊢; rw [List.flatMap_cons, List.length_append, ih, List.length_cons]; simp [digs]; omega
theorem digsOf_snoc {xs : List UInt8} {i : Nat} {q : UInt8} (h : xs[i]? = some q) : digsOf (xs.take (i + 1)) = digsOf (xs.take i) ++ digs q := by
  unfold digsOf
  rw [List.take_add_one, h, List.flatMap_append]
  simp
theorem dig_letter : ∀ n : Fin 16, hexD.data.toList.getD (b8 (n.val : Int)).toNat 0 = b8 (digI (n.val : Int)) := by decide +kernel
theorem digs_letters (xs : List UInt8) : letters hexD (nibsOf xs) = digsOf xs := by
  unfold letters nibsOf digsOf
  rw [List.map_flatMap]
  refine congrArg (fun f => List.flatMap f xs) (funext fun c => ?_)
  have hc := c.toNat_lt
  have h1 := dig_letter ⟨c.toNat / 16, by omega⟩
  have h2 := dig_letter ⟨c.toNat % 16, by omega⟩
  have e1 : ((c.toNat / 16 : Nat) : Int) = (c.toNat : Int) / 16 := by omega
  have e2 : ((c.toNat % 16 : Nat) : Int) = (c.toNat : Int) % 16 := by omega
  dsimp only at h1 h2
  rw [e1] at h1
  rw [e2] at h2
  unfold nibs digs
  rw [List.map_cons, List.map_cons, List.map_nil, h1, h2]

theorem digI_bd {q : Int} (h0 : 0 ≤ q) (h1 : q ≤ 15) : 48 ≤ digI q ∧ digI q ≤ 102 := by
  unfold digI
  split <;> omega
end Go.Proofs.YtocblkacdoahfaaGreatDoor.Tx

/-
  The reference's value: a hexadecimal digit's number. Conditions: none.
-/
namespace Go.Proofs.YtocblkacdoahfaaGreatDoor.Tx
open Go.RowKit

/-- Is it the k-th digit? -/
def hitB (c : UInt8) (k : Nat) : Bool := decide ((c.toNat : Int) = digI k) || (decide (9 < k) && decide ((c.toNat : Int) = digI k - 32))
/-- The digit's number, or -1. -/
def refVal (c : UInt8) : Int := match (List.range 16).find? (hitB c) with | some k => k | none => -1
theorem find_first {f : Nat → Bool} {n k : Nat} (hk : k < n) (hf : f k = true) (hall : ∀ j, j < k → f j = false) : (List.range n).find? f = some k := by
  rw [List.find?_range_eq_some]
  exact ⟨hf, by simpa using hk, fun j hj => by simpa using hall j hj⟩
theorem refVal_at {c : UInt8} {k : Nat} (hk : k < 16) (hf : hitB c k = true) (hall : ∀ j, j < k → hitB c j = false) : refVal c = k := by
  unfold refVal
  rw [find_first hk hf hall]
theorem refVal_no {c : UInt8} (hall : ∀ j, j < 16 → hitB c j = false) : refVal c = -1 := by
  unfold refVal
  have : (List.range 16).find? (hitB c) = none := by
    rw [List.find?_eq_none]
    intro j hj
    rw [hall j (by simpa using hj)]
    simp
  rw [this]

/-- The number, by the program's table of digits. -/
def valB (c : UInt8) : Int := let p := posB hexD c; if p < 0 then -1 else if 15 < p then p - 6 else p
theorem val_same_fin : ∀ c : Fin 256, refVal (UInt8.ofNat c.val) = valB (UInt8.ofNat c.val) := by decide +kernel
theorem val_same (c : UInt8) : refVal c = valB c := by
  have h := val_same_fin ⟨c.toNat, by have := c.toNat_lt; omega⟩
  simpa using h
theorem val_bd (c : UInt8) : -1 ≤ valB c ∧ valB c ≤ 15 := by
  have h : ∀ c : Fin 256, -1 ≤ valB (UInt8.ofNat c.val) ∧ valB (UInt8.ofNat c.val) ≤ 15 := by decide +kernel
  have h := h ⟨c.toNat, by have := c.toNat_lt; omega⟩
  simpa using h

end Go.Proofs.YtocblkacdoahfaaGreatDoor.Tx
