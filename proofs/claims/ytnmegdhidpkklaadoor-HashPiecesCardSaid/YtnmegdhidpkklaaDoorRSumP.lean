/-
  The reference's Sum256, on plain numbers. Conditions: none (plain mathematics).
-/
import Derived.Test.YtnmegdhidpkklaaDoorFill
namespace Go.Proofs.YtnmegdhidpkklaaDoor
open Go.RowKit

theorem b8_lenB (n : Nat) : (low ((8 * n : Nat) : Int) 8).reverse = lenB n := by
  have h : ∀ (m : Int) (k : Nat), b8 (m / 256 ^ k) = b8 (m / 256 ^ k) := fun _ _ => rfl
  unfold lenB
  simp only [low, List.reverse_cons, List.reverse_nil, List.nil_append, List.cons_append, List.range_succ, List.range_zero, List.map_append, List.map_cons, List.map_nil]
  have e : ∀ (x : Int) (y : Nat), x = (y : Int) → b8 x = UInt8.ofNat (y % 256) := fun x y hxy => by
    apply UInt8.toNat_inj.1
    have h1 := b8_toNat x
    have h2 : ((UInt8.ofNat (y % 256)).toNat : Int) = ((y % 256 : Nat) : Int) := byte_of
    omega
  rw [e _ (8 * n / 256 ^ (7 - 0)) (by omega), e _ (8 * n / 256 ^ (7 - 1)) (by omega), e _ (8 * n / 256 ^ (7 - 2)) (by omega), e _ (8 * n / 256 ^ (7 - 3)) (by omega), e _ (8 * n / 256 ^ (7 - 4)) (by omega), e _ (8 * n / 256 ^ (7 - 5)) (by omega), e _ (8 * n / 256 ^ (7 - 6)) (by omega), e _ (8 * n / 256 ^ (7 - 7)) (by omega)]
theorem fillG_256 (m : List UInt8) : fillG m 64 8 false = full m := by
  unfold fillG full padB
  have e : zeroG m.length 64 8 = (119 - m.length % 64) % 64 := by unfold zeroG; omega
  rw [e]
  simp only [Bool.false_eq_true, if_false, b8_lenB, List.append_assoc]
/-- A word's first bytes. -/
def accW (bs : List UInt8) (t : Nat) : Nat → Int
  | 0 => 0
  | i + 1 => accW bs t i * 256 + ((bs.getD (4 * t + i) 0).toNat : Int)
theorem accW_four (bs : List UInt8) (t : Nat) : accW bs t 4 = wordAt bs t := by
  unfold wordAt be32
  simp only [accW, Nat.add_zero]
  omega
theorem accW_bd (bs : List UInt8) (t : Nat) : ∀ i, i ≤ 3 → 0 ≤ accW bs t i ∧ accW bs t i < 16777216
  | 0, _ => by simp [accW]
  | 1, _ => by have h0 := (bs.getD (4 * t + 0) 0).toNat_lt; simp only [accW]; omega
  | 2, _ => by have h0 := (bs.getD (4 * t + 0) 0).toNat_lt; have h1 := (bs.getD (4 * t + 1) 0).toNat_lt; simp only [accW]; omega
  | 3, _ => by have h0 := (bs.getD (4 * t + 0) 0).toNat_lt; have h1 := (bs.getD (4 * t + 1) 0).toNat_lt; have h2 := (bs.getD (4 * t + 2) 0).toNat_lt; simp only [accW]; omega
  | i + 4, h => absurd h (by omega)
theorem set_same {xs : List Int} {t : Nat} {z : Int} (h : xs[t]? = some z) : xs.set t z = xs := by
  apply List.ext_getElem?
  intro i
  rw [List.getElem?_set]
  split
  · rename_i e
    subst e
    split
    · exact h.symm
    · rename_i h2; rw [List.getElem?_eq_none (by omega)] at h; cases h
  · rfl
theorem outB_at (hs : List Int) : ∀ {i : Nat} {x : Int}, hs[i / 4]? = some x → U32 x → (nums (outB hs))[i]? = some (x / 2 ^ (24 - 8 * (i % 4)) % 256) := by
  induction hs with
  | nil => intro i x h; simp at h
  | cons y hs ih =>
    intro i x h hx
    have e : outB (y :: hs) = outB [y] ++ outB hs := by unfold outB; simp
    rw [e, nums_append]
    have hl : (nums (outB [y])).length = 4 := by rw [nums_length, outB_length]; rfl
    rcases Nat.lt_or_ge i 4 with h4 | h4
    · have h0 : i / 4 = 0 := by omega
      rw [h0] at h
      obtain rfl : y = x := Option.some.inj h
      rw [List.getElem?_append_left (by omega), word_bytes hx]
      obtain rfl | rfl | rfl | rfl : i = 0 ∨ i = 1 ∨ i = 2 ∨ i = 3 := by omega
      · rfl
      · rfl
      · rfl
      · simp
    · have h1 : i / 4 = (i - 4) / 4 + 1 := by omega
      rw [h1, List.getElem?_cons_succ] at h
      rw [List.getElem?_append_right (by omega), hl, ih h hx]
      congr 4
      omega
end Go.Proofs.YtnmegdhidpkklaaDoor
