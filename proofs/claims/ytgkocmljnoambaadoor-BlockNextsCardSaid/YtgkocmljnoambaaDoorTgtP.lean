/-
  What bits stand for, digit by digit. Conditions: none (plain mathematics).
-/
import Derived.Test.YtgkocmljnoambaaDoorNumP
namespace Go.Proofs.YtgkocmljnoambaaDoor

/-- Another digit at a place that holds 0. -/
theorem num_set {c k d : Nat} (hk : k ≤ 31) (h0 : c / 256 ^ k % 256 = 0) (hd : d < 256) : (num c).set (31 - k) (d : Int) = num (c + d * 256 ^ k) := by
  have hP : 0 < 256 ^ k := Nat.pow_pos (by omega)
  apply List.ext_getElem?
  intro i
  rw [List.getElem?_set, num_length]
  by_cases hi : i < 32
  · rw [num_at _ hi, num_at _ hi]
    obtain ⟨j, hj⟩ : ∃ j, i + j = 31 := ⟨31 - i, by omega⟩
    have e1 : 31 - i = j := by omega
    have hkd : (c + d * 256 ^ k) / 256 ^ k = c / 256 ^ k + d := Nat.add_mul_div_right _ _ hP
    by_cases he : 31 - k = i
    · have : j = k := by omega
      subst this
      rw [if_pos he, if_pos (by omega)]
      unfold dg
      rw [e1, hkd]
      congr 2
      omega
    · rw [if_neg he]
      unfold dg
      rw [e1]
      congr 2
      rcases Nat.lt_or_ge j k with h | h
      · obtain ⟨s, hs⟩ : ∃ s, k = j + (s + 1) := ⟨k - j - 1, by omega⟩
        have e2 : d * 256 ^ k = 256 * (d * 256 ^ s) * 256 ^ j := by
          rw [hs, Nat.pow_add, Nat.pow_succ]
          simp only [Nat.mul_comm, Nat.mul_left_comm]
        rw [e2, Nat.add_mul_div_right _ _ (Nat.pow_pos (by omega))]
        omega
      · obtain ⟨s, hs⟩ : ∃ s, j = k + (s + 1) := ⟨j - k - 1, by omega⟩
        have e3 : ∀ x : Nat, x / 256 ^ j = x / 256 ^ k / 256 / 256 ^ s := fun x => by
          rw [hs, Nat.pow_add, Nat.pow_succ, Nat.div_div_eq_div_mul, Nat.div_div_eq_div_mul, Nat.mul_comm (256 ^ s)]
        rw [e3 c, e3 (c + _), hkd]
        have : (c / 256 ^ k + d) / 256 = c / 256 ^ k / 256 := by omega
        rw [this]
  · rw [if_neg (by omega), List.getElem?_eq_none (by rw [num_length]; omega), List.getElem?_eq_none (by rw [num_length]; omega)]

/-- What bits stand for. -/
def bitsE (bits : Nat) : Nat := bits / 16777216
def bitsM (bits : Nat) : Nat := bits % 16777216
def bitsV (bits : Nat) : Nat := if 3 ≤ bitsE bits then bitsM bits * 256 ^ (bitsE bits - 3) else bitsM bits / 256 ^ (3 - bitsE bits)
/-- The number, or 0 if it has more than 32 bytes. -/
def expN (bits : Nat) : Nat := if bitsV bits < top then bitsV bits else 0
theorem expN_lt (bits : Nat) : expN bits < top := by
  have := top_pos
  unfold expN
  split <;> omega
/-- The first i digits of m, at their places. -/
def part (m e i : Nat) : Nat := if i ≤ e then m / 256 ^ (3 - i) * 256 ^ (e - i) else m / 256 ^ (3 - e)
theorem part_zero {m : Nat} (hm : m < 16777216) (e : Nat) : part m e 0 = 0 := by
  unfold part
  rw [if_pos (by omega), Nat.div_eq_of_lt (by simpa using hm), Nat.zero_mul]
theorem part_three (m e : Nat) : part m e 3 = if 3 ≤ e then m * 256 ^ (e - 3) else m / 256 ^ (3 - e) := by
  unfold part
  split <;> simp
theorem part_next {m e i : Nat} (hi : i < 3) (h : i < e) : part m e (i + 1) = part m e i + m / 256 ^ (2 - i) % 256 * 256 ^ (e - i - 1) := by
  unfold part
  rw [if_pos (by omega), if_pos (by omega)]
  have e1 : 3 - (i + 1) = 2 - i := by omega
  have e2 : 3 - i = 2 - i + 1 := by omega
  have e3 : e - i = e - i - 1 + 1 := by omega
  have e4 : e - (i + 1) = e - i - 1 := by omega
  rw [e1, e2, e4, e3, Nat.pow_succ, Nat.pow_succ, Nat.add_sub_cancel, ← Nat.div_div_eq_div_mul]
  generalize m / 256 ^ (2 - i) = q
  generalize 256 ^ (e - i - 1) = N
  have : q = q / 256 * 256 + q % 256 := by omega
  rw [Nat.mul_comm N, ← Nat.mul_assoc, ← Nat.add_mul, ← this]
theorem part_same {m e i : Nat} (h : e ≤ i) : part m e (i + 1) = part m e i := by
  unfold part
  rw [if_neg (by omega)]
  rcases Nat.lt_or_ge e i with h2 | h2
  · rw [if_neg (by omega)]
  · have : e = i := by omega
    subst this
    rw [if_pos (Nat.le_refl _), Nat.sub_self, Nat.pow_zero, Nat.mul_one]
theorem part_digit {m e i : Nat} (h : i < e) : part m e i / 256 ^ (e - i - 1) % 256 = 0 := by
  unfold part
  rw [if_pos (by omega)]
  have e3 : e - i = e - i - 1 + 1 := by omega
  rw [e3, Nat.pow_succ, Nat.add_sub_cancel, Nat.mul_comm (256 ^ _) 256, ← Nat.mul_assoc, Nat.mul_div_cancel _ (Nat.pow_pos (by omega))]
  omega
theorem part_le {m e i : Nat} (hi : i < 3) : part m e i ≤ part m e (i + 1) := by
  rcases Nat.lt_or_ge i e with h | h
  · rw [part_next hi h]; omega
  · rw [part_same h]; omega
theorem bitsV_part (bits : Nat) : bitsV bits = part (bitsM bits) (bitsE bits) 3 := by rw [part_three]; rfl
/-- A digit above 32 places. -/
theorem part_great {m e i : Nat} (hi : i < 3) (h : 32 < e - i) (hd : m / 256 ^ (2 - i) % 256 ≠ 0) : ¬ part m e 3 < top := by
  have h1 : top ≤ part m e (i + 1) := by
    rw [part_next hi (by omega)]
    have h2 : 256 ^ 32 ≤ 256 ^ (e - i - 1) := Nat.pow_le_pow_right (by omega) (by omega)
    have h3 : 1 * 256 ^ (e - i - 1) ≤ m / 256 ^ (2 - i) % 256 * 256 ^ (e - i - 1) := Nat.mul_le_mul_right _ (by omega)
    unfold top
    omega
  have h4 : part m e (i + 1) ≤ part m e 3 := by
    obtain rfl | rfl | rfl : i = 0 ∨ i = 1 ∨ i = 2 := by omega
    · exact Nat.le_trans (part_le (i := 1) (by omega)) (part_le (i := 2) (by omega))
    · exact part_le (i := 2) (by omega)
    · exact Nat.le_refl _
  omega
/-- The digit that bits bear. -/
theorem bits_digit (bits i : Nat) (hi : i < 3) : bits / 2 ^ (16 - 8 * i) % 256 = bitsM bits / 256 ^ (2 - i) % 256 := by
  unfold bitsM
  obtain rfl | rfl | rfl : i = 0 ∨ i = 1 ∨ i = 2 := by omega
  · show bits / 65536 % 256 = bits % 16777216 / 65536 % 256
    omega
  · show bits / 256 % 256 = bits % 16777216 / 256 % 256
    omega
  · show bits / 1 % 256 = bits % 16777216 / 1 % 256
    omega
theorem part_lt {m e i : Nat} (hi : i < 3) (h : i < e) (he : e - i ≤ 32) (hp : part m e i < top) : part m e (i + 1) < top := by
  rw [part_next hi h]
  have hd : m / 256 ^ (2 - i) % 256 < 256 := Nat.mod_lt _ (by omega)
  generalize m / 256 ^ (2 - i) % 256 = d at hd
  unfold part at hp ⊢
  rw [if_pos (by omega)] at hp ⊢
  obtain ⟨r, hr⟩ : ∃ r, 32 = r + (e - i) := ⟨32 - (e - i), by omega⟩
  have ht : top = 256 ^ r * 256 ^ (e - i) := by unfold top; rw [hr, Nat.pow_add]
  rw [ht] at hp ⊢
  generalize m / 256 ^ (3 - i) = q at hp ⊢
  have hq : q < 256 ^ r := Nat.lt_of_mul_lt_mul_right hp
  have h2 : (q + 1) * 256 ^ (e - i) ≤ 256 ^ r * 256 ^ (e - i) := Nat.mul_le_mul_right _ hq
  have e3 : 256 ^ (e - i) = 256 * 256 ^ (e - i - 1) := by
    have : e - i = e - i - 1 + 1 := by omega
    rw [this, Nat.pow_succ, Nat.mul_comm, Nat.add_sub_cancel]
  have h3 : (d + 1) * 256 ^ (e - i - 1) ≤ 256 * 256 ^ (e - i - 1) := Nat.mul_le_mul_right _ hd
  have h4 : 0 < 256 ^ (e - i - 1) := Nat.pow_pos (by omega)
  rw [Nat.add_mul, Nat.one_mul] at h2 h3
  rw [← e3] at h3
  omega

/-! From the lowest digit on -/
/-- What is left of m where bits have less than three bytes, and how many they have then. -/
def lowM (m e : Nat) : Nat := if 3 ≤ e then m else m / 256 ^ (3 - e)
def lowE (e : Nat) : Nat := if 3 ≤ e then e else 3
theorem bitsV_low (bits : Nat) : bitsV bits = lowM (bitsM bits) (bitsE bits) * 256 ^ (lowE (bitsE bits) - 3) := by
  unfold bitsV lowM lowE
  split
  · rfl
  · simp
theorem low_next (m e : Nat) (h : e < 3) : m / 256 / 256 ^ (3 - (e + 1)) = m / 256 ^ (3 - e) := by
  have : 3 - e = 3 - (e + 1) + 1 := by omega
  rw [this, Nat.pow_succ, Nat.mul_comm, Nat.div_div_eq_div_mul]
/-- The lowest k digits of m, at their places. -/
def lows (m f k : Nat) : Nat := m % 256 ^ k * 256 ^ f
theorem lows_zero (m f : Nat) : lows m f 0 = 0 := by unfold lows; rw [Nat.pow_zero, Nat.mod_one, Nat.zero_mul]
theorem lows_next (m f k : Nat) : lows m f (k + 1) = lows m f k + m / 256 ^ k % 256 * 256 ^ (f + k) := by
  unfold lows
  rw [Nat.pow_succ, Nat.mod_mul, Nat.add_mul, Nat.pow_add, Nat.mul_comm (256 ^ k), Nat.mul_assoc, Nat.mul_comm (256 ^ k) (256 ^ f)]
theorem lows_three {m : Nat} (hm : m < 16777216) (f : Nat) : lows m f 3 = m * 256 ^ f := by
  unfold lows
  rw [Nat.mod_eq_of_lt (by simpa using hm)]
theorem lows_digit (m f k : Nat) : lows m f k / 256 ^ (f + k) % 256 = 0 := by
  have h : lows m f k < 256 ^ (f + k) := by
    unfold lows
    rw [Nat.pow_add, Nat.mul_comm]
    exact Nat.mul_lt_mul_of_pos_left (Nat.mod_lt _ (Nat.pow_pos (by omega))) (Nat.pow_pos (by omega))
  rw [Nat.div_eq_of_lt h]
theorem lows_lt {m f k : Nat} (h : f + k ≤ 32) : lows m f k < top := by
  have h1 : lows m f k < 256 ^ (f + k) := by
    unfold lows
    rw [Nat.pow_add, Nat.mul_comm]
    exact Nat.mul_lt_mul_of_pos_left (Nat.mod_lt _ (Nat.pow_pos (by omega))) (Nat.pow_pos (by omega))
  have h2 : 256 ^ (f + k) ≤ 256 ^ 32 := Nat.pow_le_pow_right (by omega) h
  unfold top
  omega
theorem lows_le (m f k : Nat) : lows m f k ≤ lows m f (k + 1) := by rw [lows_next]; omega
theorem lows_great {m f k : Nat} (hk : k < 3) (h : 32 ≤ f + k) (hd : m / 256 ^ k % 256 ≠ 0) : ¬ lows m f 3 < top := by
  have h1 : top ≤ lows m f (k + 1) := by
    rw [lows_next]
    have h2 : 256 ^ 32 ≤ 256 ^ (f + k) := Nat.pow_le_pow_right (by omega) h
    have h3 : 1 * 256 ^ (f + k) ≤ m / 256 ^ k % 256 * 256 ^ (f + k) := Nat.mul_le_mul_right _ (by omega)
    unfold top
    omega
  have h4 : lows m f (k + 1) ≤ lows m f 3 := by
    obtain rfl | rfl | rfl : k = 0 ∨ k = 1 ∨ k = 2 := by omega
    · exact Nat.le_trans (lows_le m f 1) (lows_le m f 2)
    · exact lows_le m f 2
    · exact Nat.le_refl _
  omega

/-! Targets -/
/-- The greatest target. -/
def limitN : Nat := 8388607 * 256 ^ 29
theorem limit_lt : limitN < top := by unfold limitN top; decide
/-- Are these bits those of a target? -/
def tgtB (bits : Nat) : Bool := decide (bitsM bits < 8388608 ∧ expN bits ≠ 0 ∧ expN bits ≤ limitN)
/-- The target, or 0. -/
def tgtN (bits : Nat) : Nat := if tgtB bits then expN bits else 0
theorem tgtN_lt (bits : Nat) : tgtN bits < top := by
  have := top_pos
  have := expN_lt bits
  unfold tgtN
  split <;> omega
theorem exp_limit : expN 545259519 = limitN := by
  have h : bitsV 545259519 = limitN := by
    rfl
  unfold expN
  rw [h, if_pos limit_lt]
theorem sign_bit (bits : Nat) : bits &&& 8388608 = bits / 8388608 % 2 * 8388608 := by
  have hb : bits.testBit 23 = decide (bits / 8388608 % 2 = 1) := Nat.testBit_eq_decide_div_mod_eq
  have h : bits &&& 2 ^ 23 = if bits.testBit 23 then 2 ^ 23 else 0 := by
    apply Nat.eq_of_testBit_eq
    intro i
    rw [Nat.testBit_and, Nat.testBit_two_pow]
    by_cases hi : 23 = i
    · subst hi
      cases bits.testBit 23
      · rw [if_neg (by simp), Nat.zero_testBit, Bool.false_and]
      · rw [if_pos rfl, Nat.testBit_two_pow]
        simp
    · have e : decide (23 = i) = false := decide_eq_false hi
      rw [e, Bool.and_false]
      split
      · rw [Nat.testBit_two_pow, e]
      · rw [Nat.zero_testBit]
  rw [show (8388608 : Nat) = 2 ^ 23 from rfl, h, hb]
  rcases Nat.mod_two_eq_zero_or_one (bits / 8388608) with h | h <;> rw [show (2 : Nat) ^ 23 = 8388608 from rfl, h] <;> rfl
theorem sign_iff (bits : Nat) : bitsM bits < 8388608 ↔ bits / 8388608 % 2 = 0 := by
  unfold bitsM
  omega
end Go.Proofs.YtgkocmljnoambaaDoor
