/-
  The law on targets. Conditions: none.
-/
import Derived.Test.YtgkocmljnoambaaDoorRfWork
import Derived.Test.YtgkocmljnoambaaDoorNAwk
namespace Go.Proofs.YtgkocmljnoambaaDoor
open Go.RowKit

theorem LZ.small {n f : Nat} (hn : n < top) (h : LZ n f) : n < 256 ^ (32 - f) := by
  have key : ∀ k, k ≤ f → n < 256 ^ (32 - k) := by
    intro k
    induction k with
    | zero => intro _; exact hn
    | succ k ih =>
      intro hk
      have h1 := ih (by omega)
      have h2 := h.zero k (by omega)
      have hle := h.le
      unfold dg at h2
      have e : 32 - k = 31 - k + 1 := by omega
      rw [e, Nat.pow_succ] at h1
      have h3 : n / 256 ^ (31 - k) < 256 := Nat.div_lt_of_lt_mul h1
      have h4 : n / 256 ^ (31 - k) = 0 := by
        generalize n / 256 ^ (31 - k) = z at h2 h3 ⊢
        omega
      rw [show 32 - (k + 1) = 31 - k by omega]
      exact (Nat.div_eq_zero_iff_lt (Nat.pow_pos (by omega))).1 h4
  exact key f (Nat.le_refl _)
theorem three_val {n f : Nat} (hn : n < top) (h : LZ n f) : (f ≤ 29 → three n f = n / 256 ^ (29 - f)) ∧ (29 < f → three n f = n * 256 ^ (f - 29)) := by
  have hs := h.small hn
  have hle := h.le
  constructor
  · intro h29
    unfold three dgz dg
    rw [if_pos (by omega), if_pos (by omega), if_pos (by omega)]
    obtain ⟨g, hg⟩ : ∃ g, g = 29 - f := ⟨_, rfl⟩
    rw [show 31 - f = g + 2 by omega, show 31 - (f + 1) = g + 1 by omega, show 31 - (f + 2) = g by omega, ← hg]
    rw [show 32 - f = g + 3 by omega, Nat.pow_add] at hs
    rw [Nat.pow_add, Nat.pow_add, ← Nat.div_div_eq_div_mul, ← Nat.div_div_eq_div_mul]
    have h3 : n / 256 ^ g < 256 ^ 3 := Nat.div_lt_of_lt_mul hs
    generalize n / 256 ^ g = q at h3 ⊢
    show q / 65536 % 256 * 65536 + q / 256 % 256 * 256 + q % 256 = q
    have : q < 16777216 := h3
    omega
  · intro h29
    unfold three dgz dg
    obtain rfl | rfl | rfl : f = 30 ∨ f = 31 ∨ f = 32 := by omega
    · have : n < 65536 := hs
      simp
      omega
    · have : n < 256 := hs
      simp
      omega
    · have : n < 1 := hs
      simp
      omega
theorem bitsR_lt (n f : Nat) : bitsR n f < 4294967296 := by
  have := three_lt n f
  unfold bitsR
  split <;> omega
theorem bits_below {n f : Nat} (hn : n < top) (h : LZ n f) : bitsV (bitsR n f) ≤ n := by
  have h3 := three_lt n f
  have hle := h.le
  obtain ⟨v1, v2⟩ := three_val hn h
  obtain ⟨t, ht⟩ : ∃ t, three n f = t := ⟨_, rfl⟩
  rw [ht] at h3 v1 v2
  have key : ∀ e m, m < 16777216 → (3 ≤ e → m * 256 ^ (e - 3) ≤ n) → (e < 3 → m / 256 ^ (3 - e) ≤ n) → bitsV (e * 16777216 + m) ≤ n := by
    intro e m hm k1 k2
    unfold bitsV bitsE bitsM
    rw [show (e * 16777216 + m) / 16777216 = e by omega, show (e * 16777216 + m) % 16777216 = m by omega]
    split
    · exact k1 (by omega)
    · exact k2 (by omega)
  unfold bitsR
  rw [show three n f = t from ht]
  split
  · rename_i hge
    refine key _ _ (by omega) ?_ ?_
    · intro he
      by_cases h29 : f ≤ 29
      · rw [show 33 - f - 3 = 29 - f + 1 by omega, Nat.pow_succ, Nat.mul_comm (256 ^ _) 256, ← Nat.mul_assoc]
        refine Nat.le_trans (Nat.mul_le_mul_right _ (Nat.div_mul_le_self t 256)) ?_
        rw [v1 h29]
        exact Nat.div_mul_le_self _ _
      · obtain rfl : f = 30 := by omega
        have := v2 (by omega)
        simp at this ⊢
        omega
    · intro he
      have := v2 (by omega)
      obtain rfl | rfl : f = 31 ∨ f = 32 := by omega
      · simp at this ⊢
        omega
      · have h0 : n < 1 := by have := h.small hn; simpa using this
        have : n = 0 := by omega
        subst this
        omega
  · refine key _ _ h3 ?_ ?_
    · intro he
      rw [show 32 - f - 3 = 29 - f by omega, v1 (by omega)]
      exact Nat.div_mul_le_self _ _
    · intro he
      rw [v2 (by omega), show 3 - (32 - f) = f - 29 by omega, Nat.mul_div_cancel _ (Nat.pow_pos (by omega))]
      exact Nat.le_refl _
theorem tgt_below {n f : Nat} (hn : n < top) (h : LZ n f) : tgtN (bitsR n f) ≤ n := by
  have h1 := bits_below hn h
  unfold tgtN expN
  split
  · split <;> omega
  · omega
theorem workN_lt (bs : Nat) : workN bs < top := by
  have h := top_pos
  unfold workN
  split
  · rename_i hk
    have := (work_low hk).1
    have h2 : top / (tgtN bs + 1) ≤ top / 2 := Nat.div_le_div_left this (by omega)
    omega
  · exact h
end Go.Proofs.YtgkocmljnoambaaDoor
