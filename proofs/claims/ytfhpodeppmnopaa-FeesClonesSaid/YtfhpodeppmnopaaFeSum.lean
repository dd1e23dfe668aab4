/-
  What an estimate stands on: the sums from its bucket on. Conditions: none.
-/
import Derived.Test.YtfhpodeppmnopaaFeEst
namespace Go.Proofs.Ytfhpodeppmnopaa

/-- The sum of f over the buckets from m on, below n. -/
def upf (f : Nat → Int) (m : Nat) : Nat → Int
  | 0 => 0
  | k + 1 => upf f m k + (if m ≤ k then f k else 0)
theorem upf_step (f : Nat → Int) (m : Nat) : ∀ n, upf f m n = upf f (m + 1) n + (if m < n then f m else 0)
  | 0 => by simp [upf]
  | n + 1 => by
    simp only [upf]
    rw [upf_step f m n]
    by_cases h1 : m < n
    · rw [if_pos h1, if_pos (by omega), if_pos (by omega), if_pos (by omega)]
      omega
    · rw [if_neg h1]
      by_cases h2 : m = n
      · subst h2
        rw [if_pos (Nat.le_refl _), if_neg (by omega), if_pos (by omega)]
        try omega
      · rw [if_neg (by omega), if_neg (by omega), if_neg (by omega)]
theorem upf_top (f : Nat → Int) : ∀ n m, n ≤ m → upf f m n = 0
  | 0, _, _ => rfl
  | n + 1, m, h => by
    simp only [upf]
    rw [upf_top f n m (by omega), if_neg (by omega)]
    rfl
/-- Enough is counted from bucket m on, and enough of it waited no longer. -/
def Good (S : Bs) (t : Nat) (p : Int) (m : Nat) : Prop := 2000 ≤ upf S.A m 24 ∧ p * upf S.A m 24 ≤ upf (fun k => S.I k t) m 24 * 100
theorem est_good (S : Bs) (t : Nat) (p : Int) : ∀ n, n ≤ 24 → ∀ best a i : Int,
    ((best = 0 ∧ upf S.A n 24 = a ∧ upf (fun k => S.I k t) n 24 = i) ∨ (∃ b, b < 24 ∧ best = ((1000 * 2 ^ b : Nat) : Int) ∧ Good S t p b ∧ upf S.A n 24 = upf S.A b 24 + a ∧ upf (fun k => S.I k t) n 24 = upf (fun k => S.I k t) b 24 + i)) →
    estF S t p n best a i ≠ 0 → ∃ m, m < 24 ∧ estF S t p n best a i = ((1000 * 2 ^ m : Nat) : Int) ∧ Good S t p m
  | 0, _, best, a, i, h, hne => by
    rcases h with ⟨h, _⟩ | ⟨b, hb, h1, h2, _⟩
    · exact absurd h hne
    · exact ⟨b, hb, h1, h2⟩
  | n + 1, hn, best, a, i, h, hne => by
    have eA := upf_step S.A n 24
    have eI := upf_step (fun k => S.I k t) n 24
    rw [if_pos (by omega)] at eA eI
    simp only [estF] at hne ⊢
    by_cases h1 : a + S.A n < 2000
    · rw [if_pos h1] at hne ⊢
      refine est_good S t p n (by omega) best _ _ ?_ hne
      rcases h with ⟨h, ha, hi⟩ | ⟨b, hb, q1, q2, ha, hi⟩
      · exact .inl ⟨h, by omega, by omega⟩
      · exact .inr ⟨b, hb, q1, q2, by omega, by omega⟩
    · rw [if_neg h1] at hne ⊢
      by_cases h2 : (i + S.I n t) * 100 < (a + S.A n) * p
      · rw [if_pos h2] at hne ⊢
        rcases h with ⟨h, _⟩ | ⟨b, hb, q1, q2, _⟩
        · exact absurd h hne
        · exact ⟨b, hb, q1, q2⟩
      · rw [if_neg h2] at hne ⊢
        refine est_good S t p n (by omega) _ 0 0 (.inr ⟨n, by omega, rfl, ?_, by omega, by omega⟩) hne
        rcases h with ⟨h, ha, hi⟩ | ⟨b, hb, q1, q2, ha, hi⟩
        · have e1 : upf S.A n 24 = a + S.A n := by omega
          have e2 : upf (fun k => S.I k t) n 24 = i + S.I n t := by omega
          refine ⟨by omega, ?_⟩
          rw [e1, e2, Int.mul_comm]
          omega
        · have e1 : upf S.A n 24 = upf S.A b 24 + (a + S.A n) := by omega
          have e2 : upf (fun k => S.I k t) n 24 = upf (fun k => S.I k t) b 24 + (i + S.I n t) := by omega
          obtain ⟨g1, g2⟩ := q2
          refine ⟨by omega, ?_⟩
          rw [e1, e2, Int.mul_add, Int.mul_comm p (a + S.A n)]
          omega
theorem estB_good (S : Bs) (t p : Int) (h : estB S t p ≠ 0) : ∃ m, m < 24 ∧ estB S t p = ((1000 * 2 ^ m : Nat) : Int) ∧ Good S (t - 1).toNat p m :=
  est_good S (t - 1).toNat p 24 (Nat.le_refl _) 0 0 0 (.inl ⟨rfl, upf_top _ 24 24 (Nat.le_refl _), upf_top _ 24 24 (Nat.le_refl _)⟩) h
theorem upf_bound {f : Nat → Int} {M : Int} (m : Nat) (hM : 0 ≤ M) : ∀ n, (∀ k, k < n → 0 ≤ f k ∧ f k ≤ M) → 0 ≤ upf f m n ∧ upf f m n ≤ n * M
  | 0, _ => by simp [upf]
  | n + 1, h => by
    obtain ⟨h1, h2⟩ := upf_bound m hM n (fun k hk => h k (by omega))
    obtain ⟨h3, h4⟩ := h n (by omega)
    have e : ((n + 1 : Nat) : Int) * M = n * M + M := by rw [Int.natCast_add, Int.add_mul]; simp
    simp only [upf]
    rw [e]
    split <;> omega
theorem pow_le_iff {m k : Nat} : ((1000 * 2 ^ m : Nat) : Int) ≤ ((1000 * 2 ^ k : Nat) : Int) ↔ m ≤ k := by
  constructor
  · intro h
    have h1 : 2 ^ m ≤ 2 ^ k := by omega
    exact (Nat.pow_le_pow_iff_right (by omega)).1 h1
  · intro h
    have h1 : 2 ^ m ≤ 2 ^ k := Nat.pow_le_pow_right (by omega) h
    omega
end Go.Proofs.Ytfhpodeppmnopaa
