/-
  The reference's Estimate. Conditions: a thousand entries at most.
-/
import Derived.Test.YtfhpodeppmnopaaFeRblk
namespace Go.Proofs.Ytfhpodeppmnopaa
open Go.RowKit

theorem lowR_half (m : Nat) : lowR (m + 1) / 2 = lowR m := by rw [← lowR_next]; omega
def LwAt (k l : Value) : Prop := ∃ i : Nat, i ≤ 23 ∧ k = .int .i64 (i : Int) ∧ l = .int .i64 (lowR i)
def RsAt (S : Bs) (s : Nat) (p B : Int) (k r a i l : Value) : Prop :=
  ∃ (n : Nat) (r' a' i' l' : Int), k = .int .i64 ((n : Int) - 1) ∧ r = .int .i64 r' ∧ a = .int .i64 a' ∧ i = .int .i64 i' ∧ l = .int .i64 l' ∧ EstAt S s p B n r' (if r' = 0 then 7 else 0) a' i' ∧ (n = 0 ∨ l' = lowR n / 2) ∧ 0 ≤ l' ∧ l' ≤ 1000000000000
theorem meas_dn {m : Nat} : (intOf (.int .i64 ((m : Int) - 1)) + 1).toNat < (intOf (.int .i64 (m : Int)) + 1).toNat := by
  simp [intOf]
theorem meas_dn1 {m : Nat} : (intOf (.int .i64 (-1)) + 1).toNat < (intOf (.int .i64 (m : Int)) + 1).toNat := by
  simp [intOf]

end Go.Proofs.Ytfhpodeppmnopaa
