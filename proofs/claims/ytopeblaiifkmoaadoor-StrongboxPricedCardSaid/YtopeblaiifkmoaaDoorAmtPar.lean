/-
  What the reference makes of a text as an amount, said of its bytes. Conditions: none.
-/
import Derived.Test.YtopeblaiifkmoaaDoorAmtDig
namespace Go.Proofs.YtopeblaiifkmoaaDoor
open Go.RowKit

/-- The number so far, until it is beyond any amount. -/
def capF : Int → List UInt8 → Int := List.foldl fun n c => if n ≤ 2100000000000000 then 10 * n + dvB c else n
theorem capF_snoc (n : Int) (l : List UInt8) (c : UInt8) : capF n (l ++ [c]) = if capF n l ≤ 2100000000000000 then 10 * capF n l + dvB c else capF n l := by unfold capF; rw [List.foldl_append]; rfl
theorem capF_bd (l : List UInt8) : 0 ≤ capF 0 l ∧ capF 0 l ≤ 21000000000000255 := by
  obtain ⟨r, hr⟩ : ∃ r, r = l.reverse := ⟨_, rfl⟩
  have hp : l = r.reverse := by rw [hr, List.reverse_reverse]
  rw [hp]
  clear hp hr l
  induction r with
  | nil => simp [capF]
  | cons c r ih =>
    rw [List.reverse_cons, capF_snoc]
    have := dvB_bd c
    split <;> omega
/-- Digits behind a number. -/
def onF : Int → List UInt8 → Int := List.foldl fun n c => 10 * n + dvB c
theorem onF_snoc (n : Int) (l : List UInt8) (c : UInt8) : onF n (l ++ [c]) = 10 * onF n l + dvB c := by simp [onF]
theorem onF_bd {n M : Int} (h0 : 0 ≤ n) (hM : n ≤ M) (l : List UInt8) : 0 ≤ onF n l ∧ onF n l ≤ (M + 29) * 10 ^ l.length - 29 := by
  obtain ⟨r, hr⟩ : ∃ r, r = l.reverse := ⟨_, rfl⟩
  have hp : l = r.reverse := by rw [hr, List.reverse_reverse]
  rw [hp]
  clear hp hr l
  induction r with
  | nil => simp [onF]; omega
  | cons c r ih =>
    rw [List.reverse_cons, onF_snoc, List.length_append, List.length_cons, List.length_nil, Nat.zero_add, Int.pow_succ, ← Int.mul_assoc]
    have := dvB_bd c
    omega
theorem onF_room {n : Int} (h0 : 0 ≤ n) (hM : n ≤ 21000000) (l : List UInt8) (hl : l.length ≤ 8) : 0 ≤ onF n l ∧ onF n l ≤ 2100002900000000 := by
  obtain ⟨h1, h2⟩ := onF_bd h0 hM l
  have h3 : (10 : Int) ^ l.length ≤ 10 ^ 8 := by exact_mod_cast Nat.pow_le_pow_right (by omega) hl
  exact ⟨h1, by omega⟩

/-- What the digits ahead of the point, and those behind it, come to. -/
def endR (n : Int) (p : List UInt8) : Int × Int :=
  if 21000000 < n then (0, 6) else if 2100000000000000 < onF n p * 10 ^ (8 - p.length) then (0, 6) else (onF n p * 10 ^ (8 - p.length), 0)
def parseR (s : ByteArray) (K : Nat) : Int × Int :=
  if K = 0 ∨ (1 < K ∧ s.data.toList.head? = some 48) then (0, 3)
  else if K < s.size ∧ (s.data.toList[K]? ≠ some 46 ∨ K + 1 = s.size ∨ 9 < s.size - K) then (0, 3)
  else if (s.data.toList.drop (K + 1)).all dB then endR (capF 0 (s.data.toList.take K)) (s.data.toList.drop (K + 1)) else (0, 3)

theorem pow_room {n : Int} (h0 : 0 ≤ n) (l : List UInt8) (hn : n ≤ 21000000) (j : Nat) (hj : l.length + j ≤ 8) : 0 ≤ onF n l * 10 ^ j ∧ onF n l * 10 ^ j ≤ 2100002900000000 := by
  obtain ⟨h1, h2⟩ := onF_bd h0 hn l
  have hp : (0 : Int) < 10 ^ j := Int.pow_pos (by omega)
  refine ⟨Int.mul_nonneg h1 (by omega), ?_⟩
  have h3 : onF n l * 10 ^ j ≤ ((n + 29) * 10 ^ l.length) * 10 ^ j := Int.mul_le_mul_of_nonneg_right (by have := (onF_bd h0 (Int.le_refl n) l).2; omega) (by omega)
  have h4 : ((n + 29) * 10 ^ l.length) * 10 ^ j = (n + 29) * 10 ^ (l.length + j) := by rw [Int.mul_assoc, ← Int.pow_add]
  have h5 : (10 : Int) ^ (l.length + j) ≤ 10 ^ 8 := by exact_mod_cast Nat.pow_le_pow_right (by omega) hj
  have h6 : (n + 29) * 10 ^ (l.length + j) ≤ (n + 29) * 10 ^ 8 := Int.mul_le_mul_of_nonneg_left h5 (by omega)
  omega
theorem digit_at {s : ByteArray} {k K : Nat} (h : k < K) (hK : K ≤ s.size) (ha : (s.data.toList.take K).all dB = true) : 48 ≤ ((s[k]'(by omega)).toNat : Int) ∧ ((s[k]'(by omega)).toNat : Int) ≤ 57 := by
  have hm : s[k]'(by omega) ∈ s.data.toList.take K := by
    have : s[k]'(by omega) = (s.data.toList.take K)[k]'(by rw [List.length_take, blen]; omega) := by rw [List.getElem_take]; rfl
    rw [this]; exact List.getElem_mem _
  have := List.all_eq_true.1 ha _ hm
  unfold dB at this
  simpa using this
theorem take_snocL {l : List UInt8} {k : Nat} (h : k < l.length) : l.take (k + 1) = l.take k ++ [l[k]] := List.take_succ_eq_append_getElem h
end Go.Proofs.YtopeblaiifkmoaaDoor
