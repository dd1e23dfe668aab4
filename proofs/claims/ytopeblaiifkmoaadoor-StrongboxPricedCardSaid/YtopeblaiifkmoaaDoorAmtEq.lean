/-
  Both ways to read a text as an amount come to the same. Conditions: none (plain lists of bytes).
-/
import Derived.Test.YtopeblaiifkmoaaDoorAmtPar
namespace Go.Proofs.YtopeblaiifkmoaaDoor
open Go.RowKit

theorem onF_acc (n : Int) (l : List UInt8) : onF n l = n * 10 ^ l.length + onF 0 l := by
  induction l generalizing n with
  | nil => simp [onF]
  | cons c l ih =>
    have h1 : onF n (c :: l) = onF (10 * n + dvB c) l := rfl
    have h2 : onF 0 (c :: l) = onF (10 * 0 + dvB c) l := rfl
    rw [h1, h2, ih, ih (10 * 0 + dvB c), List.length_cons, Int.pow_succ]
    have : (10 * n + dvB c) * 10 ^ l.length = n * (10 ^ l.length * 10) + dvB c * 10 ^ l.length := by
      rw [Int.add_mul, Int.mul_comm 10 n, Int.mul_assoc, Int.mul_comm 10 (10 ^ l.length)]
    rw [this]
    simp
    omega
theorem onF_append (n : Int) (a b : List UInt8) : onF n (a ++ b) = onF (onF n a) b := by unfold onF; rw [List.foldl_append]
theorem onF_zeros (n : Int) (k : Nat) : onF n (List.replicate k 48) = n * 10 ^ k := by
  induction k generalizing n with
  | zero => simp [onF]
  | succ k ih =>
    have h1 : onF n (List.replicate (k + 1) 48) = onF (10 * n + dvB 48) (List.replicate k 48) := rfl
    rw [h1, ih, show dvB 48 = 0 from by decide, Int.pow_succ, Int.add_zero, Int.mul_comm 10 n, Int.mul_assoc, Int.mul_comm 10 (10 ^ k)]
theorem onF_nonneg (l : List UInt8) : 0 ≤ onF 0 l := (onF_bd (Int.le_refl 0) (Int.le_refl 0) l).1

/-- From the end on, or from the beginning. -/
def numH (l : List UInt8) : Int × Int := l.foldl (fun s c => (s.1 + dvB c * s.2, s.2 * 10)) (0, 1)
theorem numG_map (pre : List (Nat × UInt8)) : numG pre = numH (pre.map (·.2)) := by unfold numG numH; rw [List.foldl_map]
theorem upto_rev (l : List UInt8) : (upto (fromEnd l) l.length).map (·.2) = l.reverse := by
  apply List.ext_getElem
  · simp [upto]
  · intro i h1 h2
    have hi : i < l.length := by simpa [upto] using h1
    simp only [upto, List.map_map, List.getElem_map, List.getElem_range, Function.comp, List.getElem_reverse, fromEnd]
    rw [List.getElem?_eq_getElem (by omega)]
    rfl
theorem numH_snoc (l : List UInt8) (c : UInt8) : numH (l ++ [c]) = ((numH l).1 + dvB c * (numH l).2, (numH l).2 * 10) := by simp [numH]
theorem numH_rev (l : List UInt8) : numH l.reverse = (onF 0 l, 10 ^ l.length) := by
  induction l with
  | nil => rfl
  | cons c l ih =>
    rw [List.reverse_cons, numH_snoc, ih]
    have h1 : onF 0 (c :: l) = onF (10 * 0 + dvB c) l := rfl
    rw [h1, onF_acc (10 * 0 + dvB c)]
    simp only [List.length_cons, Int.pow_succ]
    congr 1
    simp
    omega
theorem numB_eq (s : ByteArray) : numB s = onF 0 s.data.toList := by
  unfold numB
  rw [numG_map, upto_rev, numH_rev]

theorem dB_val {c : UInt8} (h : dB c = true) : 0 ≤ dvB c ∧ dvB c ≤ 9 ∧ (c ≠ 48 → 1 ≤ dvB c) := by
  unfold dB at h
  simp only [decide_eq_true_eq] at h
  rw [dvB_eq]
  refine ⟨by omega, by omega, fun hc => ?_⟩
  have : c.toNat ≠ 48 := fun h => hc (UInt8.toNat_inj.1 h)
  omega
theorem onF_small (l : List UInt8) (h : l.all dB = true) : onF 0 l ≤ 10 ^ l.length - 1 := by
  obtain ⟨r, hr⟩ : ∃ r, r = l.reverse := ⟨_, rfl⟩
  have hp : l = r.reverse := by rw [hr, List.reverse_reverse]
  rw [hp] at h ⊢
  clear hp hr l
  induction r with
  | nil => simp [onF]
  | cons c r ih =>
    rw [List.reverse_cons, List.all_append] at h
    simp only [Bool.and_eq_true] at h
    rw [List.reverse_cons, onF_snoc, List.length_append, List.length_cons, List.length_nil, Nat.zero_add, Int.pow_succ]
    have := ih h.1
    have := dB_val (c := c) (by simpa using h.2)
    omega
theorem capF_small : ∀ (n : Int) (l : List UInt8), (∀ k, k < l.length → onF n (l.take k) ≤ 2100000000000000) → capF n l = onF n l
  | _, [], _ => rfl
  | n, c :: l, h => by
    have h0 := h 0 (by simp)
    have e1 : capF n (c :: l) = capF (if n ≤ 2100000000000000 then 10 * n + dvB c else n) l := rfl
    have e2 : onF n (c :: l) = onF (10 * n + dvB c) l := rfl
    have h0' : n ≤ 2100000000000000 := h0
    rw [e1, e2, if_pos h0']
    exact capF_small _ l (fun k hk => h (k + 1) (by simp; omega))
theorem capF_eight (l : List UInt8) (h : l.all dB = true) (hl : l.length ≤ 8) : capF 0 l = onF 0 l := by
  refine capF_small 0 l (fun k hk => ?_)
  have h2 := onF_small (l.take k) (List.all_eq_true.2 fun x hx => List.all_eq_true.1 h x (List.mem_of_mem_take hx))
  have h3 : (10 : Int) ^ (l.take k).length ≤ 10 ^ 8 := by exact_mod_cast Nat.pow_le_pow_right (by omega) (by rw [List.length_take]; omega)
  omega
theorem capF_stays {n : Int} (h : 2100000000000000 < n) : ∀ l, capF n l = n
  | [] => rfl
  | c :: l => by
    have e1 : capF n (c :: l) = capF (if n ≤ 2100000000000000 then 10 * n + dvB c else n) l := rfl
    rw [e1, if_neg (by omega)]
    exact capF_stays h l
theorem capF_ge : ∀ (l : List UInt8) (n : Int), 1 ≤ n → n * 10 ^ l.length ≤ capF n l ∨ 2100000000000000 < capF n l
  | [], n, _ => .inl (by simp [capF])
  | c :: l, n, h => by
    have e1 : capF n (c :: l) = capF (if n ≤ 2100000000000000 then 10 * n + dvB c else n) l := rfl
    by_cases hn : n ≤ 2100000000000000
    · rw [e1, if_pos hn]
      have hd := dvB_bd c
      rcases capF_ge l (10 * n + dvB c) (by omega) with h1 | h1
      · refine .inl (Int.le_trans ?_ h1)
        rw [List.length_cons, Int.pow_succ, Int.mul_comm (10 ^ l.length) 10, ← Int.mul_assoc]
        exact Int.mul_le_mul_of_nonneg_right (by omega) (Int.pow_nonneg (by omega))
      · exact .inr h1
    · exact .inr (by rw [capF_stays (by omega)]; omega)
theorem capF_big (l : List UInt8) (h : l.all dB = true) (hl : 8 < l.length) (hh : l.head? ≠ some 48) : 21000000 < capF 0 l := by
  cases l with
  | nil => simp at hl
  | cons c l =>
    have e1 : capF 0 (c :: l) = capF (10 * 0 + dvB c) l := rfl
    have hd := dB_val (c := c) (List.all_eq_true.1 h c (by simp))
    have h1 := hd.2.2 (fun e => hh (by rw [e]; rfl))
    have hp : (10 : Int) ^ 8 ≤ 10 ^ l.length := by
      simp at hl
      exact_mod_cast Nat.pow_le_pow_right (by omega) (by omega)
    rw [e1]
    rcases capF_ge l (10 * 0 + dvB c) (by omega) with h2 | h2
    · have : 1 * 10 ^ l.length ≤ (10 * 0 + dvB c) * 10 ^ l.length := Int.mul_le_mul_of_nonneg_right (by omega) (by omega)
      omega
    · omega
end Go.Proofs.YtopeblaiifkmoaaDoor
