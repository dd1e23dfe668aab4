/-
  A number's digits, the least one first. Conditions: none (plain mathematics).
-/
import Derived.Test.YtpaafkhlelljcaaDoorOwn
namespace Go.Proofs.YtpaafkhlelljcaaDoor
open Go.RowKit

def valF (b : Nat) (ds : List UInt8) : Nat := ds.foldl (fun a d => a * b + d.toNat) 0
theorem valF_snoc (b : Nat) {ds : List UInt8} {i : Nat} {d : UInt8} (h : ds[i]? = some d) : valF b (ds.take (i + 1)) = valF b (ds.take i) * b + d.toNat := by
  unfold valF
  rw [List.take_add_one, h, List.foldl_append]
  rfl
/-- The j-th digit. -/
def digN (b N j : Nat) : UInt8 := b8 ((N / b ^ j % b : Nat) : Int)
def digitsL (b N k : Nat) : List UInt8 := (List.range k).map (digN b N)
theorem digitsL_length (b N k : Nat) : (digitsL b N k).length = k := by simp [digitsL]
theorem digitsL_succ (b N k : Nat) : digitsL b N (k + 1) = digitsL b N k ++ [digN b N k] := by simp [digitsL, List.range_succ]
theorem digitsL_at {b N k j : Nat} (h : j < k) : (digitsL b N k)[j]? = some (digN b N j) := by
  unfold digitsL
  rw [List.getElem?_map, List.getElem?_range h]
  rfl
theorem digN_nat {b N j : Nat} (h0 : 0 < b) (h : b ≤ 256) : (digN b N j).toNat = N / b ^ j % b := by
  have h1 := b8_toNat ((N / b ^ j % b : Nat) : Int)
  have h2 := Nat.mod_lt (N / b ^ j) h0
  unfold digN
  omega
/-- The digits of N, none of them for nothing. -/
def AscOf (b N : Nat) (out : List UInt8) : Prop := ∃ k, out = digitsL b N k ∧ N / b ^ k = 0 ∧ ∀ j, j < k → N / b ^ j ≠ 0
theorem AscOf.zero (b : Nat) : AscOf b 0 [] := ⟨0, rfl, by simp, fun j h => by omega⟩
theorem AscOf.unique {b N : Nat} {x y : List UInt8} (hx : AscOf b N x) (hy : AscOf b N y) : x = y := by
  obtain ⟨k, rfl, hk, hkj⟩ := hx
  obtain ⟨m, rfl, hm, hmj⟩ := hy
  have h1 : ¬ k < m := fun h => hmj k h hk
  have h2 : ¬ m < k := fun h => hkj m h hm
  have : k = m := by omega
  rw [this]
theorem digits_short {b N m n : Nat} (hb : 2 ≤ b) (hN : N < 2 ^ n) (h : ∀ j, j < m → N / b ^ j ≠ 0) : m ≤ n := by
  rcases Nat.lt_or_ge n m with hl | hl
  · exfalso
    refine h n hl (Nat.div_eq_of_lt (Nat.lt_of_lt_of_le hN ?_))
    exact Nat.pow_le_pow_left hb n
  · exact hl
theorem AscOf.short {b N : Nat} {out : List UInt8} {n : Nat} (h : AscOf b N out) (hb : 2 ≤ b) (hN : N < 2 ^ n) : out.length ≤ n := by
  obtain ⟨k, rfl, hk, hkj⟩ := h
  rw [digitsL_length]
  exact digits_short hb hN hkj
theorem valF_lt {b : Nat} (hb : b ≤ 256) (_h1 : 0 < b) (ds : List UInt8) (hd : ∀ d ∈ ds, d.toNat < b) : valF b ds < 2 ^ (8 * ds.length) := by
  obtain ⟨r, hr⟩ : ∃ r, r = ds.reverse := ⟨_, rfl⟩
  have hp : ds = r.reverse := by rw [hr, List.reverse_reverse]
  rw [hp] at hd ⊢
  clear hp hr ds
  induction r with
  | nil => simp [valF]
  | cons d r ih =>
    have hd0 := hd d (by simp)
    have ih := ih (fun e he => hd e (by rw [List.reverse_cons]; exact List.mem_append_left _ he))
    have e : valF b (d :: r).reverse = valF b r.reverse * b + d.toNat := by
      unfold valF
      rw [List.reverse_cons, List.foldl_append]
      rfl
    rw [e]
    simp only [List.length_reverse, List.length_cons] at ih ⊢
    have h2 : 2 ^ (8 * (r.length + 1)) = 2 ^ (8 * r.length) * 256 := by
      rw [Nat.mul_add, Nat.pow_add]
    have h3 : (valF b r.reverse + 1) * b ≤ 2 ^ (8 * r.length) * 256 := Nat.mul_le_mul ih hb
    have h4 : (valF b r.reverse + 1) * b = valF b r.reverse * b + b := by rw [Nat.add_mul, Nat.one_mul]
    omega

/-- One digit more of M * f + d, while the old digits of M are turned. -/
theorem carry_next {b f M N m cr : Nat} (hb : 2 ≤ b) (_hf : 0 < f) (hcr : cr < f) (h : N / b ^ m = cr + M / b ^ m * f) :
    (cr + M / b ^ m % b * f) % b = N / b ^ m % b ∧ N / b ^ (m + 1) = (cr + M / b ^ m % b * f) / b + M / b ^ (m + 1) * f ∧ (cr + M / b ^ m % b * f) / b < f := by
  have e1 : M / b ^ (m + 1) = M / b ^ m / b := by rw [Nat.pow_succ, Nat.div_div_eq_div_mul]
  have e2 : N / b ^ (m + 1) = N / b ^ m / b := by rw [Nat.pow_succ, Nat.div_div_eq_div_mul]
  rw [e1, e2, h]
  generalize M / b ^ m = x
  obtain ⟨q, r, hq, hr, hx⟩ : ∃ q r, x / b = q ∧ x % b = r ∧ x = b * q + r := ⟨_, _, rfl, rfl, (Nat.div_add_mod x b).symm⟩
  have hrb : r < b := by rw [← hr]; exact Nat.mod_lt _ (by omega)
  rw [hq, hr]
  have h1 : cr + x * f = cr + r * f + b * (q * f) := by
    rw [hx, Nat.add_mul, Nat.mul_assoc]; omega
  rw [h1]
  refine ⟨(Nat.add_mul_mod_self_left _ _ _).symm, Nat.add_mul_div_left _ _ (by omega), ?_⟩
  rw [Nat.div_lt_iff_lt_mul (by omega)]
  have h2 : r * f ≤ (b - 1) * f := Nat.mul_le_mul_right _ (by omega)
  have h3 : (b - 1) * f + f = f * b := by
    have : (b - 1 + 1) * f = b * f := by rw [Nat.sub_add_cancel (by omega)]
    rw [Nat.add_mul, Nat.one_mul] at this
    rw [this, Nat.mul_comm]
  omega
theorem div_next {b N m : Nat} : N / b ^ (m + 1) = N / b ^ m / b := by rw [Nat.pow_succ, Nat.div_div_eq_div_mul]
end Go.Proofs.YtpaafkhlelljcaaDoor
