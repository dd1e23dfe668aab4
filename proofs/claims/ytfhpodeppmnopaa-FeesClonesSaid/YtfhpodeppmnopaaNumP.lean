/-
  Numbers of 32 digits to the base 256, the highest digit first: what a carry, a borrow and a rest do to them. Conditions: none (plain mathematics).
-/
namespace Go.Proofs.Ytfhpodeppmnopaa

/-- The digit at place i of 32. -/
def dg (n i : Nat) : Nat := n / 256 ^ (31 - i) % 256
/-- 256 ^ 32. -/
def top : Nat := 256 ^ 32
theorem top_pos : 0 < top := by unfold top; exact Nat.pow_pos (by omega)
/-- All digits. -/
def num (n : Nat) : List Int := (List.range 32).map fun i => ((dg n i : Nat) : Int)
/-- The lowest j digits are those of s, the others those of a. -/
def mixd (s a j : Nat) : List Int := (List.range 32).map fun i => (((if 32 ≤ i + j then dg s i else dg a i) : Nat) : Int)
/-- The first j digits are those of s, the others those of a. -/
def mixu (s a j : Nat) : List Int := (List.range 32).map fun i => (((if i < j then dg s i else dg a i) : Nat) : Int)

theorem dg_lt (n i : Nat) : dg n i < 256 := Nat.mod_lt _ (by omega)
theorem num_length (n : Nat) : (num n).length = 32 := by simp [num]
theorem mixd_length (s a j : Nat) : (mixd s a j).length = 32 := by simp [mixd]
theorem mixu_length (s a j : Nat) : (mixu s a j).length = 32 := by simp [mixu]
theorem num_at (n : Nat) {i : Nat} (h : i < 32) : (num n)[i]? = some ((dg n i : Nat) : Int) := by
  unfold num
  rw [List.getElem?_map, List.getElem?_range h]
  rfl
theorem mixd_at (s a j : Nat) {i : Nat} (h : i < 32) (hj : i + j < 32) : (mixd s a j)[i]? = some ((dg a i : Nat) : Int) := by
  unfold mixd
  rw [List.getElem?_map, List.getElem?_range h, Option.map_some, if_neg (by omega)]
theorem mixu_at (s a j : Nat) {i : Nat} (h : i < 32) (hj : j ≤ i) : (mixu s a j)[i]? = some ((dg a i : Nat) : Int) := by
  unfold mixu
  rw [List.getElem?_map, List.getElem?_range h, Option.map_some, if_neg (by omega)]
theorem mixd_zero (s a : Nat) : mixd s a 0 = num a := by
  refine List.map_congr_left fun i hi => ?_
  have := List.mem_range.1 hi
  rw [if_neg (by omega)]
theorem mixu_zero (s a : Nat) : mixu s a 0 = num a := by
  refine List.map_congr_left fun i hi => ?_
  rw [if_neg (by omega)]
theorem mixd_full (s a : Nat) : mixd s a 32 = num s := by
  refine List.map_congr_left fun i hi => ?_
  rw [if_pos (by omega)]
theorem mixu_full (s a : Nat) : mixu s a 32 = num s := by
  refine List.map_congr_left fun i hi => ?_
  have := List.mem_range.1 hi
  rw [if_pos (by omega)]
theorem mixd_set (s a : Nat) {i j : Nat} (h : i + j = 31) {z : Int} (hz : z = ((dg s i : Nat) : Int)) : (mixd s a j).set i z = mixd s a (j + 1) := by
  subst hz
  apply List.ext_getElem?
  intro k
  rw [List.getElem?_set, mixd_length]
  unfold mixd
  by_cases hk : k < 32
  · rw [List.getElem?_map, List.getElem?_map, List.getElem?_range hk, Option.map_some, Option.map_some]
    by_cases he : i = k
    · subst he
      rw [if_pos rfl, if_pos hk, if_pos (by omega)]
    · rw [if_neg he]
      by_cases h2 : 32 ≤ k + j
      · rw [if_pos h2, if_pos (by omega)]
      · rw [if_neg h2, if_neg (by omega)]
  · rw [if_neg (by omega), List.getElem?_eq_none (by simp; omega), List.getElem?_eq_none (by simp; omega)]
theorem mixu_set (s a : Nat) {j : Nat} (h : j < 32) {z : Int} (hz : z = ((dg s j : Nat) : Int)) : (mixu s a j).set j z = mixu s a (j + 1) := by
  subst hz
  apply List.ext_getElem?
  intro k
  rw [List.getElem?_set, mixu_length]
  unfold mixu
  by_cases hk : k < 32
  · rw [List.getElem?_map, List.getElem?_map, List.getElem?_range hk, Option.map_some, Option.map_some]
    by_cases he : j = k
    · subst he
      rw [if_pos rfl, if_pos hk, if_pos (by omega)]
    · rw [if_neg he]
      by_cases h2 : k < j
      · rw [if_pos h2, if_pos (by omega)]
      · rw [if_neg h2, if_neg (by omega)]
  · rw [if_neg (by omega), List.getElem?_eq_none (by simp; omega), List.getElem?_eq_none (by simp; omega)]

/-- What stands above the lowest j digits. -/
def up (n j : Nat) : Nat := n / 256 ^ j
theorem up_zero (n : Nat) : up n 0 = n := by unfold up; simp
theorem up_succ (n j : Nat) : up n (j + 1) = up n j / 256 := by unfold up; rw [Nat.pow_succ, Nat.div_div_eq_div_mul]
theorem up_mod (n : Nat) {i j : Nat} (h : i + j = 31) : up n j % 256 = dg n i := by
  unfold up dg
  have : 31 - i = j := by omega
  rw [this]
theorem up_full {n : Nat} (h : n < top) : up n 32 = 0 := Nat.div_eq_of_lt h
theorem up_top {n : Nat} : up n 32 = 0 → n < top := fun h => by
  unfold up at h
  unfold top
  rcases Nat.lt_or_ge n (256 ^ 32) with hh | hh
  · exact hh
  · have := Nat.div_pos hh (Nat.pow_pos (by omega))
    omega

/-- All digits are the number. -/
def ofL : List Nat → Nat
  | [] => 0
  | d :: l => d * 256 ^ l.length + ofL l
theorem ofL_lt : ∀ (l : List Nat), (∀ d ∈ l, d < 256) → ofL l < 256 ^ l.length
  | [], _ => by simp [ofL]
  | d :: l, h => by
    have h1 := ofL_lt l (fun x hx => h x (List.mem_cons_of_mem _ hx))
    have h2 := h d (List.mem_cons_self ..)
    unfold ofL
    rw [List.length_cons, Nat.pow_succ]
    have : (d + 1) * 256 ^ l.length ≤ 256 * 256 ^ l.length := Nat.mul_le_mul_right _ (by omega)
    rw [Nat.add_mul] at this
    omega
theorem ofL_at : ∀ (l : List Nat), (∀ d ∈ l, d < 256) → ∀ i (h : i < l.length), ofL l / 256 ^ (l.length - 1 - i) % 256 = l[i]
  | d :: l, hd, 0, _ => by
    have h1 := ofL_lt l (fun x hx => hd x (List.mem_cons_of_mem _ hx))
    have h2 := hd d (List.mem_cons_self ..)
    unfold ofL
    simp only [List.length_cons, Nat.add_sub_cancel, Nat.sub_zero, List.getElem_cons_zero]
    rw [Nat.add_comm, Nat.add_mul_div_right _ _ (Nat.pow_pos (by omega)), Nat.div_eq_of_lt h1]
    omega
  | d :: l, hd, i + 1, h => by
    have hl : i < l.length := by simpa using h
    have ih := ofL_at l (fun x hx => hd x (List.mem_cons_of_mem _ hx)) i hl
    unfold ofL
    have e : (d :: l).length - 1 - (i + 1) = l.length - 1 - i := by rw [List.length_cons]; omega
    rw [e, List.getElem_cons_succ]
    have e2 : 256 ^ l.length = 256 ^ (l.length - 1 - i) * (256 * 256 ^ i) := by
      rw [← Nat.mul_assoc, ← Nat.pow_succ, ← Nat.pow_add]
      congr 1
      omega
    rw [e2, ← Nat.mul_assoc, Nat.mul_comm d, Nat.mul_assoc, Nat.add_comm, Nat.add_mul_div_left _ _ (Nat.pow_pos (by omega)), ← ih]
    have e3 : d * (256 * 256 ^ i) = 256 * (d * 256 ^ i) := by rw [Nat.mul_left_comm]
    rw [e3]
    omega
theorem ofL_div : ∀ (n k : Nat), ofL ((List.range k).map fun i => n / 256 ^ (k - 1 - i) % 256) = n % 256 ^ k
  | n, 0 => by simp [ofL, Nat.mod_one]
  | n, k + 1 => by
    have ih := ofL_div n k
    rw [List.range_succ_eq_map, List.map_cons, List.map_map, ofL]
    simp only [List.length_map, List.length_range]
    have e : ((fun i => n / 256 ^ (k + 1 - 1 - i) % 256) ∘ Nat.succ) = (fun i => n / 256 ^ (k - 1 - i) % 256) := by
      funext i
      simp only [Function.comp]
      congr 3
      omega
    rw [e, ih, Nat.pow_succ, Nat.mod_mul]
    simp only [Nat.add_sub_cancel, Nat.sub_zero]
    rw [Nat.mul_comm, Nat.add_comm]
theorem dg_eq {a b : Nat} (ha : a < top) (hb : b < top) (h : ∀ i, i < 32 → dg a i = dg b i) : a = b := by
  have h1 := ofL_div a 32
  have h2 := ofL_div b 32
  have e : (List.range 32).map (fun i => a / 256 ^ (32 - 1 - i) % 256) = (List.range 32).map (fun i => b / 256 ^ (32 - 1 - i) % 256) :=
    List.map_congr_left fun i hi => h i (List.mem_range.1 hi)
  rw [e, h2] at h1
  unfold top at ha hb
  rw [Nat.mod_eq_of_lt ha, Nat.mod_eq_of_lt hb] at h1
  exact h1.symm
theorem num_inj {a b : Nat} (ha : a < top) (hb : b < top) (h : num a = num b) : a = b := by
  refine dg_eq ha hb fun i hi => ?_
  have h1 := num_at a hi
  rw [h, num_at b hi] at h1
  have := Option.some.inj h1
  omega
theorem num_beq {a b : Nat} (ha : a < top) (hb : b < top) : (num a == num b) = decide (a = b) := by
  rw [Bool.eq_iff_iff]
  simp only [beq_iff_eq, decide_eq_true_eq]
  exact ⟨num_inj ha hb, fun h => by rw [h]⟩
theorem num_of (zs : List Int) (hl : zs.length = 32) (h : ∀ z ∈ zs, 0 ≤ z ∧ z ≤ 255) : ∃ n, n < top ∧ zs = num n := by
  have hm : ∀ d ∈ zs.map Int.toNat, d < 256 := fun d hd => by
    obtain ⟨z, hz, rfl⟩ := List.mem_map.1 hd
    have := h z hz
    omega
  refine ⟨ofL (zs.map Int.toNat), ?_, ?_⟩
  · have := ofL_lt _ hm
    rw [List.length_map, hl] at this
    exact this
  · apply List.ext_getElem?
    intro i
    by_cases hi : i < 32
    · rw [num_at _ hi, List.getElem?_eq_getElem (by omega)]
      congr 1
      have := ofL_at _ hm i (by rw [List.length_map]; omega)
      simp only [List.length_map, hl, List.getElem_map] at this
      unfold dg
      rw [show 31 - i = 32 - 1 - i by omega, this]
      have := h zs[i] (List.getElem_mem _)
      omega
    · rw [List.getElem?_eq_none (by omega), List.getElem?_eq_none (by rw [num_length]; omega)]
theorem num_zero : num 0 = List.replicate 32 0 := by
  apply List.ext_getElem?
  intro i
  by_cases hi : i < 32
  · rw [num_at _ hi, List.getElem?_replicate, if_pos hi]
    unfold dg
    simp
  · rw [List.getElem?_eq_none (by rw [num_length]; omega), List.getElem?_eq_none (by rw [List.length_replicate]; omega)]

/-! A carry -/
theorem carry_next {s a b c : Nat} (h : s = a + b + c) : s % 256 = (a % 256 + b % 256 + c) % 256 ∧ s / 256 = a / 256 + b / 256 + (a % 256 + b % 256 + c) / 256 := by omega
/-- A borrow. -/
theorem borrow_next {s a b c : Nat} (h : a = s + b + c) (hc : c ≤ 1) : ∃ c' : Nat, c' ≤ 1 ∧ ((a % 256 : Nat) : Int) - ((b % 256 : Nat) : Int) - c = ((s % 256 : Nat) : Int) - 256 * c' ∧ a / 256 = s / 256 + b / 256 + c' := by
  refine ⟨(s % 256 + b % 256 + c) / 256, by omega, by omega, by omega⟩
/-- Twice, and a bit. -/
theorem double_next {s a c : Nat} (h : s = 2 * a + c) (hc : c ≤ 1) : s % 256 = (2 * (a % 256) + c) % 256 ∧ s / 256 = 2 * (a / 256) + a % 256 / 128 := by omega
/-- Times a small one. -/
theorem times_next {s a m c : Nat} (h : s = a * m + c) : s % 256 = (a % 256 * m + c) % 256 ∧ s / 256 = a / 256 * m + (a % 256 * m + c) / 256 := by
  have e : a * m = 256 * (a / 256 * m) + a % 256 * m := by
    rw [← Nat.mul_assoc, ← Nat.add_mul, Nat.div_add_mod]
  rw [h, e]
  omega
/-- Divided by a small one. -/
theorem div_next {d t p : Nat} (hd : 0 < d) (hp : p < 256) : (t % d * 256 + p) / d = (256 * t + p) / d % 256 ∧ (t % d * 256 + p) % d = (256 * t + p) % d ∧ (t % d * 256 + p) / d < 256 := by
  have h0 := Nat.mod_lt t hd
  have e : 256 * t + p = d * (256 * (t / d)) + (t % d * 256 + p) := by
    have h1 := Nat.div_add_mod t d
    have h2 : d * (256 * (t / d)) = 256 * (d * (t / d)) := Nat.mul_left_comm ..
    omega
  have hlt : (t % d * 256 + p) / d < 256 := by
    rw [Nat.div_lt_iff_lt_mul hd]
    have : (t % d + 1) * 256 ≤ d * 256 := Nat.mul_le_mul_right _ (by omega)
    rw [Nat.mul_comm 256]
    omega
  refine ⟨?_, ?_, hlt⟩
  · rw [e, Nat.mul_add_div hd]
    generalize (t % d * 256 + p) / d = y at hlt ⊢
    generalize t / d = k
    omega
  · rw [e, Nat.mul_add_mod]
end Go.Proofs.Ytfhpodeppmnopaa
