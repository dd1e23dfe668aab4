/-
  Plain numbers: which amounts may be, fees and rates, sums, and the least amount of an output. Conditions: none (no program stands in it).
-/
namespace Go.Proofs.Ytammeedmccblcaa

def amtB (v : Int) : Bool := decide (0 ≤ v ∧ v ≤ 2100000000000000)
def chk (v : Int) : Int × Int := if amtB v then (v, 0) else (0, 6)
def feeS (rate size : Int) : Int × Int :=
  if size < 0 ∨ 1000000 < size then (0, 1) else if amtB rate then chk ((rate * size + 999) / 1000) else (0, 6)
def rateS (fee size : Int) : Int × Int :=
  if size < 1 ∨ 1000000 < size then (0, 1) else if amtB fee then chk (fee * 1000 / size) else (0, 6)
def dustS (size : Int) : Int := if size < 0 then 0 else 3 * (if size ≤ 1000000 then size else 1000000) + 444

theorem amtB_true {v : Int} (h : amtB v = true) : 0 ≤ v ∧ v ≤ 2100000000000000 := by simpa [amtB] using h
theorem amtB_false {v : Int} (h : amtB v = false) : v < 0 ∨ 2100000000000000 < v := by simp [amtB] at h; omega
theorem amtB_mk {v : Int} (h : 0 ≤ v) (k : v ≤ 2100000000000000) : amtB v = true := by simp [amtB, h, k]
theorem amtB_not {v : Int} (h : v < 0 ∨ 2100000000000000 < v) : amtB v = false := by simp [amtB]; omega

/-- The program's way to reckon a fee. -/
theorem fee_way (rate n : Int) : rate / 1000 * n + (rate % 1000 * n + 999) / 1000 = (rate * n + 999) / 1000 := by
  have h : rate * n = 1000 * (rate / 1000 * n) + rate % 1000 * n := by
    rw [← Int.mul_assoc, ← Int.add_mul]
    congr 1
    omega
  rw [h]; omega
theorem fee_bounds {rate n : Int} (h0 : 0 ≤ rate) (h1 : rate ≤ 2100000000000000) (h2 : 0 ≤ n) (h3 : n ≤ 1000000) :
    0 ≤ rate / 1000 * n ∧ rate / 1000 * n ≤ 2100000000000000000 ∧ 0 ≤ rate % 1000 * n ∧ rate % 1000 * n ≤ 1000000000 := by
  refine ⟨Int.mul_nonneg (by omega) h2, ?_, Int.mul_nonneg (by omega) h2, ?_⟩
  · have := Int.mul_le_mul (a := rate / 1000) (b := n) (c := 2100000000000) (d := 1000000) (by omega) h3 h2 (by omega)
    omega
  · have := Int.mul_le_mul (a := rate % 1000) (b := n) (c := 1000) (d := 1000000) (by omega) h3 h2 (by omega)
    omega
theorem times_step {A A' bv b c : Int} (hc : 0 < c) (hA : A' = 2 * A + bv) : 
   A * b / c * 2 + (A * b % c * 2 + bv * b) / c = A' * b / c ∧ (A * b % c * 2 + bv * b) % c = A' * b % c := by
  have h := Int.mul_ediv_add_emod (A * b) c
  have e : A' * b = c * (A * b / c * 2) + (A * b % c * 2 + bv * b) := by
    rw [hA]
    have : (2 * A + bv) * b = 2 * (A * b) + bv * b := by rw [Int.add_mul, Int.mul_assoc]
    rw [this]
    have h2 : c * (A * b / c * 2) = 2 * (c * (A * b / c)) := by rw [Int.mul_comm _ 2, ← Int.mul_assoc, Int.mul_comm c 2, Int.mul_assoc]
    rw [h2]; omega
  rw [e]
  constructor
  · rw [Int.mul_add_ediv_left _ _ (by omega)]
  · rw [Int.mul_add_emod_self_left]
theorem ref_way (x : Int) : (if 0 < x % 1000 then x / 1000 + 1 else x / 1000) = (x + 999) / 1000 := by
  split <;> omega

theorem div_ge {a b c : Int} (hc : 0 < c) (h : b * c ≤ a) : b ≤ a / c := (Int.le_ediv_iff_mul_le hc).2 h
theorem div_mul_le' {a c : Int} (hc : 0 < c) : a / c * c ≤ a := Int.ediv_mul_le a (by omega)
theorem div_succ_mul {a c : Int} (hc : 0 < c) : a < (a / c + 1) * c := by
  have := Int.lt_ediv_add_one_mul_self a hc
  exact this

theorem chk_ok {v r : Int} (h : chk v = (r, 0)) : r = v ∧ amtB v = true := by
  unfold chk at h
  cases e : amtB v with
  | false => rw [e] at h; injection h with _ h; cases h
  | true => rw [e] at h; injection h with h _; exact ⟨h.symm, rfl⟩
theorem feeS_ok {rate size r : Int} (h : feeS rate size = (r, 0)) : 0 ≤ size ∧ size ≤ 1000000 ∧ amtB rate = true ∧ r = (rate * size + 999) / 1000 ∧ amtB r = true := by
  unfold feeS at h
  by_cases hz : size < 0 ∨ 1000000 < size
  · rw [if_pos hz] at h; injection h with _ h; cases h
  rw [if_neg hz] at h
  cases e : amtB rate with
  | false => rw [e] at h; injection h with _ h; cases h
  | true =>
    rw [e] at h
    obtain ⟨h1, h2⟩ := chk_ok h
    exact ⟨by omega, by omega, rfl, h1, by rw [h1]; exact h2⟩
theorem rateS_ok {fee size r : Int} (h : rateS fee size = (r, 0)) : 1 ≤ size ∧ size ≤ 1000000 ∧ amtB fee = true ∧ r = fee * 1000 / size ∧ amtB r = true := by
  unfold rateS at h
  by_cases hz : size < 1 ∨ 1000000 < size
  · rw [if_pos hz] at h; injection h with _ h; cases h
  rw [if_neg hz] at h
  cases e : amtB fee with
  | false => rw [e] at h; injection h with _ h; cases h
  | true =>
    rw [e] at h
    obtain ⟨h1, h2⟩ := chk_ok h
    exact ⟨by omega, by omega, rfl, h1, by rw [h1]; exact h2⟩
theorem feeS_mk {rate size : Int} (h : 0 ≤ size) (h' : size ≤ 1000000) (k : amtB rate = true) (hn : amtB ((rate * size + 999) / 1000) = true) : feeS rate size = ((rate * size + 999) / 1000, 0) := by
  unfold feeS chk
  rw [if_neg (by omega), if_pos k, if_pos hn]
theorem back_one {rate size f : Int} (h : feeS rate size = (f, 0)) (hs : 0 < size) :
    (∀ b, rateS f size = (b, 0) → rate ≤ b) ∧ ∃ l, feeS rate (size - 1) = (l, 0) ∧ l ≤ f := by
  obtain ⟨h1, h2, h3, h4, h5⟩ := feeS_ok h
  have hr := amtB_true h3
  have hn := amtB_true h5
  have hm : rate * (size - 1) ≤ rate * size := Int.mul_le_mul_of_nonneg_left (by omega) hr.1
  have hm0 : 0 ≤ rate * (size - 1) := Int.mul_nonneg hr.1 (by omega)
  constructor
  · intro b hb
    obtain ⟨_, _, _, hb, _⟩ := rateS_ok hb
    rw [hb]
    exact div_ge hs (by omega)
  · exact ⟨_, feeS_mk (by omega) (by omega) h3 (amtB_mk (by omega) (by omega)), by omega⟩

theorem back_two {fee size r : Int} (h : rateS fee size = (r, 0)) :
    (∃ c, feeS r size = (c, 0) ∧ c ≤ fee) ∧ ∀ m, feeS (r + 1) size = (m, 0) → fee < m := by
  obtain ⟨hs1, hs2, h3, h4, h5⟩ := rateS_ok h
  have hr := amtB_true h3
  have hn := amtB_true h5
  have h1 : r * size ≤ fee * 1000 := by rw [h4]; exact div_mul_le' (by omega)
  have h2 : fee * 1000 < (r + 1) * size := by rw [h4]; exact div_succ_mul (by omega)
  have h0 : 0 ≤ r * size := Int.mul_nonneg (by omega) (by omega)
  constructor
  · exact ⟨_, feeS_mk (by omega) (by omega) h5 (amtB_mk (by omega) (by omega)), by omega⟩
  · intro m hm
    obtain ⟨_, _, _, hm, _⟩ := feeS_ok hm
    omega

/-! Sums -/
def addF : Int → List Int → Int × Int
  | n, [] => (n, 0)
  | n, v :: r => if amtB v && amtB (n + v) then addF (n + v) r else (0, 6)
theorem addF_go {n v : Int} {r : List Int} (h : amtB v = true) (k : amtB (n + v) = true) : addF n (v :: r) = addF (n + v) r := by simp [addF, h, k]
theorem addF_no {n v : Int} {r : List Int} (h : amtB v = false ∨ amtB (n + v) = false) : addF n (v :: r) = (0, 6) := by rcases h with h | h <;> simp [addF, h]
theorem addF_back {a b : Int} (ha : amtB a = true) (hb : amtB b = true) (h : b ≤ a) : addF 0 [a - b, b] = (a, 0) := by
  have h1 := amtB_true ha
  have h2 := amtB_true hb
  rw [addF_go (amtB_mk (by omega) (by omega)) (amtB_mk (by omega) (by omega)), addF_go hb (amtB_mk (by omega) (by omega))]
  simp [addF]
def subS (a b : Int) : Int × Int := if amtB a && amtB b then chk (a - b) else (0, 6)

/-! The least amount of an output -/
theorem dust_valid (a : Int) : amtB (dustS a) = true := by
  unfold dustS
  by_cases h : a < 0
  · rw [if_pos h]; rfl
  · rw [if_neg h]
    by_cases k : a ≤ 1000000
    · rw [if_pos k]; exact amtB_mk (by omega) (by omega)
    · rw [if_neg k]; exact amtB_mk (by omega) (by omega)
theorem dust_mono {a b : Int} (h : a ≤ b) : dustS a ≤ dustS b := by
  unfold dustS
  repeat' split
  all_goals omega
end Go.Proofs.Ytammeedmccblcaa
