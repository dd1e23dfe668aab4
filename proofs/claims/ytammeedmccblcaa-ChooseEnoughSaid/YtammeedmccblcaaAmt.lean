/-
  What the functions on amounts do, the program's and the reference's. Conditions: none.
-/
import Derived.Test.YtammeedmccblcaaBase
import Derived.Test.YtammeedmccblcaaAmtPure
namespace Go.Proofs.Ytammeedmccblcaa
open Go.RowKit

theorem ret_bool {a b : Bool} (h : a = b) : Ending.returned (.bool a) = .returned (.bool b) := by rw [h]
theorem ret_i64 {a b : Int} (h : a = b) : Ending.returned (.int .i64 a) = .returned (.int .i64 b) := by rw [h]
theorem ret_two {a b : Int} {p : Int × Int} (h : p = (a, b)) : Ending.returned (.tuple #[.int .i64 a, .int .i64 b]) = .returned (.tuple #[.int .i64 p.1, .int .i64 p.2]) := by rw [h]

set_option maxRecDepth 100000 in
set_option maxHeartbeats 400000 in
theorem valid_any (v : Int) (w : World) :
    Calls Try.prog 24 #[.int .i64 v] w fun e w' => e = .returned (.bool (amtB v)) ∧ w = w' := by
  go_enter Try.func24, Try.ntmps24
  go_wp2
  all_goals go_ret
  · exact ⟨ret_bool (by unfold amtB; simp [*]), rfl⟩
  · exact ⟨ret_bool (by unfold amtB; simp; omega), rfl⟩
set_option maxRecDepth 100000 in
set_option maxHeartbeats 400000 in
theorem refValid_any (v : Int) (w : World) :
    Calls Try.prog 26 #[.int .i64 v] w fun e w' => e = .returned (.bool (amtB v)) ∧ w = w' := by
  go_enter Try.func26, Try.ntmps26
  go_wp2
  all_goals go_ret
  · exact ⟨ret_bool (by unfold amtB; simp [*]), rfl⟩
  · exact ⟨ret_bool (by unfold amtB; simp; omega), rfl⟩

set_option maxRecDepth 100000 in
set_option maxHeartbeats 400000 in
theorem checked_any (v : Int) (w : World) :
    Calls Try.prog 37 #[.int .i64 v] w fun e w' => e = .returned (.tuple #[.int .i64 (chk v).1, .int .i64 (chk v).2]) ∧ w = w' := by
  cases h : amtB v with
  | true =>
    go_enter Try.func37, Try.ntmps37
    go_wp2_with (go_at_call 24; refine (valid_any v _).mono ?_; rintro e w' ⟨rfl, rfl⟩)
    go_ret2
    exact ⟨ret_two (by simp [chk, h]), rfl⟩
  | false =>
    go_enter Try.func37, Try.ntmps37
    go_wp2_with (go_at_call 24; refine (valid_any v _).mono ?_; rintro e w' ⟨rfl, rfl⟩)
    go_ret2
    exact ⟨ret_two (by simp [chk, h]), rfl⟩

/-! Fees and rates -/
theorem wrap_id {n : Int} (h0 : 0 ≤ n) (h1 : n ≤ 9223372036854775807) : IntKind.i64.wrap n = n := IntWalk.i64_in _ (by omega)

set_option maxRecDepth 100000 in
set_option maxHeartbeats 400000 in
theorem fee_any (rate size : Int) (w : World) (hlo : -9223372036854775808 ≤ size) (hhi : size ≤ 9223372036854775807) :
    Calls Try.prog 23 #[.int .i64 rate, .int .i64 size] w fun e w' => e = .returned (.tuple #[.int .i64 (feeS rate size).1, .int .i64 (feeS rate size).2]) ∧ w = w' := by
  by_cases h0 : size < 0
  · go_enter Try.func23, Try.ntmps23
    go_wp2
    go_ret2
    exact ⟨ret_two (by simp [feeS, h0]), rfl⟩
  by_cases h1 : 1000000 < size
  · go_enter Try.func23, Try.ntmps23
    go_wp2
    go_ret2
    exact ⟨ret_two (by simp [feeS, h1]), rfl⟩
  cases hr : amtB rate with
  | false =>
    go_enter Try.func23, Try.ntmps23
    go_wp2_with (go_at_call 24; refine (valid_any _ _).mono ?_; rintro e w' ⟨rfl, rfl⟩)
    go_ret2
    exact ⟨ret_two (by simp [feeS, h0, h1, hr]), rfl⟩
  | true =>
    have br := amtB_true hr
    obtain ⟨b1, b2, b3, b4⟩ := fee_bounds br.1 br.2 (by omega : 0 ≤ size) (by omega)
    go_enter Try.func23, Try.ntmps23
    go_wp2_with (first | (go_at_call 24; refine (valid_any _ _).mono ?_; rintro e w' ⟨rfl, rfl⟩) | (go_at_call 37; refine (checked_any _ _).mono ?_; rintro e w' ⟨rfl, rfl⟩))
    go_ret2
    exact ⟨ret_two (by
      have e : rate / 1000 * size + (rate % 1000 * size + 1000 - 1) / 1000 = (rate * size + 999) / 1000 := by
        rw [← fee_way]
        congr 2
        omega
      rw [e, feeS, if_neg (by omega), if_pos hr]), rfl⟩

theorem rate_bounds {fee size : Int} (h0 : 0 ≤ fee) (h1 : fee ≤ 2100000000000000) (h2 : 1 ≤ size) : 0 ≤ fee * 1000 / size ∧ fee * 1000 / size ≤ 2100000000000000000 :=
  ⟨Int.ediv_nonneg (by omega) (by omega), Int.le_trans (Int.ediv_le_self _ (by omega)) (by omega)⟩

/-! The reference: a product divided, bit by bit -/
theorem times_bounds {A b c X : Int} (hA : 0 ≤ A) (hb0 : 0 ≤ b) (hc : 1 ≤ c) (hX : A * b ≤ X) (hm : X / c ≤ 2100000000000000000) :
    0 ≤ A * b / c ∧ A * b / c ≤ 2100000000000000000 ∧ 0 ≤ A * b % c ∧ A * b % c < c :=
  have h := Int.mul_nonneg hA hb0
  ⟨Int.ediv_nonneg h (by omega), Int.le_trans (Int.ediv_le_ediv (by omega) hX) hm, Int.emod_nonneg _ (by omega), Int.emod_lt_of_pos _ (by omega)⟩

set_option maxRecDepth 100000 in
set_option maxHeartbeats 800000 in
theorem times_any (a b c : Int) (w : World) (ha0 : 0 ≤ a) (ha1 : a ≤ 2100000000000000) (hb0 : 0 ≤ b) (hb1 : b ≤ 1000000) (hc0 : 1 ≤ c) (hc1 : c ≤ 1000000) (hm : a * b / c ≤ 2100000000000000000) :
    Calls Try.prog 38 #[.int .i64 a, .int .i64 b, .int .i64 c] w fun e w' => e = .returned (.tuple #[.int .i64 (a * b / c), .int .i64 (a * b % c)]) ∧ w = w' := by
  go_enter Try.func38, Try.ntmps38
  go_wp2
  go_loop [8, 9, 10] (fun x y i => ∃ k : Nat, k ≤ 52 ∧ i = .int .i64 ((k : Int) - 1) ∧ x = .int .i64 (a / 2 ^ k * b / c) ∧ y = .int .i64 (a / 2 ^ k * b % c)) (fun _ _ i => (intOf i + 1).toNat)
  case atStart => exact ⟨52, by omega, rfl, by rw [Int.ediv_eq_zero_of_lt ha0 (by omega)]; simp, by rw [Int.ediv_eq_zero_of_lt ha0 (by omega)]; simp⟩
  case round =>
    obtain ⟨k, hk, rfl, rfl, rfl⟩ := hrel
    rcases k with _ | j
    · have e0 : a / 2 ^ 0 = a := by simp
      rw [e0]
      clear e0
      go_wp2
      go_ret2
      exact ⟨rfl, rfl⟩
    · have ei : ((j + 1 : Nat) : Int) - 1 = (j : Int) := by omega
      rw [ei]
      clear ei
      obtain ⟨A, hA⟩ : ∃ A : Int, A = a / 2 ^ (j + 1) := ⟨_, rfl⟩
      obtain ⟨A', hA'⟩ : ∃ A' : Int, A' = a / 2 ^ j := ⟨_, rfl⟩
      have hAA : A = A' / 2 := by rw [hA, hA', Int.ediv_ediv_of_nonneg (by exact Int.pow_nonneg (by omega)), Int.pow_succ]
      have hA0 : 0 ≤ A' := by rw [hA']; exact Int.ediv_nonneg ha0 (Int.pow_nonneg (by omega))
      have hA1 : A' ≤ a := by rw [hA']; exact Int.ediv_le_self _ ha0
      have hm' : A' * b ≤ a * b := Int.mul_le_mul_of_nonneg_right hA1 hb0
      have hAb : A * b ≤ a * b := Int.mul_le_mul_of_nonneg_right (by omega) hb0
      obtain ⟨hs1, hs2⟩ := times_step (A := A) (A' := A') (bv := A' % 2) (b := b) (c := c) (by omega) (by omega)
      obtain ⟨t1, t2, t3, t4⟩ := times_bounds (A := A) (b := b) (c := c) (by omega) hb0 hc0 hAb hm
      obtain ⟨t5, t6, t7, t8⟩ := times_bounds (A := A') (b := b) (c := c) (by omega) hb0 hc0 hm' hm
      rw [← hA]
      obtain ⟨q, hq⟩ : ∃ q : Int, q = A * b / c := ⟨_, rfl⟩
      obtain ⟨r, hr⟩ : ∃ r : Int, r = A * b % c := ⟨_, rfl⟩
      rw [← hq] at t1 t2 hs1 ⊢
      rw [← hr] at t3 t4 hs1 hs2 ⊢
      have hd : 0 ≤ (r * 2 + A' % 2 * b) / c := Int.ediv_nonneg (by have := Int.mul_nonneg (show 0 ≤ A' % 2 by omega) hb0; omega) (by omega)
      have hq2 : q * 2 ≤ 2100000000000000000 := by omega
      have H5 := Lib.hid (And.intro t5 t6)
      have H1 := Lib.hid hs1
      have H2 := Lib.hid hs2
      have HA' := Lib.hid hA'
      clear hs1 hs2 hA hq hr hAA hm' hAb hA1 t5 t6 t7 t8 hA' hd hm
      cases hbit : (A' % 2 == 1) with
      | true =>
        have hb2 : A' % 2 = 1 := by simpa using hbit
        have HB := Lib.hid hb2
        clear hb2
        have hshr : a / 2 ^ j = A' := HA'.out.symm
        go_wp2
        have h1 := H1.out
        have h2 := H2.out
        have h5 := H5.out
        rw [HB.out, Int.one_mul] at h1 h2
        rw [HA'.out] at h1 h2 h5
        rw [IntWalk.wrap64_in _ (by rw [h1]; omega), h1, h2]
        exact ⟨⟨j, by omega, rfl, rfl, rfl⟩, by simp [intOf]⟩
      | false =>
        have hb2 : A' % 2 = 0 := by have : ¬ A' % 2 = 1 := by simpa using hbit
                                    omega
        have HB := Lib.hid hb2
        clear hb2
        have hshr : a / 2 ^ j = A' := HA'.out.symm
        go_wp2
        have h1 := H1.out
        have h2 := H2.out
        have h5 := H5.out
        rw [HB.out, Int.zero_mul, Int.add_zero] at h1 h2
        rw [HA'.out] at h1 h2 h5
        rw [IntWalk.wrap64_in _ (by rw [h1]; omega), h1, h2]
        exact ⟨⟨j, by omega, rfl, rfl, rfl⟩, by simp [intOf]⟩

set_option maxRecDepth 100000 in
set_option maxHeartbeats 400000 in
theorem refFee_any (rate size : Int) (w : World) (hlo : -9223372036854775808 ≤ size) (hhi : size ≤ 9223372036854775807) :
    Calls Try.prog 25 #[.int .i64 rate, .int .i64 size] w fun e w' => e = .returned (.tuple #[.int .i64 (feeS rate size).1, .int .i64 (feeS rate size).2]) ∧ w = w' := by
  by_cases h0 : size < 0
  · go_enter Try.func25, Try.ntmps25
    go_wp2
    go_ret2
    exact ⟨ret_two (by simp [feeS, h0]), rfl⟩
  by_cases h1 : 1000000 < size
  · go_enter Try.func25, Try.ntmps25
    go_wp2
    go_ret2
    exact ⟨ret_two (by simp [feeS, h1]), rfl⟩
  cases hr : amtB rate with
  | false =>
    go_enter Try.func25, Try.ntmps25
    go_wp2_with (go_at_call 26; refine (refValid_any _ _).mono ?_; rintro e w' ⟨rfl, rfl⟩)
    go_ret2
    exact ⟨ret_two (by simp [feeS, h0, h1, hr]), rfl⟩
  | true =>
    have br := amtB_true hr
    have hm : rate * size ≤ 2100000000000000 * 1000000 := Int.mul_le_mul br.2 (by omega) (by omega) (by omega)
    obtain ⟨t1, t2, t3, t4⟩ := times_bounds (A := rate) (b := size) (c := 1000) br.1 (by omega) (by omega) (Int.le_refl _) (by omega)
    have hw : rate * size / 1000 ≤ 2100000000000000000 := t2
    have hn : (rate * size + 999) / 1000 = if 0 < rate * size % 1000 then rate * size / 1000 + 1 else rate * size / 1000 := (ref_way _).symm
    have hfee : feeS rate size = chk ((rate * size + 999) / 1000) := by rw [feeS, if_neg (by omega), if_pos hr]
    rw [hn] at hfee
    have HF := Lib.hid hfee
    clear hfee hn
    by_cases hp : 0 < rate * size % 1000
    · cases hv : amtB (rate * size / 1000 + 1) with
      | true =>
        go_enter Try.func25, Try.ntmps25
        go_wp2_with (first | (go_at_call 26; refine (refValid_any _ _).mono ?_; rintro e w' ⟨rfl, rfl⟩) | (go_at_call 38; refine (times_any _ _ _ _ br.1 br.2 (by omega) (by omega) (by omega) (by omega) hw).mono ?_; rintro e w' ⟨rfl, rfl⟩))
        go_ret2
        exact ⟨ret_two (by rw [HF.out, if_pos hp]; simp [chk, hv]), rfl⟩
      | false =>
        go_enter Try.func25, Try.ntmps25
        go_wp2_with (first | (go_at_call 26; refine (refValid_any _ _).mono ?_; rintro e w' ⟨rfl, rfl⟩) | (go_at_call 38; refine (times_any _ _ _ _ br.1 br.2 (by omega) (by omega) (by omega) (by omega) hw).mono ?_; rintro e w' ⟨rfl, rfl⟩))
        go_ret2
        exact ⟨ret_two (by rw [HF.out, if_pos hp]; simp [chk, hv]), rfl⟩
    · cases hv : amtB (rate * size / 1000) with
      | true =>
        go_enter Try.func25, Try.ntmps25
        go_wp2_with (first | (go_at_call 26; refine (refValid_any _ _).mono ?_; rintro e w' ⟨rfl, rfl⟩) | (go_at_call 38; refine (times_any _ _ _ _ br.1 br.2 (by omega) (by omega) (by omega) (by omega) hw).mono ?_; rintro e w' ⟨rfl, rfl⟩))
        go_ret2
        exact ⟨ret_two (by rw [HF.out, if_neg (by omega)]; simp [chk, hv]), rfl⟩
      | false =>
        go_enter Try.func25, Try.ntmps25
        go_wp2_with (first | (go_at_call 26; refine (refValid_any _ _).mono ?_; rintro e w' ⟨rfl, rfl⟩) | (go_at_call 38; refine (times_any _ _ _ _ br.1 br.2 (by omega) (by omega) (by omega) (by omega) hw).mono ?_; rintro e w' ⟨rfl, rfl⟩))
        go_ret2
        exact ⟨ret_two (by rw [HF.out, if_neg (by omega)]; simp [chk, hv]), rfl⟩

end Go.Proofs.Ytammeedmccblcaa
