/-
  AmountBack's walk: whatever the rate, the fee and the size. Conditions: the library's table of powers of ten holds what its text lays.
-/
import Derived.Test.YtopeblaiifkmoaaDoorAmtAwake
namespace Go.Proofs.YtopeblaiifkmoaaDoor
open Go.RowKit

theorem eq_ff {a b : Int} (h : a ≠ b) : (a == b) = false := by simp [h]
theorem ne_ff {a : Int} (h : a = 0) : (a != 0) = false := by simp [h]
theorem ne_tt {a : Int} (h : a ≠ 0) : (a != 0) = true := by simp [h]

set_option maxHeartbeats 4000000 in
theorem back_law (rate fee size : Int) (w : World) (hp : Pow10 w) (ha0 : -9223372036854775808 ≤ size) (ha1 : size ≤ 9223372036854775807) :
    Calls Tryd.prog 5 #[.int .i64 rate, .int .i64 fee, .int .i64 size] w fun e w' => e = .returned (.bool true) ∧ Below w.heap.size w w' := by
  obtain ⟨⟨f, e⟩, hF⟩ : ∃ x, x = feeS rate size := ⟨_, rfl⟩
  obtain ⟨⟨bk, g⟩, hB⟩ : ∃ x, x = rateS f size := ⟨_, rfl⟩
  obtain ⟨⟨ls, h⟩, hL⟩ : ∃ x, x = feeS rate (size - 1) := ⟨_, rfl⟩
  obtain ⟨⟨r, e'⟩, hR⟩ : ∃ x, x = rateS fee size := ⟨_, rfl⟩
  obtain ⟨⟨ct, g'⟩, hC⟩ : ∃ x, x = feeS r size := ⟨_, rfl⟩
  obtain ⟨⟨mo, h'⟩, hM⟩ : ∃ x, x = feeS (r + 1) size := ⟨_, rfl⟩
  have c1 := fun w' => fee_any rate size w' ha0 ha1
  have c2 := fun w' => rate_any f size w' ha0 ha1
  have c3 := fun w' => fun (h : 0 < size) => fee_any rate (size - 1) w' (by omega) (by omega)
  have c4 := fun w' => rate_any fee size w' ha0 ha1
  have c5 := fun w' => fee_any r size w' ha0 ha1
  have c6 := fun w' => fee_any (r + 1) size w' ha0 ha1
  rw [← hF] at c1
  rw [← hB] at c2
  rw [← hL] at c3
  rw [← hR] at c4
  rw [← hC] at c5
  rw [← hM] at c6
  have C1 := Lib.hid c1
  have C2 := Lib.hid c2
  have C3 := Lib.hid c3
  have C4 := Lib.hid c4
  have C5 := Lib.hid c5
  have C6 := Lib.hid c6
  clear c1 c2 c3 c4 c5 c6
  have part1 : e ≠ 0 ∨ (e = 0 ∧ size ≤ 0) ∨ (e = 0 ∧ 0 < size ∧ (g ≠ 0 ∨ (g = 0 ∧ rate ≤ bk)) ∧ h = 0 ∧ ls ≤ f) := by
    by_cases he : e = 0
    · by_cases hs : 0 < size
      · subst he
        obtain ⟨b1, l, hl, hle⟩ := back_one hF.symm hs
        rw [hl] at hL
        injection hL with hL1 hL2
        refine .inr (.inr ⟨rfl, hs, ?_, hL2, by omega⟩)
        by_cases hg : g = 0
        · subst hg
          exact .inr ⟨rfl, b1 bk hB.symm⟩
        · exact .inl hg
      · exact .inr (.inl ⟨he, by omega⟩)
    · exact .inl he
  have part2 : e' ≠ 0 ∨ (e' = 0 ∧ 0 ≤ r ∧ r ≤ 2100000000000000 ∧ g' = 0 ∧ ct ≤ fee ∧ (h' ≠ 0 ∨ (h' = 0 ∧ fee < mo))) := by
    by_cases he : e' = 0
    · subst he
      obtain ⟨⟨c, hc, hcle⟩, b2⟩ := back_two hR.symm
      have hb := amtB_true (rateS_ok hR.symm).2.2.2.2
      rw [hc] at hC
      injection hC with hC1 hC2
      refine .inr ⟨rfl, hb.1, hb.2, hC2, by omega, ?_⟩
      by_cases hg : h' = 0
      · subst hg
        exact .inr ⟨rfl, b2 mo hM.symm⟩
      · exact .inl hg
    · exact .inl he
  clear hF hB hL hR hC hM
  rcases part2 with hr | ⟨rfl, hr0, hr1, rfl, hct, hm | ⟨rfl, hm⟩⟩
  · have hr1 := ne_tt hr
    clear hr
    rcases part1 with he | ⟨rfl, hs⟩ | ⟨rfl, hs, hg | ⟨rfl, hg⟩, rfl, hls⟩
    · have he1 := eq_ff he
      clear he
      go_enter Tryd.func5, Tryd.ntmps5
      go_wp2_with (first | (go_at_call 9; refine (awake_any w hp).mono ?_; rintro e w1 ⟨rfl, hb1⟩) | (go_at_call 15; (first | with_reducible refine (C1.out _).mono ?_ | with_reducible refine (C3.out _ (by assumption)).mono ?_ | with_reducible refine (C5.out _).mono ?_ | with_reducible refine (C6.out _).mono ?_); rintro e w' ⟨rfl, rfl⟩) | (go_at_call 17; (first | with_reducible refine (C2.out _).mono ?_ | with_reducible refine (C4.out _).mono ?_); rintro e w' ⟨rfl, rfl⟩))
      go_ret
      exact ⟨rfl, hb1⟩
    · go_enter Tryd.func5, Tryd.ntmps5
      go_wp2_with (first | (go_at_call 9; refine (awake_any w hp).mono ?_; rintro e w1 ⟨rfl, hb1⟩) | (go_at_call 15; (first | with_reducible refine (C1.out _).mono ?_ | with_reducible refine (C3.out _ (by assumption)).mono ?_ | with_reducible refine (C5.out _).mono ?_ | with_reducible refine (C6.out _).mono ?_); rintro e w' ⟨rfl, rfl⟩) | (go_at_call 17; (first | with_reducible refine (C2.out _).mono ?_ | with_reducible refine (C4.out _).mono ?_); rintro e w' ⟨rfl, rfl⟩))
      go_ret
      exact ⟨rfl, hb1⟩
    · have hg1 := eq_ff hg
      clear hg
      go_enter Tryd.func5, Tryd.ntmps5
      go_wp2_with (first | (go_at_call 9; refine (awake_any w hp).mono ?_; rintro e w1 ⟨rfl, hb1⟩) | (go_at_call 15; (first | with_reducible refine (C1.out _).mono ?_ | with_reducible refine (C3.out _ (by assumption)).mono ?_ | with_reducible refine (C5.out _).mono ?_ | with_reducible refine (C6.out _).mono ?_); rintro e w' ⟨rfl, rfl⟩) | (go_at_call 17; (first | with_reducible refine (C2.out _).mono ?_ | with_reducible refine (C4.out _).mono ?_); rintro e w' ⟨rfl, rfl⟩))
      go_ret
      exact ⟨rfl, hb1⟩
    · go_enter Tryd.func5, Tryd.ntmps5
      go_wp2_with (first | (go_at_call 9; refine (awake_any w hp).mono ?_; rintro e w1 ⟨rfl, hb1⟩) | (go_at_call 15; (first | with_reducible refine (C1.out _).mono ?_ | with_reducible refine (C3.out _ (by assumption)).mono ?_ | with_reducible refine (C5.out _).mono ?_ | with_reducible refine (C6.out _).mono ?_); rintro e w' ⟨rfl, rfl⟩) | (go_at_call 17; (first | with_reducible refine (C2.out _).mono ?_ | with_reducible refine (C4.out _).mono ?_); rintro e w' ⟨rfl, rfl⟩))
      go_ret
      exact ⟨rfl, hb1⟩
  · have hm1 := ne_tt hm
    clear hm
    rcases part1 with he | ⟨rfl, hs⟩ | ⟨rfl, hs, hg | ⟨rfl, hg⟩, rfl, hls⟩
    · have he1 := eq_ff he
      clear he
      go_enter Tryd.func5, Tryd.ntmps5
      go_wp2_with (first | (go_at_call 9; refine (awake_any w hp).mono ?_; rintro e w1 ⟨rfl, hb1⟩) | (go_at_call 15; (first | with_reducible refine (C1.out _).mono ?_ | with_reducible refine (C3.out _ (by assumption)).mono ?_ | with_reducible refine (C5.out _).mono ?_ | with_reducible refine (C6.out _).mono ?_); rintro e w' ⟨rfl, rfl⟩) | (go_at_call 17; (first | with_reducible refine (C2.out _).mono ?_ | with_reducible refine (C4.out _).mono ?_); rintro e w' ⟨rfl, rfl⟩))
      go_ret
      exact ⟨rfl, hb1⟩
    · go_enter Tryd.func5, Tryd.ntmps5
      go_wp2_with (first | (go_at_call 9; refine (awake_any w hp).mono ?_; rintro e w1 ⟨rfl, hb1⟩) | (go_at_call 15; (first | with_reducible refine (C1.out _).mono ?_ | with_reducible refine (C3.out _ (by assumption)).mono ?_ | with_reducible refine (C5.out _).mono ?_ | with_reducible refine (C6.out _).mono ?_); rintro e w' ⟨rfl, rfl⟩) | (go_at_call 17; (first | with_reducible refine (C2.out _).mono ?_ | with_reducible refine (C4.out _).mono ?_); rintro e w' ⟨rfl, rfl⟩))
      go_ret
      exact ⟨rfl, hb1⟩
    · have hg1 := eq_ff hg
      clear hg
      go_enter Tryd.func5, Tryd.ntmps5
      go_wp2_with (first | (go_at_call 9; refine (awake_any w hp).mono ?_; rintro e w1 ⟨rfl, hb1⟩) | (go_at_call 15; (first | with_reducible refine (C1.out _).mono ?_ | with_reducible refine (C3.out _ (by assumption)).mono ?_ | with_reducible refine (C5.out _).mono ?_ | with_reducible refine (C6.out _).mono ?_); rintro e w' ⟨rfl, rfl⟩) | (go_at_call 17; (first | with_reducible refine (C2.out _).mono ?_ | with_reducible refine (C4.out _).mono ?_); rintro e w' ⟨rfl, rfl⟩))
      go_ret
      exact ⟨rfl, hb1⟩
    · go_enter Tryd.func5, Tryd.ntmps5
      go_wp2_with (first | (go_at_call 9; refine (awake_any w hp).mono ?_; rintro e w1 ⟨rfl, hb1⟩) | (go_at_call 15; (first | with_reducible refine (C1.out _).mono ?_ | with_reducible refine (C3.out _ (by assumption)).mono ?_ | with_reducible refine (C5.out _).mono ?_ | with_reducible refine (C6.out _).mono ?_); rintro e w' ⟨rfl, rfl⟩) | (go_at_call 17; (first | with_reducible refine (C2.out _).mono ?_ | with_reducible refine (C4.out _).mono ?_); rintro e w' ⟨rfl, rfl⟩))
      go_ret
      exact ⟨rfl, hb1⟩
  · rcases part1 with he | ⟨rfl, hs⟩ | ⟨rfl, hs, hg | ⟨rfl, hg⟩, rfl, hls⟩
    · have he1 := eq_ff he
      clear he
      go_enter Tryd.func5, Tryd.ntmps5
      go_wp2_with (first | (go_at_call 9; refine (awake_any w hp).mono ?_; rintro e w1 ⟨rfl, hb1⟩) | (go_at_call 15; (first | with_reducible refine (C1.out _).mono ?_ | with_reducible refine (C3.out _ (by assumption)).mono ?_ | with_reducible refine (C5.out _).mono ?_ | with_reducible refine (C6.out _).mono ?_); rintro e w' ⟨rfl, rfl⟩) | (go_at_call 17; (first | with_reducible refine (C2.out _).mono ?_ | with_reducible refine (C4.out _).mono ?_); rintro e w' ⟨rfl, rfl⟩))
      go_ret
      exact ⟨rfl, hb1⟩
    · go_enter Tryd.func5, Tryd.ntmps5
      go_wp2_with (first | (go_at_call 9; refine (awake_any w hp).mono ?_; rintro e w1 ⟨rfl, hb1⟩) | (go_at_call 15; (first | with_reducible refine (C1.out _).mono ?_ | with_reducible refine (C3.out _ (by assumption)).mono ?_ | with_reducible refine (C5.out _).mono ?_ | with_reducible refine (C6.out _).mono ?_); rintro e w' ⟨rfl, rfl⟩) | (go_at_call 17; (first | with_reducible refine (C2.out _).mono ?_ | with_reducible refine (C4.out _).mono ?_); rintro e w' ⟨rfl, rfl⟩))
      go_ret
      exact ⟨rfl, hb1⟩
    · have hg1 := eq_ff hg
      clear hg
      go_enter Tryd.func5, Tryd.ntmps5
      go_wp2_with (first | (go_at_call 9; refine (awake_any w hp).mono ?_; rintro e w1 ⟨rfl, hb1⟩) | (go_at_call 15; (first | with_reducible refine (C1.out _).mono ?_ | with_reducible refine (C3.out _ (by assumption)).mono ?_ | with_reducible refine (C5.out _).mono ?_ | with_reducible refine (C6.out _).mono ?_); rintro e w' ⟨rfl, rfl⟩) | (go_at_call 17; (first | with_reducible refine (C2.out _).mono ?_ | with_reducible refine (C4.out _).mono ?_); rintro e w' ⟨rfl, rfl⟩))
      go_ret
      exact ⟨rfl, hb1⟩
    · go_enter Tryd.func5, Tryd.ntmps5
      go_wp2_with (first | (go_at_call 9; refine (awake_any w hp).mono ?_; rintro e w1 ⟨rfl, hb1⟩) | (go_at_call 15; (first | with_reducible refine (C1.out _).mono ?_ | with_reducible refine (C3.out _ (by assumption)).mono ?_ | with_reducible refine (C5.out _).mono ?_ | with_reducible refine (C6.out _).mono ?_); rintro e w' ⟨rfl, rfl⟩) | (go_at_call 17; (first | with_reducible refine (C2.out _).mono ?_ | with_reducible refine (C4.out _).mono ?_); rintro e w' ⟨rfl, rfl⟩))
      go_ret
      exact ⟨rfl, hb1⟩
end Go.Proofs.YtopeblaiifkmoaaDoor
