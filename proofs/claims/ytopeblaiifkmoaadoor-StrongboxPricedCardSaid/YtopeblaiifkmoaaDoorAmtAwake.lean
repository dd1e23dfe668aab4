/-
  The fixed fact of the laws on amounts comes out true; and the laws on the least amount, on fees and on rates. Conditions: the library's table of powers of ten holds what its text lays.
-/
import Derived.Test.YtopeblaiifkmoaaDoorAmtTxt
namespace Go.Proofs.YtopeblaiifkmoaaDoor
open Go.RowKit

set_option maxHeartbeats 800000 in
theorem awake_any (w : World) (hp : Pow10 w) :
    Calls Tryd.prog 9 #[] w fun e w' => e = .returned (.bool true) ∧ Below w.heap.size w w' := by
  have e1 : feeS 1001 250 = (251, 0) := by decide
  have e2 : amtB 2100000000000000 = true := by decide
  have e3 : amtB (-1) = false := by decide
  have hfe := fee_any 1001 250
  rw [e1] at hfe
  have hfo := format_any 123456789
  rw [fmt_one] at hfo
  have hv1 := valid_any 2100000000000000
  rw [e2] at hv1
  have hv2 := valid_any (-1)
  rw [e3] at hv2
  have HFE := Lib.hid hfe
  have HFO := Lib.hid hfo
  have HV1 := Lib.hid hv1
  have HV2 := Lib.hid hv2
  clear e1 e2 e3 hfe hfo hv1 hv2
  go_enter Tryd.func9, Tryd.ntmps9
  go_wp2_with (go_at_call 15; refine (HFE.out _ (by omega) (by omega)).mono ?_; rintro e w' ⟨rfl, rfl⟩)
  refine (HFO.out _ hp).mono ?_
  rintro e w1 ⟨rfl, hb1⟩
  go_wp2_with fail
  refine (HV1.out _).mono ?_
  rintro e w' ⟨rfl, rfl⟩
  go_wp2_with fail
  refine (HV2.out _).mono ?_
  rintro e w' ⟨rfl, rfl⟩
  go_wp2_with fail
  go_ret
  exact ⟨rfl, hb1⟩

set_option maxHeartbeats 800000 in
theorem dust_law (a b : Int) (w : World) (hp : Pow10 w) (ha0 : -9223372036854775808 ≤ a) (ha1 : a ≤ 9223372036854775807) (hb0 : -9223372036854775808 ≤ b) (hb1 : b ≤ 9223372036854775807) :
    Calls Tryd.prog 7 #[.int .i64 a, .int .i64 b] w fun e w' => e = .returned (.bool true) ∧ Below w.heap.size w w' := by
  have hda := dust_valid a
  obtain ⟨x, hx⟩ : ∃ x, x = dustS a := ⟨_, rfl⟩
  obtain ⟨y, hy⟩ : ∃ y, y = dustS b := ⟨_, rfl⟩
  have hm : a ≤ b → x ≤ y := by rw [hx, hy]; exact dust_mono
  have c1 := fun w' => dust_any a w' ha0 ha1
  have c2 := fun w' => dust_any b w' hb0 hb1
  have c3 := fun w' => refDust_any a w' ha0 ha1
  have c4 := fun w' => refDust_any b w' hb0 hb1
  have c5 := valid_any x
  rw [← hx] at c1 c3 hda
  rw [← hy] at c2 c4
  rw [hda] at c5
  have C1 := Lib.hid c1
  have C2 := Lib.hid c2
  have C3 := Lib.hid c3
  have C4 := Lib.hid c4
  have C5 := Lib.hid c5
  clear c1 c2 c3 c4 c5 hx hy hda
  by_cases hab : b < a
  · clear hm
    go_enter Tryd.func7, Tryd.ntmps7
    go_wp2_with (go_at_call 9; refine (awake_any w hp).mono ?_; rintro e w1 ⟨rfl, hb1⟩)
    refine (C1.out _).mono ?_
    rintro e w' ⟨rfl, rfl⟩
    go_wp2_with fail
    refine (C2.out _).mono ?_
    rintro e w' ⟨rfl, rfl⟩
    go_wp2_with fail
    refine (C3.out _).mono ?_
    rintro e w' ⟨rfl, rfl⟩
    go_wp2_with fail
    refine (C4.out _).mono ?_
    rintro e w' ⟨rfl, rfl⟩
    go_wp2_with fail
    refine (C5.out _).mono ?_
    rintro e w' ⟨rfl, rfl⟩
    go_wp2_with fail
    go_ret
    exact ⟨rfl, hb1⟩
  · have hxy := hm (by omega)
    clear hm
    go_enter Tryd.func7, Tryd.ntmps7
    go_wp2_with (go_at_call 9; refine (awake_any w hp).mono ?_; rintro e w1 ⟨rfl, hb1⟩)
    refine (C1.out _).mono ?_
    rintro e w' ⟨rfl, rfl⟩
    go_wp2_with fail
    refine (C2.out _).mono ?_
    rintro e w' ⟨rfl, rfl⟩
    go_wp2_with fail
    refine (C3.out _).mono ?_
    rintro e w' ⟨rfl, rfl⟩
    go_wp2_with fail
    refine (C4.out _).mono ?_
    rintro e w' ⟨rfl, rfl⟩
    go_wp2_with fail
    refine (C5.out _).mono ?_
    rintro e w' ⟨rfl, rfl⟩
    go_wp2_with fail
    go_ret
    exact ⟨rfl, hb1⟩

set_option maxHeartbeats 800000 in
theorem fees_law (rate size : Int) (w : World) (hp : Pow10 w) (ha0 : -9223372036854775808 ≤ size) (ha1 : size ≤ 9223372036854775807) :
    Calls Tryd.prog 4 #[.int .i64 rate, .int .i64 size] w fun e w' => e = .returned (.bool true) ∧ Below w.heap.size w w' := by
  have c1 := fun w' => fee_any rate size w' ha0 ha1
  have c2 := fun w' => refFee_any rate size w' ha0 ha1
  have c3 := fun w' => rate_any rate size w' ha0 ha1
  have c4 := fun w' => refRate_any rate size w' ha0 ha1
  obtain ⟨x, hx⟩ : ∃ x, x = feeS rate size := ⟨_, rfl⟩
  obtain ⟨y, hy⟩ : ∃ y, y = rateS rate size := ⟨_, rfl⟩
  rw [← hx] at c1 c2
  rw [← hy] at c3 c4
  obtain ⟨x1, x2⟩ := x
  obtain ⟨y1, y2⟩ := y
  have C1 := Lib.hid c1
  have C2 := Lib.hid c2
  have C3 := Lib.hid c3
  have C4 := Lib.hid c4
  clear c1 c2 c3 c4 hx hy
  go_enter Tryd.func4, Tryd.ntmps4
  go_wp2_with (go_at_call 9; refine (awake_any w hp).mono ?_; rintro e w1 ⟨rfl, hb1⟩)
  refine (C1.out _).mono ?_
  rintro e w' ⟨rfl, rfl⟩
  go_wp2_with fail
  refine (C2.out _).mono ?_
  rintro e w' ⟨rfl, rfl⟩
  go_wp2_with fail
  refine (C3.out _).mono ?_
  rintro e w' ⟨rfl, rfl⟩
  go_wp2_with fail
  refine (C4.out _).mono ?_
  rintro e w' ⟨rfl, rfl⟩
  go_wp2_with fail
  go_ret
  exact ⟨rfl, hb1⟩
end Go.Proofs.YtopeblaiifkmoaaDoor
