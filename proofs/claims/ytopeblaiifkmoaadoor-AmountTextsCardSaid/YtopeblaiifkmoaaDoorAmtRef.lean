/-
  The reference's way to write an amount gives the program's text. Conditions: none.
-/
import Derived.Test.YtopeblaiifkmoaaDoorAmtDec
namespace Go.Proofs.YtopeblaiifkmoaaDoor
open Go.RowKit

set_option maxHeartbeats 1600000 in
theorem refFormat_any (v : Int) (w : World) :
    Calls Tryd.prog 21 #[.int .i64 v] w fun e w' => e = .returned (.string (fmtS v)) ∧ Below w.heap.size w w' := by
  cases hv : amtB v with
  | false =>
    go_enter Tryd.func21, Tryd.ntmps21
    go_wp2_with (go_at_call 13; refine (refValid_any _ _).mono ?_; rintro e w' ⟨rfl, rfl⟩)
    go_ret
    exact ⟨by simp [fmtS, hv], Below.refl _ _⟩
  | true =>
    have bv := amtB_true hv
    obtain ⟨a1, a2⟩ := num_size (n := v / 100000000) (k := 8) (by omega) (by omega) (by omega)
    obtain ⟨p1, p2⟩ := num_size (n := v % 100000000) (k := 8) (by omega) (by omega) (by omega)
    have hf : fmtS v = num (v / 100000000) ++ ⟨#[46]⟩ ++ (⟨#[48, 48, 48, 48, 48, 48, 48, 48]⟩ : ByteArray).extract (num (v % 100000000)).size 8 ++ num (v % 100000000) := by simp [fmtS, hv]
    have c1 := fun w => decimal_any 8 (v / 100000000).toNat 1 w (by omega) (by omega) (by omega) (by omega) (by omega)
    have c2 := fun w => decimal_any 8 (v % 100000000).toNat 8 w (by omega) (by omega) (by omega) (by omega) (by omega)
    rw [decF_one (by omega) (by omega), Int.toNat_of_nonneg (by omega)] at c1
    rw [decF_eight (by omega) (by omega), Int.toNat_of_nonneg (by omega)] at c2
    have hz : ((⟨#[48, 48, 48, 48, 48, 48, 48, 48]⟩ : ByteArray).extract (num (v % 100000000)).size 8 ++ num (v % 100000000)).size ≤ 16 := by
      rw [ByteArray.size_append, ByteArray.size_extract]
      show min 8 8 - _ + _ ≤ 16
      omega
    have hassoc : ∀ a b c d : ByteArray, a ++ b ++ c ++ d = a ++ b ++ (c ++ d) := fun a b c d => by
      apply Go.WideShapes.bytes_inj
      simp
    rw [hassoc] at hf
    obtain ⟨H, hH⟩ : ∃ H : ByteArray, H = num (v / 100000000) := ⟨_, rfl⟩
    obtain ⟨T, hT⟩ : ∃ T : ByteArray, T = (⟨#[48, 48, 48, 48, 48, 48, 48, 48]⟩ : ByteArray).extract (num (v % 100000000)).size 8 ++ num (v % 100000000) := ⟨_, rfl⟩
    rw [← hH] at a1 a2 c1 hf
    rw [← hT] at c2 hf hz
    have HF := Lib.hid hf
    have C1 := Lib.hid c1
    have C2 := Lib.hid c2
    clear hf c1 c2 hH hT p1 p2 hassoc
    go_enter Tryd.func21, Tryd.ntmps21
    go_wp2_with (go_at_call 13; refine (refValid_any _ _).mono ?_; rintro e w' ⟨rfl, rfl⟩)
    refine (C1.out _).mono ?_
    rintro e w1 ⟨rfl, hb1⟩
    go_wp2_with fail
    refine (C2.out _).mono ?_
    rintro e w2 ⟨rfl, hb2⟩
    go_wp2_with fail
    go_ret
    refine ⟨?_, hb1.trans (hb2.mono hb1.size)⟩
    rw [HF.out]
    rfl
end Go.Proofs.YtopeblaiifkmoaaDoor
