/-
  The dice: the program's and the reference's. Conditions: the state is a uint64.
-/
import Derived.Test.YtammeedmccblcaaCsLawF
namespace Go.Proofs.Ytammeedmccblcaa.Cs
open Go.RowKit

def U64 (x : Int) : Prop := 0 ≤ x ∧ x < 18446744073709551616
theorem bits64_u (op : BinOp) (a b : Int) : U64 (bits op .u64 a b) := by
  unfold bits
  have : ∀ n : Int, U64 (IntKind.u64.wrap n) := fun n => by unfold U64 IntKind.wrap; simp [IntKind.bits, IntKind.signed]; omega
  exact this _
theorem u64_wrap (n : Int) : IntKind.u64.wrap n = n % 18446744073709551616 := by simp [IntKind.wrap, IntKind.bits, IntKind.signed]
def mixM (m x : Int) : Int := bits .xor .u64 x (IntKind.u64.wrap (x * m))
def mixD (m x : Int) : Int := bits .xor .u64 x (x / m)
/-- The next number of the dice. -/
def rollF (x : Int) : Int := mixM 131072 (mixD 128 (mixM 8192 x))
theorem mix_u (m x : Int) : U64 (mixM m x) := bits64_u _ _ _
theorem mixD_u (m x : Int) : U64 (mixD m x) := bits64_u _ _ _
theorem roll_u (x : Int) : U64 (rollF x) := mix_u _ _
theorem wrap_quo (y : Int) (h : U64 y) : IntKind.u64.wrap (y.tdiv 128) = y / 128 := by
  unfold U64 at h
  rw [u64_wrap, Int.tdiv_eq_ediv_of_nonneg h.1]
  omega
set_option maxRecDepth 100000 in
set_option maxHeartbeats 1600000 in
theorem turn_any (x : Int) (w : World) :
    Calls Try.prog 35 #[.int .u64 x] w fun e w' => e = .returned (.int .u64 (rollF x)) ∧ w' = w := by
  have h := wrap_quo (mixM 8192 x) (mix_u _ _)
  go_enter Try.func35, Try.ntmps35
  go_wp2
  go_ret
  refine ⟨?_, rfl⟩
  show Ending.returned (.int .u64 (mixM 131072 (bits .xor .u64 (mixM 8192 x) (IntKind.u64.wrap ((mixM 8192 x).tdiv 128))))) = _
  rw [h]
  rfl
set_option maxRecDepth 100000 in
set_option maxHeartbeats 1600000 in
theorem throw_any (G : Nat) (x : Int) (w : World) (hv : VRow w G 119 [.int .u64 x]) :
    Calls Try.prog 73 #[.pointer (some ⟨G, 0, none⟩)] w fun e w' => e = .returned (.bool (decide (9223372036854775808 ≤ rollF x))) ∧ VRow w' G 119 [.int .u64 (rollF x)] ∧ Turns (fun q => q = G) w w' := by
  have c0 : w.cell? ⟨G, 0, none⟩ = some (.int .u64 x) := hv.cell rfl
  have f0 := hv.free 0
  go_enter Try.func73, Try.ntmps73
  go_wp2_with fail
  go_region
  go_wp2_with fail
  obtain ⟨y, hy⟩ : ∃ q, q = mixM 8192 x := ⟨_, rfl⟩
  change Code.wp _ _ _ _ (w.setCell ⟨G, 0, none⟩ (.int .u64 (mixM 8192 x))).drew
  obtain ⟨w1, hw1⟩ : ∃ q, q = (w.setCell ⟨G, 0, none⟩ (.int .u64 (mixM 8192 x))).drew := ⟨_, rfl⟩
  have v1 : VRow w1 G 119 [.int .u64 y] := by rw [hw1, hy]; exact VRow.set hv 0 (.int .u64 (mixM 8192 x))
  have t1 : Turns (fun q => q = G) w w1 := by rw [hw1]; exact (Turns.setCell (S := fun q => q = G) (Turns.refl _ _) (p := ⟨G, 0, none⟩) (fun _ => rfl) _).drew
  rw [← hw1]
  have c1 : w1.cell? ⟨G, 0, none⟩ = some (.int .u64 y) := v1.cell rfl
  have f1 := v1.free 0
  have V1 := Lib.hid v1
  have T1 := Lib.hid t1
  have HY := Lib.hid hy
  clear hw1 v1 t1 hy c0 f0 hv
  go_region
  go_wp2_with fail
  obtain ⟨z, hz⟩ : ∃ q, q = mixD 128 y := ⟨_, rfl⟩
  change Code.wp _ _ _ _ (w1.setCell ⟨G, 0, none⟩ (.int .u64 (mixD 128 y))).drew
  obtain ⟨w2, hw2⟩ : ∃ q, q = (w1.setCell ⟨G, 0, none⟩ (.int .u64 (mixD 128 y))).drew := ⟨_, rfl⟩
  have v2 : VRow w2 G 119 [.int .u64 z] := by rw [hw2, hz]; exact VRow.set V1.out 0 (.int .u64 (mixD 128 y))
  have t2 : Turns (fun q => q = G) w1 w2 := by rw [hw2]; exact (Turns.setCell (S := fun q => q = G) (Turns.refl _ _) (p := ⟨G, 0, none⟩) (fun _ => rfl) _).drew
  rw [← hw2]
  have c2 : w2.cell? ⟨G, 0, none⟩ = some (.int .u64 z) := v2.cell rfl
  have f2 := v2.free 0
  have V2 := Lib.hid v2
  have T2 := Lib.hid t2
  have HZ := Lib.hid hz
  clear hw2 v2 t2 hz c1 f1
  go_region
  go_wp2_with fail
  obtain ⟨r, hr⟩ : ∃ q, q = mixM 131072 z := ⟨_, rfl⟩
  have hru : U64 r := by rw [hr]; exact mix_u _ _
  have hrr : r = rollF x := by rw [hr, HZ.out, HY.out]; rfl
  have h63 : (r / 9223372036854775808 == 1) = decide (9223372036854775808 ≤ r) := by
    unfold U64 at hru
    by_cases h : 9223372036854775808 ≤ r
    · rw [decide_eq_true h]; exact beq_iff_eq.2 (by omega)
    · rw [decide_eq_false h]; exact beq_eq_false_iff_ne.2 (by omega)
  have v3 : VRow (w2.setCell ⟨G, 0, none⟩ (.int .u64 (mixM 131072 z))).drew G 119 [.int .u64 r] := by rw [hr]; exact VRow.set V2.out 0 (.int .u64 (mixM 131072 z))
  have t3 : Turns (fun q => q = G) w2 (w2.setCell ⟨G, 0, none⟩ (.int .u64 (mixM 131072 z))).drew := (Turns.setCell (S := fun q => q = G) (Turns.refl _ _) (p := ⟨G, 0, none⟩) (fun _ => rfl) _).drew
  have T13 : Turns (fun q => q = G) w w2 := T1.out.trans T2.out (fun _ _ h => h)
  go_ret
  refine ⟨?_, by rw [← hrr]; exact v3, T13.trans t3 (fun _ _ h => h)⟩
  show Ending.returned (Value.bool (mixM 131072 z / 9223372036854775808 == 1)) = _
  rw [← hr, h63, hrr]
end Go.Proofs.Ytammeedmccblcaa.Cs
