/-
  The reference's Double, walked. Conditions: sizes within the reach.
-/
import Derived.Test.YtnmegdhidpkklaaDoorRSum
namespace Go.Proofs.YtnmegdhidpkklaaDoor
open Go.RowKit

set_option maxRecDepth 100000 in
set_option maxHeartbeats 3200000 in
theorem rdouble_any (B : Nat) (v : Value) (b : List UInt8) (W0 : World) (hb : Byt W0 B v b) (hB : B ≤ W0.heap.size) (hlen : b.length ≤ 100000) :
    Calls Tryd.prog 19 #[v] W0 fun e w' => e = .returned (digV (sha256 (sha256 b))) ∧ Below W0.heap.size W0 w' := by
  obtain ⟨A, c, rfl⟩ := hb.form
  have HB := Lib.hid hb
  clear hb
  have rA := IRow.new W0 27 .u8 (List.replicate 32 0)
  have bA : Below W0.heap.size W0 (W0.alloc (.cells ((List.replicate 32 (0 : Int)).map (Value.int .u8)).toArray 27)) := (Below.refl _ W0).alloc (Nat.le_refl _) _
  go_enter Tryd.func19, Tryd.ntmps19
  go_upto_region 1 with fail
  change Code.wp _ _ _ _ (W0.alloc (.cells ((List.replicate 32 (0 : Int)).map (Value.int .u8)).toArray 27))
  obtain ⟨wA, hwA⟩ : ∃ x, x = W0.alloc (.cells ((List.replicate 32 (0 : Int)).map (Value.int .u8)).toArray 27) := ⟨_, rfl⟩
  rw [← hwA] at rA bA ⊢
  obtain ⟨B0, hB0⟩ : ∃ B0, B0 = W0.heap.size := ⟨_, rfl⟩
  rw [← hB0] at rA bA ⊢
  have C1 := Lib.hid (rsum256_any B _ b wA (HB.out.below (bA.mono (by omega))) (by have := bA.size; omega) hlen)
  have RA := Lib.hid rA
  have BA := Lib.hid bA
  have HB0 := Lib.hid hB0
  clear hwA rA bA hB0
  go_wp2_with fail
  refine C1.out.mono ?_
  rintro e w2 ⟨rfl, hb2⟩
  have hsz : (nums (sha256 b)).length = 32 := by rw [nums_length, sha256_length]
  have HI := Lib.hid (show (Tryd.prog.info? 27).map (·.size) = some (nums (sha256 b)).length by rw [hsz]; exact info_h27)
  have HL := Lib.hid (show (List.replicate 32 (0 : Int)).length = (nums (sha256 b)).length by rw [hsz]; rfl)
  have rA2 := RA.out.below hb2 RA.out.lt
  have bA2 := BA.out.trans (hb2.mono (by have := BA.out.size; have := HB0.out; omega))
  have rC := IRow.new w2 27 .u8 (List.replicate 32 0)
  have rC2 := setRow_irow (ys := nums (sha256 b)) rC
  have bC : Below w2.heap.size w2 ((w2.alloc (.cells ((List.replicate 32 (0 : Int)).map (Value.int .u8)).toArray 27)).setRow w2.heap.size ((nums (sha256 b)).map (Value.int .u8)).toArray) := below_setRow ((Below.refl _ w2).alloc (Nat.le_refl _) _) (Nat.le_refl _) _
  have RA2 := Lib.hid rA2
  have BA2 := Lib.hid bA2
  have RC := Lib.hid rC
  have RC2 := Lib.hid rC2
  have BC := Lib.hid bC
  clear hb2 rA2 bA2 rC rC2 bC hsz
  unfold digV
  go_upto_region 2 with (refine wpList_store_irow rfl 27 (.tmp 3) (.tmp 5) rfl (g := w2.heap.size) (t := 27) (k := .u8) (xs := List.replicate 32 0) (ys := nums (sha256 b)) rfl rfl RC.out HI.out HL.out ?_)
  change Code.wp _ _ _ _ ((w2.alloc (.cells ((List.replicate 32 (0 : Int)).map (Value.int .u8)).toArray 27)).setRow w2.heap.size ((nums (sha256 b)).map (Value.int .u8)).toArray)
  obtain ⟨w3, hw3⟩ : ∃ x, x = (w2.alloc (.cells ((List.replicate 32 (0 : Int)).map (Value.int .u8)).toArray 27)).setRow w2.heap.size ((nums (sha256 b)).map (Value.int .u8)).toArray := ⟨_, rfl⟩
  rw [← hw3]
  have rC3 : IRow w3 w2.heap.size 27 .u8 (nums (sha256 b)) := by rw [hw3]; exact RC2.out
  have bC3 : Below w2.heap.size w2 w3 := by rw [hw3]; exact BC.out
  have rA3 := RA2.out.below bC3 RA2.out.lt
  have bA3 := BA2.out.trans (bC3.mono (by have := BA2.out.size; have := HB0.out; omega))
  have hby := rC3.bytes (by rw [sha256_length]; unfold maxLen; omega)
  rw [sha256_length] at hby
  have C2 := Lib.hid (rsum256_any _ _ _ w3 hby (by have := rC3.lt; omega) (by rw [sha256_length]; omega))
  have RA3 := Lib.hid rA3
  have BA3 := Lib.hid bA3
  clear hw3 rC3 bC3 rA3 bA3 hby RA2 BA2 RC RC2 BC HI HL
  dsimp only [Act.put]
  go_wp2_with fail
  refine C2.out.mono ?_
  rintro e w4 ⟨rfl, hb4⟩
  have hsz : (nums (sha256 (sha256 b))).length = 32 := by rw [nums_length, sha256_length]
  have HI := Lib.hid (show (Tryd.prog.info? 27).map (·.size) = some (nums (sha256 (sha256 b))).length by rw [hsz]; exact info_h27)
  have HL := Lib.hid (show (List.replicate 32 (0 : Int)).length = (nums (sha256 (sha256 b))).length by rw [hsz]; rfl)
  have ra4 := RA3.out.below hb4 RA3.out.lt
  have b4 := BA3.out.trans (hb4.mono (by have := BA3.out.size; have := HB0.out; omega))
  have HFIN := Lib.hid (setRow_irow (ys := nums (sha256 (sha256 b))) ra4)
  have HBF := Lib.hid (below_setRow b4 (Nat.le_refl _) ((nums (sha256 (sha256 b))).map (Value.int .u8)).toArray)
  have RA4 := Lib.hid ra4
  clear ra4 b4 hb4 hsz
  unfold digV
  go_wp2_with (refine wpList_store_irow rfl 27 (.tmp 2) (.tmp 7) rfl (g := B0) (t := 27) (k := .u8) (xs := List.replicate 32 0) (ys := nums (sha256 (sha256 b))) rfl rfl RA4.out HI.out HL.out ?_)
  refine bodyPost_ret (v := digV (sha256 (sha256 b))) ?_ rfl ⟨rfl, by rw [← HB0.out]; exact HBF.out⟩
  obtain ⟨fr, hrw⟩ : ∃ fr, ((w4.setRow B0 ((nums (sha256 (sha256 b))).map (Value.int .u8)).toArray)).heap[B0]? = some (.cells ((nums (sha256 (sha256 b))).map (Value.int .u8)).toArray 27 fr) := ⟨_, HFIN.out⟩
  exact results_cell_row Tryd.results19 _ _ B0 27 ((nums (sha256 (sha256 b))).map (Value.int .u8)).toArray fr _ rfl hrw Tryd.underlying27 rfl (by rw [List.size_toArray, List.length_map]; exact HI.out)

end Go.Proofs.YtnmegdhidpkklaaDoor
