/-
  Texts joined: HTextRef, Sum2, Double. Conditions: those of each.
-/
import Derived.Test.YtpcopimbnbmkmaaDoorL14
import Derived.Test.YtpcopimbnbmkmaaDoorL9
/-
  The reference's Digit and Text. Conditions: none.
-/
namespace Go.Proofs.YtpcopimbnbmkmaaDoor
open Go.RowKit

end Go.Proofs.YtpcopimbnbmkmaaDoor

/-
  hash.Sum256, Double and Sum.Twice. Conditions: the size stays below 2^59; the roots are laid.
-/
namespace Go.Proofs.YtpcopimbnbmkmaaDoor
open Go.RowKit

theorem sum_zero (w : World) (t : TypeId) : SumIs (w.alloc (.cells zIn.toArray t)) w.heap.size t [] :=
  ⟨_, _, Took.zero, by rw [List.length_replicate], VRow.new w t zIn⟩
set_option maxRecDepth 100000 in
set_option maxHeartbeats 3200000 in
theorem sum256_any (B : Nat) (v : Value) (b : List UInt8) (W0 : World) (hb : Byt W0 B v b) (hB : B ≤ W0.heap.size) (hlen : b.length < 576460752303423488) (hroots : Roots W0) :
    Calls Tryd.prog 8 #[v] W0 fun e w' => e = .returned (digV (sha256 b)) ∧ Below W0.heap.size W0 w' := by
  obtain ⟨A, c, rfl⟩ := hb.form
  have rA := IRow.new W0 28 .u8 (List.replicate 32 0)
  have bA : Below W0.heap.size W0 (W0.alloc (.cells ((List.replicate 32 (0 : Int)).map (Value.int .u8)).toArray 28)) := (Below.refl _ W0).alloc (Nat.le_refl _) _
  have sA : (W0.alloc (.cells ((List.replicate 32 (0 : Int)).map (Value.int .u8)).toArray 28)).heap.size = W0.heap.size + 1 := by simp
  have HB := Lib.hid hb
  have HR := Lib.hid hroots
  clear hb hroots
  have hzs := zero_sum
  go_enter Tryd.func8, Tryd.ntmps8
  go_upto_region 1 with fail
  change Code.wp _ _ _ _ (W0.alloc (.cells ((List.replicate 32 (0 : Int)).map (Value.int .u8)).toArray 28))
  obtain ⟨wA, hwA⟩ : ∃ x, x = W0.alloc (.cells ((List.replicate 32 (0 : Int)).map (Value.int .u8)).toArray 28) := ⟨_, rfl⟩
  rw [← hwA] at rA bA sA ⊢
  have sm := sum_zero wA 46
  have bB : Below wA.heap.size wA (wA.alloc (.cells zIn.toArray 46)) := (Below.refl _ wA).alloc (Nat.le_refl _) _
  have sB : (wA.alloc (.cells zIn.toArray 46)).heap.size = wA.heap.size + 1 := by simp
  have SA := Lib.hid sA
  clear hwA sA
  go_upto_region 2 with fail
  change Code.wp _ _ _ _ (wA.alloc (.cells zIn.toArray 46))
  obtain ⟨wB, hwB⟩ : ∃ x, x = wA.alloc (.cells zIn.toArray 46) := ⟨_, rfl⟩
  rw [← hwB] at sm bB sB ⊢
  obtain ⟨B0, hB0⟩ : ∃ B0, B0 = W0.heap.size := ⟨_, rfl⟩
  obtain ⟨B1, hB1⟩ : ∃ B1, B1 = wA.heap.size := ⟨_, rfl⟩
  rw [← hB1] at sm bB sB ⊢
  rw [← hB0] at rA bA ⊢
  have h10 : B1 = B0 + 1 := by have := SA.out; omega
  have rA2 := rA.below bB (by omega)
  have b2 := bA.trans (bB.mono (by omega : B0 ≤ B1))
  have src : Src wB B1 (.slice A b.length c) b := Src.of_byt (HB.out.below (b2.mono (by omega : B ≤ B0))) (by have := b2.size; omega) (by omega)
  have ro : Roots wB := HR.out.below (by rw [← hB0]; exact b2)
  have C1 := Lib.hid (sumAdd_any B1 _ [] b _ wB sm src (by simp; omega) ro (HR.out.off (by omega)))
  have RA := Lib.hid rA2
  have B2 := Lib.hid b2
  have RO := Lib.hid ro
  have H10 := Lib.hid h10
  have HB0 := Lib.hid hB0
  have HOFF := Lib.hid (HR.out.off (g := B1) (by omega))
  clear hwB sm bB sB hB0 hB1 rA rA2 bA b2 src ro h10
  go_wp2_with fail
  refine C1.out.mono ?_
  rintro e w3 ⟨rfl, hsum, htt⟩
  rw [List.nil_append] at hsum
  have C2 := Lib.hid (sumHash_any B1 _ b w3 hsum hlen (RO.out.turns htt HOFF.out))
  have ra3 := RA.out.turns htt (by have := H10.out; omega)
  have b3 := B2.out.trans (htt.below_of (B := B0) (by have := B2.out.size; have := HB0.out; omega) (by intro i hi h; have := H10.out; omega))
  have RA3 := Lib.hid ra3
  have B3 := Lib.hid b3
  clear hsum htt ra3 b3
  go_wp2_with fail
  refine C2.out.mono ?_
  rintro e w4 ⟨rfl, hb4⟩
  have hsz : (nums (sha256 b)).length = 32 := by rw [nums_length, sha256_length]
  have HI := Lib.hid (show (Tryd.prog.info? 28).map (·.size) = some (nums (sha256 b)).length by rw [hsz]; exact info_h)
  have HL := Lib.hid (show (List.replicate 32 (0 : Int)).length = (nums (sha256 b)).length by rw [hsz]; rfl)
  have ra4 := RA3.out.below hb4 RA3.out.lt
  have b4 := B3.out.trans (hb4.mono (by have := B3.out.size; have := HB0.out; omega))
  have HFIN := Lib.hid (setRow_irow (ys := nums (sha256 b)) ra4)
  have HBF := Lib.hid (below_setRow b4 (Nat.le_refl _) ((nums (sha256 b)).map (Value.int .u8)).toArray)
  have RA4 := Lib.hid ra4
  clear ra4 b4 hb4 hsz
  unfold digV
  go_wp2_with (refine wpList_store_irow rfl 28 (.tmp 2) (.tmp 6) rfl (g := B0) (t := 28) (k := .u8) (xs := List.replicate 32 0) (ys := nums (sha256 b)) rfl rfl RA4.out HI.out HL.out ?_)
  refine bodyPost_ret (v := digV (sha256 b)) ?_ rfl ⟨rfl, by rw [← HB0.out]; exact HBF.out⟩
  obtain ⟨fr, hrw⟩ : ∃ fr, ((w4.setRow B0 ((nums (sha256 b)).map (Value.int .u8)).toArray)).heap[B0]? = some (.cells ((nums (sha256 b)).map (Value.int .u8)).toArray 28 fr) := ⟨_, HFIN.out⟩
  exact results_cell_row Tryd.results8 _ _ B0 28 ((nums (sha256 b)).map (Value.int .u8)).toArray fr _ rfl hrw Tryd.underlying28 rfl (by rw [List.size_toArray, List.length_map]; exact HI.out)
end Go.Proofs.YtpcopimbnbmkmaaDoor

/-
  hash.Double and Sum.Twice, walked. Conditions: the size stays below 2^59; the roots are laid.
-/
namespace Go.Proofs.YtpcopimbnbmkmaaDoor
open Go.RowKit

theorem IRow.bytes {w : World} {g : Nat} {t : TypeId} {bs : List UInt8} (h : IRow w g t .u8 (nums bs)) (hl : bs.length ≤ maxLen) : Byt w (g + 1) (.slice (some ⟨g, 0, none⟩) bs.length bs.length) bs :=
  ⟨_, _, rfl, Nat.le_refl _, hl, (by intro h; cases h), fun _ => ⟨g, 0, rfl, Nat.lt_succ_self _, fun j u hu => by
    rw [Nat.zero_add]
    exact h.cell (by unfold nums; rw [List.getElem?_map, hu]; rfl)⟩⟩

set_option maxRecDepth 100000 in
set_option maxHeartbeats 3200000 in
theorem double_any (B : Nat) (v : Value) (b : List UInt8) (W0 : World) (hb : Byt W0 B v b) (hB : B ≤ W0.heap.size) (hlen : b.length < 576460752303423488) (hroots : Roots W0) :
    Calls Tryd.prog 15 #[v] W0 fun e w' => e = .returned (digV (sha256 (sha256 b))) ∧ Below W0.heap.size W0 w' := by
  obtain ⟨A, c, rfl⟩ := hb.form
  have HB := Lib.hid hb
  clear hb
  have rA := IRow.new W0 28 .u8 (List.replicate 32 0)
  have bA : Below W0.heap.size W0 (W0.alloc (.cells ((List.replicate 32 (0 : Int)).map (Value.int .u8)).toArray 28)) := (Below.refl _ W0).alloc (Nat.le_refl _) _
  have HR := Lib.hid hroots
  clear hroots
  go_enter Tryd.func15, Tryd.ntmps15
  go_upto_region 1 with fail
  change Code.wp _ _ _ _ (W0.alloc (.cells ((List.replicate 32 (0 : Int)).map (Value.int .u8)).toArray 28))
  obtain ⟨wA, hwA⟩ : ∃ x, x = W0.alloc (.cells ((List.replicate 32 (0 : Int)).map (Value.int .u8)).toArray 28) := ⟨_, rfl⟩
  rw [← hwA] at rA bA ⊢
  obtain ⟨B0, hB0⟩ : ∃ B0, B0 = W0.heap.size := ⟨_, rfl⟩
  rw [← hB0] at rA bA ⊢
  have C1 := Lib.hid (sum256_any B _ b wA (HB.out.below (bA.mono (by omega))) (by have := bA.size; omega) hlen (HR.out.below (by rw [← hB0]; exact bA)))
  have RA := Lib.hid rA
  have BA := Lib.hid bA
  have HB0 := Lib.hid hB0
  have RO := Lib.hid (HR.out.below (show Below W0.heap.size W0 wA by rw [← hB0]; exact bA))
  clear hwA rA bA hB0
  go_wp2_with fail
  refine C1.out.mono ?_
  rintro e w2 ⟨rfl, hb2⟩
  have hsz : (nums (sha256 b)).length = 32 := by rw [nums_length, sha256_length]
  have HI := Lib.hid (show (Tryd.prog.info? 28).map (·.size) = some (nums (sha256 b)).length by rw [hsz]; exact info_h)
  have HL := Lib.hid (show (List.replicate 32 (0 : Int)).length = (nums (sha256 b)).length by rw [hsz]; rfl)
  have rA2 := RA.out.below hb2 RA.out.lt
  have bA2 := BA.out.trans (hb2.mono (by have := BA.out.size; have := HB0.out; omega))
  have rO := RO.out.below hb2
  have rC := IRow.new w2 28 .u8 (List.replicate 32 0)
  have rC2 := setRow_irow (ys := nums (sha256 b)) rC
  have bC : Below w2.heap.size w2 ((w2.alloc (.cells ((List.replicate 32 (0 : Int)).map (Value.int .u8)).toArray 28)).setRow w2.heap.size ((nums (sha256 b)).map (Value.int .u8)).toArray) := below_setRow ((Below.refl _ w2).alloc (Nat.le_refl _) _) (Nat.le_refl _) _
  have RA2 := Lib.hid rA2
  have BA2 := Lib.hid bA2
  have RO2 := Lib.hid rO
  have RC := Lib.hid rC
  have RC2 := Lib.hid rC2
  have BC := Lib.hid bC
  clear hb2 rA2 bA2 rO rC rC2 bC hsz
  unfold digV
  go_upto_region 2 with (refine wpList_store_irow rfl 28 (.tmp 3) (.tmp 5) rfl (g := w2.heap.size) (t := 28) (k := .u8) (xs := List.replicate 32 0) (ys := nums (sha256 b)) rfl rfl RC.out HI.out HL.out ?_)
  change Code.wp _ _ _ _ ((w2.alloc (.cells ((List.replicate 32 (0 : Int)).map (Value.int .u8)).toArray 28)).setRow w2.heap.size ((nums (sha256 b)).map (Value.int .u8)).toArray)
  obtain ⟨w3, hw3⟩ : ∃ x, x = (w2.alloc (.cells ((List.replicate 32 (0 : Int)).map (Value.int .u8)).toArray 28)).setRow w2.heap.size ((nums (sha256 b)).map (Value.int .u8)).toArray := ⟨_, rfl⟩
  rw [← hw3]
  have rC3 : IRow w3 w2.heap.size 28 .u8 (nums (sha256 b)) := by rw [hw3]; exact RC2.out
  have bC3 : Below w2.heap.size w2 w3 := by rw [hw3]; exact BC.out
  have rA3 := RA2.out.below bC3 RA2.out.lt
  have bA3 := BA2.out.trans (bC3.mono (by have := BA2.out.size; have := HB0.out; omega))
  have ro3 := RO2.out.below bC3
  have hby := rC3.bytes (by rw [sha256_length]; unfold maxLen; omega)
  rw [sha256_length] at hby
  have C2 := Lib.hid (sum256_any _ _ _ w3 hby (by have := rC3.lt; omega) (by rw [sha256_length]; omega) ro3)
  have RA3 := Lib.hid rA3
  have BA3 := Lib.hid bA3
  clear hw3 rC3 bC3 rA3 bA3 ro3 hby RA2 BA2 RO2 RC RC2 BC HI HL
  dsimp only [Act.put]
  go_wp2_with fail
  refine C2.out.mono ?_
  rintro e w4 ⟨rfl, hb4⟩
  have hsz : (nums (sha256 (sha256 b))).length = 32 := by rw [nums_length, sha256_length]
  have HI := Lib.hid (show (Tryd.prog.info? 28).map (·.size) = some (nums (sha256 (sha256 b))).length by rw [hsz]; exact info_h)
  have HL := Lib.hid (show (List.replicate 32 (0 : Int)).length = (nums (sha256 (sha256 b))).length by rw [hsz]; rfl)
  have ra4 := RA3.out.below hb4 RA3.out.lt
  have b4 := BA3.out.trans (hb4.mono (by have := BA3.out.size; have := HB0.out; omega))
  have HFIN := Lib.hid (setRow_irow (ys := nums (sha256 (sha256 b))) ra4)
  have HBF := Lib.hid (below_setRow b4 (Nat.le_refl _) ((nums (sha256 (sha256 b))).map (Value.int .u8)).toArray)
  have RA4 := Lib.hid ra4
  clear ra4 b4 hb4 hsz
  unfold digV
  go_wp2_with (refine wpList_store_irow rfl 28 (.tmp 2) (.tmp 7) rfl (g := B0) (t := 28) (k := .u8) (xs := List.replicate 32 0) (ys := nums (sha256 (sha256 b))) rfl rfl RA4.out HI.out HL.out ?_)
  refine bodyPost_ret (v := digV (sha256 (sha256 b))) ?_ rfl ⟨rfl, by rw [← HB0.out]; exact HBF.out⟩
  obtain ⟨fr, hrw⟩ : ∃ fr, ((w4.setRow B0 ((nums (sha256 (sha256 b))).map (Value.int .u8)).toArray)).heap[B0]? = some (.cells ((nums (sha256 (sha256 b))).map (Value.int .u8)).toArray 28 fr) := ⟨_, HFIN.out⟩
  exact results_cell_row Tryd.results15 _ _ B0 28 ((nums (sha256 (sha256 b))).map (Value.int .u8)).toArray fr _ rfl hrw Tryd.underlying28 rfl (by rw [List.size_toArray, List.length_map]; exact HI.out)

end Go.Proofs.YtpcopimbnbmkmaaDoor
