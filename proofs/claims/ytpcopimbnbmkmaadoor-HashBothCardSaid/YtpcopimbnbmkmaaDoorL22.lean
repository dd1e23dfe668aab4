/-
  Texts joined: RmRSum, RB6. Conditions: those of each.
-/
import Derived.Test.YtpcopimbnbmkmaaDoorL21
import Derived.Test.YtpcopimbnbmkmaaDoorL10
import Derived.Deep.CutBlock
import Derived.Test.YtpcopimbnbmkmaaDoorL14
import Derived.Test.YtpcopimbnbmkmaaDoorL18
/-
  The reference's Ripemd, walked. Conditions: sizes within the reach.
-/
namespace Go.Proofs.YtpcopimbnbmkmaaDoor.Rm
open Go.RowKit

theorem info_80 : (Tryd.prog.info? 68).map (·.size) = some 80 := by kernel_rfl
theorem zero_80 (W : World) : (zeroValue 68).run Tryd.prog W = .ok (.agg ((List.replicate 80 (0 : Int)).map (Value.int .i64)).toArray) W := by kernel_rfl
set_option maxRecDepth 100000 in
set_option maxHeartbeats 25600000 in
theorem rripemd_any (B : Nat) (x : Value) (m : List UInt8) (W0 : World) (hb : Byt W0 B x m) (hB : B ≤ W0.heap.size) (hl : m.length ≤ 100000) :
    Calls Tryd.prog 13 #[x] W0 fun e w' => e = .returned (digV (ripemd m)) ∧ Below W0.heap.size W0 w' := by
  obtain ⟨A, c, rfl⟩ := hb.form
  have rA := IRow.new W0 33 .u8 (List.replicate 20 0)
  have bA : Below W0.heap.size W0 (W0.alloc (.cells ((List.replicate 20 (0 : Int)).map (Value.int .u8)).toArray 33)) := (Below.refl _ W0).alloc (Nat.le_refl _) _
  have sA : (W0.alloc (.cells ((List.replicate 20 (0 : Int)).map (Value.int .u8)).toArray 33)).heap.size = W0.heap.size + 1 := by simp
  have HB := Lib.hid hb
  have z80 := zero_80
  have z20 := zero_20
  clear hb
  go_enter Tryd.func13, Tryd.ntmps13
  go_upto_region 1 with fail
  change Code.wp _ _ _ _ (W0.alloc (.cells ((List.replicate 20 (0 : Int)).map (Value.int .u8)).toArray 33))
  obtain ⟨w0, hw0⟩ : ∃ x, x = W0.alloc (.cells ((List.replicate 20 (0 : Int)).map (Value.int .u8)).toArray 33) := ⟨_, rfl⟩
  rw [← hw0] at rA bA sA ⊢
  obtain ⟨B0, hB0⟩ : ∃ B0, B0 = W0.heap.size := ⟨_, rfl⟩
  rw [← hB0] at rA bA sA ⊢
  have HA0 := Lib.hid rA
  have HZ0 := Lib.hid bA
  have HB0 := Lib.hid hB0
  have HL0 := Lib.hid (show B0 < w0.heap.size by omega)
  clear hw0 rA bA sA hB0
  try dsimp only [Act.put]
  have RZ := Lib.hid (IRow.new w0 68 .i64 (List.replicate 80 0))
  go_upto_region 2 with (first | (refine S5.wpList_build_lit rfl 68 _ (.agg (ord1.map (Value.int .i64)).toArray) rfl (fun _ => by kernel_rfl) ?_) | (refine wpList_store_irow rfl 68 (.tmp 3) (.tmp 21) rfl (g := w0.heap.size) (t := 68) (k := .i64) (xs := List.replicate 80 0) (ys := ord1) rfl rfl RZ.out info_80 rfl ?_))
  change Code.wp _ _ _ _ ((w0.alloc (.cells ((List.replicate 80 (0 : Int)).map (Value.int .i64)).toArray 68)).setRow w0.heap.size (ord1.map (Value.int .i64)).toArray)
  obtain ⟨w1, hw1⟩ : ∃ x, x = (w0.alloc (.cells ((List.replicate 80 (0 : Int)).map (Value.int .i64)).toArray 68)).setRow w0.heap.size (ord1.map (Value.int .i64)).toArray := ⟨_, rfl⟩
  have rN : IRow w1 w0.heap.size 68 .i64 ord1 := by rw [hw1]; exact setRow_irow RZ.out
  have bN : Below w0.heap.size w0 w1 := by rw [hw1]; exact below_setRow ((Below.refl _ w0).alloc (Nat.le_refl _) _) (Nat.le_refl _) _
  rw [← hw1]
  obtain ⟨R1, hR1⟩ : ∃ g, g = w0.heap.size := ⟨_, rfl⟩
  rw [← hR1] at rN bN ⊢
  have HL1 := Lib.hid rN.lt
  have HXR1 := Lib.hid (show B0 < R1 by rw [hR1]; exact HL0.out)
  have HA0' := Lib.hid (HA0.out.below bN (by rw [hR1]; exact HA0.out.lt))
  clear HA0
  rename Hid (IRow w1 B0 _ _ _) => HA0
  have HR1 := Lib.hid rN
  have HZ1 := Lib.hid (HZ0.out.trans (bN.mono (by rw [hR1]; exact HZ0.out.size |> fun h => by have := HB0.out; omega)))
  clear hw1 rN bN hR1 RZ HZ0
  try dsimp only [Act.put]
  have RZ := Lib.hid (IRow.new w1 68 .i64 (List.replicate 80 0))
  go_upto_region 3 with (first | (refine S5.wpList_build_lit rfl 68 _ (.agg (ord2.map (Value.int .i64)).toArray) rfl (fun _ => by kernel_rfl) ?_) | (refine wpList_store_irow rfl 68 (.tmp 4) (.tmp 22) rfl (g := w1.heap.size) (t := 68) (k := .i64) (xs := List.replicate 80 0) (ys := ord2) rfl rfl RZ.out info_80 rfl ?_))
  change Code.wp _ _ _ _ ((w1.alloc (.cells ((List.replicate 80 (0 : Int)).map (Value.int .i64)).toArray 68)).setRow w1.heap.size (ord2.map (Value.int .i64)).toArray)
  obtain ⟨w2, hw2⟩ : ∃ x, x = (w1.alloc (.cells ((List.replicate 80 (0 : Int)).map (Value.int .i64)).toArray 68)).setRow w1.heap.size (ord2.map (Value.int .i64)).toArray := ⟨_, rfl⟩
  have rN : IRow w2 w1.heap.size 68 .i64 ord2 := by rw [hw2]; exact setRow_irow RZ.out
  have bN : Below w1.heap.size w1 w2 := by rw [hw2]; exact below_setRow ((Below.refl _ w1).alloc (Nat.le_refl _) _) (Nat.le_refl _) _
  rw [← hw2]
  obtain ⟨R2, hR2⟩ : ∃ g, g = w1.heap.size := ⟨_, rfl⟩
  rw [← hR2] at rN bN ⊢
  have HL2 := Lib.hid rN.lt
  have HXR2 := Lib.hid (show R1 < R2 by rw [hR2]; exact HL1.out)
  have HA0' := Lib.hid (HA0.out.below bN (by rw [hR2]; exact HA0.out.lt))
  clear HA0
  rename Hid (IRow w2 B0 _ _ _) => HA0
  have HR1' := Lib.hid (HR1.out.below bN (by rw [hR2]; exact HR1.out.lt))
  clear HR1
  rename Hid (IRow w2 R1 _ _ _) => HR1
  have HR2 := Lib.hid rN
  have HZ2 := Lib.hid (HZ1.out.trans (bN.mono (by rw [hR2]; exact HZ1.out.size |> fun h => by have := HB0.out; omega)))
  clear hw2 rN bN hR2 RZ HZ1
  try dsimp only [Act.put]
  have RZ := Lib.hid (IRow.new w2 68 .i64 (List.replicate 80 0))
  go_upto_region 4 with (first | (refine S5.wpList_build_lit rfl 68 _ (.agg (turn1.map (Value.int .i64)).toArray) rfl (fun _ => by kernel_rfl) ?_) | (refine wpList_store_irow rfl 68 (.tmp 5) (.tmp 23) rfl (g := w2.heap.size) (t := 68) (k := .i64) (xs := List.replicate 80 0) (ys := turn1) rfl rfl RZ.out info_80 rfl ?_))
  change Code.wp _ _ _ _ ((w2.alloc (.cells ((List.replicate 80 (0 : Int)).map (Value.int .i64)).toArray 68)).setRow w2.heap.size (turn1.map (Value.int .i64)).toArray)
  obtain ⟨w3, hw3⟩ : ∃ x, x = (w2.alloc (.cells ((List.replicate 80 (0 : Int)).map (Value.int .i64)).toArray 68)).setRow w2.heap.size (turn1.map (Value.int .i64)).toArray := ⟨_, rfl⟩
  have rN : IRow w3 w2.heap.size 68 .i64 turn1 := by rw [hw3]; exact setRow_irow RZ.out
  have bN : Below w2.heap.size w2 w3 := by rw [hw3]; exact below_setRow ((Below.refl _ w2).alloc (Nat.le_refl _) _) (Nat.le_refl _) _
  rw [← hw3]
  obtain ⟨S1, hS1⟩ : ∃ g, g = w2.heap.size := ⟨_, rfl⟩
  rw [← hS1] at rN bN ⊢
  have HL3 := Lib.hid rN.lt
  have HXS1 := Lib.hid (show R2 < S1 by rw [hS1]; exact HL2.out)
  have HA0' := Lib.hid (HA0.out.below bN (by rw [hS1]; exact HA0.out.lt))
  clear HA0
  rename Hid (IRow w3 B0 _ _ _) => HA0
  have HR1' := Lib.hid (HR1.out.below bN (by rw [hS1]; exact HR1.out.lt))
  clear HR1
  rename Hid (IRow w3 R1 _ _ _) => HR1
  have HR2' := Lib.hid (HR2.out.below bN (by rw [hS1]; exact HR2.out.lt))
  clear HR2
  rename Hid (IRow w3 R2 _ _ _) => HR2
  have HS1 := Lib.hid rN
  have HZ3 := Lib.hid (HZ2.out.trans (bN.mono (by rw [hS1]; exact HZ2.out.size |> fun h => by have := HB0.out; omega)))
  clear hw3 rN bN hS1 RZ HZ2
  try dsimp only [Act.put]
  have RZ := Lib.hid (IRow.new w3 68 .i64 (List.replicate 80 0))
  go_upto_region 5 with (first | (refine S5.wpList_build_lit rfl 68 _ (.agg (turn2.map (Value.int .i64)).toArray) rfl (fun _ => by kernel_rfl) ?_) | (refine wpList_store_irow rfl 68 (.tmp 6) (.tmp 24) rfl (g := w3.heap.size) (t := 68) (k := .i64) (xs := List.replicate 80 0) (ys := turn2) rfl rfl RZ.out info_80 rfl ?_))
  change Code.wp _ _ _ _ ((w3.alloc (.cells ((List.replicate 80 (0 : Int)).map (Value.int .i64)).toArray 68)).setRow w3.heap.size (turn2.map (Value.int .i64)).toArray)
  obtain ⟨w4, hw4⟩ : ∃ x, x = (w3.alloc (.cells ((List.replicate 80 (0 : Int)).map (Value.int .i64)).toArray 68)).setRow w3.heap.size (turn2.map (Value.int .i64)).toArray := ⟨_, rfl⟩
  have rN : IRow w4 w3.heap.size 68 .i64 turn2 := by rw [hw4]; exact setRow_irow RZ.out
  have bN : Below w3.heap.size w3 w4 := by rw [hw4]; exact below_setRow ((Below.refl _ w3).alloc (Nat.le_refl _) _) (Nat.le_refl _) _
  rw [← hw4]
  obtain ⟨S2, hS2⟩ : ∃ g, g = w3.heap.size := ⟨_, rfl⟩
  rw [← hS2] at rN bN ⊢
  have HL4 := Lib.hid rN.lt
  have HXS2 := Lib.hid (show S1 < S2 by rw [hS2]; exact HL3.out)
  have HA0' := Lib.hid (HA0.out.below bN (by rw [hS2]; exact HA0.out.lt))
  clear HA0
  rename Hid (IRow w4 B0 _ _ _) => HA0
  have HR1' := Lib.hid (HR1.out.below bN (by rw [hS2]; exact HR1.out.lt))
  clear HR1
  rename Hid (IRow w4 R1 _ _ _) => HR1
  have HR2' := Lib.hid (HR2.out.below bN (by rw [hS2]; exact HR2.out.lt))
  clear HR2
  rename Hid (IRow w4 R2 _ _ _) => HR2
  have HS1' := Lib.hid (HS1.out.below bN (by rw [hS2]; exact HS1.out.lt))
  clear HS1
  rename Hid (IRow w4 S1 _ _ _) => HS1
  have HS2 := Lib.hid rN
  have HZ4 := Lib.hid (HZ3.out.trans (bN.mono (by rw [hS2]; exact HZ3.out.size |> fun h => by have := HB0.out; omega)))
  clear hw4 rN bN hS2 RZ HZ3
  try dsimp only [Act.put]
  have RZ := Lib.hid (IRow.new w4 57 .u32 (List.replicate 5 0))
  go_upto_region 6 with (refine wpList_store_irow rfl 57 (.tmp 7) (.tmp 25) rfl (g := w4.heap.size) (t := 57) (k := .u32) (xs := List.replicate 5 0) (ys := add1) rfl rfl RZ.out info_5 rfl ?_)
  change Code.wp _ _ _ _ ((w4.alloc (.cells ((List.replicate 5 (0 : Int)).map (Value.int .u32)).toArray 57)).setRow w4.heap.size (add1.map (Value.int .u32)).toArray)
  obtain ⟨w5, hw5⟩ : ∃ x, x = (w4.alloc (.cells ((List.replicate 5 (0 : Int)).map (Value.int .u32)).toArray 57)).setRow w4.heap.size (add1.map (Value.int .u32)).toArray := ⟨_, rfl⟩
  have rN : IRow w5 w4.heap.size 57 .u32 add1 := by rw [hw5]; exact setRow_irow RZ.out
  have bN : Below w4.heap.size w4 w5 := by rw [hw5]; exact below_setRow ((Below.refl _ w4).alloc (Nat.le_refl _) _) (Nat.le_refl _) _
  rw [← hw5]
  obtain ⟨K1, hK1⟩ : ∃ g, g = w4.heap.size := ⟨_, rfl⟩
  rw [← hK1] at rN bN ⊢
  have HL5 := Lib.hid rN.lt
  have HXK1 := Lib.hid (show S2 < K1 by rw [hK1]; exact HL4.out)
  have HA0' := Lib.hid (HA0.out.below bN (by rw [hK1]; exact HA0.out.lt))
  clear HA0
  rename Hid (IRow w5 B0 _ _ _) => HA0
  have HR1' := Lib.hid (HR1.out.below bN (by rw [hK1]; exact HR1.out.lt))
  clear HR1
  rename Hid (IRow w5 R1 _ _ _) => HR1
  have HR2' := Lib.hid (HR2.out.below bN (by rw [hK1]; exact HR2.out.lt))
  clear HR2
  rename Hid (IRow w5 R2 _ _ _) => HR2
  have HS1' := Lib.hid (HS1.out.below bN (by rw [hK1]; exact HS1.out.lt))
  clear HS1
  rename Hid (IRow w5 S1 _ _ _) => HS1
  have HS2' := Lib.hid (HS2.out.below bN (by rw [hK1]; exact HS2.out.lt))
  clear HS2
  rename Hid (IRow w5 S2 _ _ _) => HS2
  have HK1 := Lib.hid rN
  have HZ5 := Lib.hid (HZ4.out.trans (bN.mono (by rw [hK1]; exact HZ4.out.size |> fun h => by have := HB0.out; omega)))
  clear hw5 rN bN hK1 RZ HZ4
  try dsimp only [Act.put]
  have RZ := Lib.hid (IRow.new w5 57 .u32 (List.replicate 5 0))
  go_upto_region 7 with (refine wpList_store_irow rfl 57 (.tmp 8) (.tmp 26) rfl (g := w5.heap.size) (t := 57) (k := .u32) (xs := List.replicate 5 0) (ys := add2) rfl rfl RZ.out info_5 rfl ?_)
  change Code.wp _ _ _ _ ((w5.alloc (.cells ((List.replicate 5 (0 : Int)).map (Value.int .u32)).toArray 57)).setRow w5.heap.size (add2.map (Value.int .u32)).toArray)
  obtain ⟨w6, hw6⟩ : ∃ x, x = (w5.alloc (.cells ((List.replicate 5 (0 : Int)).map (Value.int .u32)).toArray 57)).setRow w5.heap.size (add2.map (Value.int .u32)).toArray := ⟨_, rfl⟩
  have rN : IRow w6 w5.heap.size 57 .u32 add2 := by rw [hw6]; exact setRow_irow RZ.out
  have bN : Below w5.heap.size w5 w6 := by rw [hw6]; exact below_setRow ((Below.refl _ w5).alloc (Nat.le_refl _) _) (Nat.le_refl _) _
  rw [← hw6]
  obtain ⟨K2, hK2⟩ : ∃ g, g = w5.heap.size := ⟨_, rfl⟩
  rw [← hK2] at rN bN ⊢
  have HL6 := Lib.hid rN.lt
  have HXK2 := Lib.hid (show K1 < K2 by rw [hK2]; exact HL5.out)
  have HA0' := Lib.hid (HA0.out.below bN (by rw [hK2]; exact HA0.out.lt))
  clear HA0
  rename Hid (IRow w6 B0 _ _ _) => HA0
  have HR1' := Lib.hid (HR1.out.below bN (by rw [hK2]; exact HR1.out.lt))
  clear HR1
  rename Hid (IRow w6 R1 _ _ _) => HR1
  have HR2' := Lib.hid (HR2.out.below bN (by rw [hK2]; exact HR2.out.lt))
  clear HR2
  rename Hid (IRow w6 R2 _ _ _) => HR2
  have HS1' := Lib.hid (HS1.out.below bN (by rw [hK2]; exact HS1.out.lt))
  clear HS1
  rename Hid (IRow w6 S1 _ _ _) => HS1
  have HS2' := Lib.hid (HS2.out.below bN (by rw [hK2]; exact HS2.out.lt))
  clear HS2
  rename Hid (IRow w6 S2 _ _ _) => HS2
  have HK1' := Lib.hid (HK1.out.below bN (by rw [hK2]; exact HK1.out.lt))
  clear HK1
  rename Hid (IRow w6 K1 _ _ _) => HK1
  have HK2 := Lib.hid rN
  have HZ6 := Lib.hid (HZ5.out.trans (bN.mono (by rw [hK2]; exact HZ5.out.size |> fun h => by have := HB0.out; omega)))
  clear hw6 rN bN hK2 RZ HZ5
  try dsimp only [Act.put]
  have RZ := Lib.hid (IRow.new w6 57 .u32 (List.replicate 5 0))
  go_upto_region 8 with (refine wpList_store_irow rfl 57 (.tmp 9) (.tmp 27) rfl (g := w6.heap.size) (t := 57) (k := .u32) (xs := List.replicate 5 0) (ys := startR.list) rfl rfl RZ.out info_5 rfl ?_)
  change Code.wp _ _ _ _ ((w6.alloc (.cells ((List.replicate 5 (0 : Int)).map (Value.int .u32)).toArray 57)).setRow w6.heap.size (startR.list.map (Value.int .u32)).toArray)
  obtain ⟨w7, hw7⟩ : ∃ x, x = (w6.alloc (.cells ((List.replicate 5 (0 : Int)).map (Value.int .u32)).toArray 57)).setRow w6.heap.size (startR.list.map (Value.int .u32)).toArray := ⟨_, rfl⟩
  have rN : IRow w7 w6.heap.size 57 .u32 startR.list := by rw [hw7]; exact setRow_irow RZ.out
  have bN : Below w6.heap.size w6 w7 := by rw [hw7]; exact below_setRow ((Below.refl _ w6).alloc (Nat.le_refl _) _) (Nat.le_refl _) _
  rw [← hw7]
  obtain ⟨BH, hBH⟩ : ∃ g, g = w6.heap.size := ⟨_, rfl⟩
  rw [← hBH] at rN bN ⊢
  have HL7 := Lib.hid rN.lt
  have HXBH := Lib.hid (show K2 < BH by rw [hBH]; exact HL6.out)
  have HA0' := Lib.hid (HA0.out.below bN (by rw [hBH]; exact HA0.out.lt))
  clear HA0
  rename Hid (IRow w7 B0 _ _ _) => HA0
  have HR1' := Lib.hid (HR1.out.below bN (by rw [hBH]; exact HR1.out.lt))
  clear HR1
  rename Hid (IRow w7 R1 _ _ _) => HR1
  have HR2' := Lib.hid (HR2.out.below bN (by rw [hBH]; exact HR2.out.lt))
  clear HR2
  rename Hid (IRow w7 R2 _ _ _) => HR2
  have HS1' := Lib.hid (HS1.out.below bN (by rw [hBH]; exact HS1.out.lt))
  clear HS1
  rename Hid (IRow w7 S1 _ _ _) => HS1
  have HS2' := Lib.hid (HS2.out.below bN (by rw [hBH]; exact HS2.out.lt))
  clear HS2
  rename Hid (IRow w7 S2 _ _ _) => HS2
  have HK1' := Lib.hid (HK1.out.below bN (by rw [hBH]; exact HK1.out.lt))
  clear HK1
  rename Hid (IRow w7 K1 _ _ _) => HK1
  have HK2' := Lib.hid (HK2.out.below bN (by rw [hBH]; exact HK2.out.lt))
  clear HK2
  rename Hid (IRow w7 K2 _ _ _) => HK2
  have HBH := Lib.hid rN
  have HZ7 := Lib.hid (HZ6.out.trans (bN.mono (by rw [hBH]; exact HZ6.out.size |> fun h => by have := HB0.out; omega)))
  clear hw7 rN bN hBH RZ HZ6
  try dsimp only [Act.put]
  have C := Lib.hid (fillR_any B _ m w7 (HB.out.below (HZ7.out.mono (by rw [HB0.out]; exact hB))) (by have := HZ7.out.size; omega) (by omega) (by omega))
  go_wp2_with fail
  refine C.out.mono ?_
  rintro e w2 ⟨v, rfl, hown, hb2⟩
  rw [fillG_R] at hown
  obtain ⟨FM, hF⟩ : ∃ FM, FM = fullR m := ⟨_, rfl⟩
  rw [← hF] at hown
  obtain ⟨M, hM⟩ : ∃ M, M = FM.length := ⟨_, rfl⟩
  have hMl : M = m.length + ((119 - m.length % 64) % 64 + 9) := by rw [hM, hF]; unfold fullR; rw [List.length_append, padR_length]
  have hMb : M ≤ 100200 := by omega
  have hM64 : M % 64 = 0 := by rw [hM, hF]; exact fullR_blocks m
  have hMp : 0 < M := by omega
  obtain ⟨gm, cm, rfl, hgm, hgs, hcm⟩ := hown.block (by omega)
  have hcap : cm ≤ 9223372036854775807 := by
    obtain ⟨_, c', e, _, h2, _⟩ := hown.byt
    injection e with _ _ e3
    subst e3
    unfold maxLen at h2
    exact h2
  have hcell : ∀ (j : Nat) (u : UInt8), FM[j]? = some u → w2.cell? ⟨gm, j, none⟩ = some (bv u) := fun j u hu => hown.cell hu
  have QA0 := Lib.hid (HA0.out.below hb2 HA0.out.lt)
  have QR1 := Lib.hid (HR1.out.below hb2 HR1.out.lt)
  have QR2 := Lib.hid (HR2.out.below hb2 HR2.out.lt)
  have QS1 := Lib.hid (HS1.out.below hb2 HS1.out.lt)
  have QS2 := Lib.hid (HS2.out.below hb2 HS2.out.lt)
  have QK1 := Lib.hid (HK1.out.below hb2 HK1.out.lt)
  have QK2 := Lib.hid (HK2.out.below hb2 HK2.out.lt)
  have QBH := Lib.hid (HBH.out.below hb2 HBH.out.lt)
  have b2 := HZ7.out.trans (hb2.mono (HZ7.out.size |> fun h => by have := HB0.out; omega))
  have hgH : BH < gm := by have := HL7.out; omega
  rw [← hM] at hcm ⊢
  have x1 := HXR1.out
  have x2 := HXR2.out
  have x3 := HXS1.out
  have x4 := HXS2.out
  have x5 := HXK1.out
  have x6 := HXK2.out
  have x7 := HXBH.out
  have HF := Lib.hid hF
  have HM := Lib.hid hM
  have HC := Lib.hid hcell
  have B2 := Lib.hid b2
  have G2 := Lib.hid hgs
  clear hown hb2 hF hM hMl hcell b2 hgs C HR1 HR2 HS1 HS2 HK1 HK2 HBH HA0 HZ7 HL0 HL1 HL2 HL3 HL4 HL5 HL6 HL7 HXR1 HXR2 HXS1 HXS2 HXK1 HXK2 HXBH
  go_wp2_with fail
  go_loopw [11] (fun v11 wr => ∃ q : Nat, 64 * q ≤ M ∧ v11 = .int .i64 ((64 * q : Nat) : Int) ∧ IRow wr BH 57 .u32 (blocksR FM q).list ∧ Turns (· = BH) w2 wr) (fun v11 _ => M - (intOf v11).toNat)
  case atStart => exact ⟨0, by omega, rfl, QBH.out, Turns.refl _ _⟩
  case round =>
    obtain ⟨q, hq, rfl, rH, tH⟩ := hrel
    obtain ⟨p, hp⟩ : ∃ p, p = 64 * q := ⟨_, rfl⟩
    rw [← hp]
    obtain ⟨w3, hw3⟩ : ∃ w3 : World, w3 = wr := ⟨_, rfl⟩
    rw [← hw3] at rH tH ⊢
    clear hw3
    have R3 := Lib.hid rH
    have T3 := Lib.hid tH
    have HP := Lib.hid hp
    clear rH tH hp
    by_cases hlt : p < M
    · obtain ⟨bs, hbs⟩ : ∃ bs, bs = (FM.drop (64 * q)).take 64 := ⟨_, rfl⟩
      have hbl : bs.length = 64 := by rw [hbs, List.length_take, List.length_drop, ← HM.out]; have := HP.out; omega
      have hbc : ∀ wx, Turns (· = BH) w2 wx → ∀ (j : Nat) (u : UInt8), bs[j]? = some u → wx.cell? ⟨gm, p + j, none⟩ = some (bv u) := fun wx ht j u hu => by
        refine (ht.cell (p := ⟨gm, p + j, none⟩) G2.out (by show gm ≠ BH; omega)).trans (HC.out _ _ ?_)
        rw [hbs, List.getElem?_take] at hu
        split at hu
        · rw [List.getElem?_drop] at hu; rw [HP.out]; exact hu
        · exact absurd hu (by simp)
      have HBS := Lib.hid hbs
      have HBL := Lib.hid hbl
      have HBC := Lib.hid hbc
      clear hbs hbl hbc
      have rW := IRow.new w3 69 .u32 (List.replicate 16 0)
      have bW : Below w3.heap.size w3 (w3.alloc (.cells ((List.replicate 16 (0 : Int)).map (Value.int .u32)).toArray 69)) := (Below.refl _ w3).alloc (Nat.le_refl _) _
      have RW0 := Lib.hid rW
      have BW0 := Lib.hid bW
      clear rW bW
      go_upto_block 2 with fail
      change Code.wp _ _ _ _ (w3.alloc (.cells ((List.replicate 16 (0 : Int)).map (Value.int .u32)).toArray 69))
      obtain ⟨w4, hw4⟩ : ∃ x, x = w3.alloc (.cells ((List.replicate 16 (0 : Int)).map (Value.int .u32)).toArray 69) := ⟨_, rfl⟩
      rw [← hw4] at RW0 BW0 ⊢
      obtain ⟨W, hW⟩ : ∃ W, W = w3.heap.size := ⟨_, rfl⟩
      rw [← hW] at RW0 BW0 ⊢
      have hWH : BH < W := by have := T3.out.size; have := G2.out; omega
      have hWm : gm < W := by have := T3.out.size; have := G2.out; omega
      have HW := Lib.hid hW
      clear hw4 hW
      try dsimp only [Act.put]
      have hbc4 : ∀ (j : Nat) (u : UInt8), bs[j]? = some u → w4.cell? ⟨gm, p + j, none⟩ = some (bv u) := fun j u hu => (BW0.out.cell (p := ⟨gm, p + j, none⟩) hWm).trans (HBC.out w3 T3.out j u hu)
      refine rb2_any W gm p M cm bs w4 HBL.out (by have := HP.out; omega) hMb hWm RW0.out hbc4 _ _ _ _ _ _ _ _ _ _ _ _ _ _ _ _ _ _ _ _ _ _ _ _ _ _ _ _ _ _ _ _ _ _ _ _ _ _ _ _ _ _ _ _ _ _ _ _ _ _ _ _ _ _ _ _ _ _ _ _ _ _ _ _ _ _ _ _ _ _ _ _ _ _ _ _ _ _ _ _ _ _ _ _ _ _ _ _ _ _ _ _ _ _ _ _ _ _ _ _ _ _ _ _ _ _ _ _ _ _ _ _ _ _ _ _ _ _ _ _ _ _ _ _ _ _ _ _ _ _ _ _ _ _ _ _ _ _ _ _ _ _ _ _ _ _ _ _ _ _ _ _ _ _ _ _ _ _ _ _ _ _ _ _ _ _ _ _ _ _ _ _ _ _ _ _ _ _ _ _ _ _ _ _ _ _ _ _ _ _ _ _ _ _ _ _ _ _ _ _ _ _ _ _ (fun _ _ _ _ _ h => h) (fun v2_13 v2_14 v2_36 v2_37 v2_38 v2_39 v2_40 v2_41 v2_42 v2_43 v2_44 v2_45 v2_46 v2_47 v2_48 v2_49 v2_50 v2_51 v2_52 v2_53 v2_54 v2_55 v2_56 v2_57 v2_58 v2_59 v2_60 w5 r5 b5 => ?_)
      have hb35 := BW0.out.trans b5
      have t5 : Turns (· = BH) w2 w5 := T3.out.trans (Turns.of_below (S := (· = BH)) (by rw [← HW.out]; exact hb35)) (fun _ _ h => h)
      have R5 := Lib.hid r5
      have T5 := Lib.hid t5
      obtain ⟨sq, hsq⟩ : ∃ sq, sq = blocksR FM q := ⟨_, rfl⟩
      rw [← hsq] at R3
      have HSQ := Lib.hid hsq
      have RH5 := Lib.hid (R3.out.below hb35 hWH)
      have RZ5 := Lib.hid (IRow.new w5 57 .u32 (List.replicate 5 0))
      have L5 := Lib.hid r5.lt
      clear r5 b5 hbc4 hb35 t5 hsq
      go_upto_region 21 with (first
        | (refine wpList_load_irow rfl 57 (.tmp 9) rfl (g := BH) (t := 57) (k := .u32) (xs := sq.list) rfl RH5.out Tryd.underlying57 info_5 ?_)
        | (refine wpList_store_irow rfl 57 (.tmp 15) (.tmp 61) rfl (g := w5.heap.size) (t := 57) (k := .u32) (xs := List.replicate 5 0) (ys := sq.list) rfl rfl RZ5.out info_5 rfl ?_))
      change Code.wp _ _ _ _ ((w5.alloc (.cells ((List.replicate 5 (0 : Int)).map (Value.int .u32)).toArray 57)).setRow w5.heap.size (sq.list.map (Value.int .u32)).toArray)
      obtain ⟨w6, hw6⟩ : ∃ x, x = (w5.alloc (.cells ((List.replicate 5 (0 : Int)).map (Value.int .u32)).toArray 57)).setRow w5.heap.size (sq.list.map (Value.int .u32)).toArray := ⟨_, rfl⟩
      have r6 : IRow w6 w5.heap.size 57 .u32 sq.list := by rw [hw6]; exact setRow_irow RZ5.out
      have b6 : Below w5.heap.size w5 w6 := by rw [hw6]; exact below_setRow ((Below.refl _ w5).alloc (Nat.le_refl _) _) (Nat.le_refl _) _
      rw [← hw6]
      obtain ⟨GP, hGP⟩ : ∃ g, g = w5.heap.size := ⟨_, rfl⟩
      rw [← hGP] at r6 b6 ⊢
      have hWP : W < GP := by rw [hGP]; exact L5.out
      have T6 := Lib.hid (T5.out.trans (Turns.of_below (S := (· = BH)) (by rw [← hGP]; exact b6)) (fun _ _ h => h))
      have R6 := Lib.hid (R5.out.below b6 hWP)
      have RH6 := Lib.hid (RH5.out.below b6 (by omega))
      have RP6 := Lib.hid r6
      have RZ6 := Lib.hid (IRow.new w6 57 .u32 (List.replicate 5 0))
      clear hw6 hGP r6 b6 RZ5 L5 R5 RH5 T5
      try dsimp only [Act.put]
      go_upto_block 6 with (first
        | (refine wpList_load_irow rfl 57 (.tmp 9) rfl (g := BH) (t := 57) (k := .u32) (xs := sq.list) rfl RH6.out Tryd.underlying57 info_5 ?_)
        | (refine wpList_store_irow rfl 57 (.tmp 16) (.tmp 62) rfl (g := w6.heap.size) (t := 57) (k := .u32) (xs := List.replicate 5 0) (ys := sq.list) rfl rfl RZ6.out info_5 rfl ?_))
      change Code.wp _ _ _ _ ((w6.alloc (.cells ((List.replicate 5 (0 : Int)).map (Value.int .u32)).toArray 57)).setRow w6.heap.size (sq.list.map (Value.int .u32)).toArray)
      obtain ⟨w7x, hw7x⟩ : ∃ x, x = (w6.alloc (.cells ((List.replicate 5 (0 : Int)).map (Value.int .u32)).toArray 57)).setRow w6.heap.size (sq.list.map (Value.int .u32)).toArray := ⟨_, rfl⟩
      have r7 : IRow w7x w6.heap.size 57 .u32 sq.list := by rw [hw7x]; exact setRow_irow RZ6.out
      have b7 : Below w6.heap.size w6 w7x := by rw [hw7x]; exact below_setRow ((Below.refl _ w6).alloc (Nat.le_refl _) _) (Nat.le_refl _) _
      rw [← hw7x]
      obtain ⟨GQ, hGQ⟩ : ∃ g, g = w6.heap.size := ⟨_, rfl⟩
      rw [← hGQ] at r7 b7 ⊢
      have hPQ : GP < GQ := by rw [hGQ]; exact RP6.out.lt
      have t7 := T6.out.trans (Turns.of_below (S := (· = BH)) (by rw [← hGQ]; exact b7)) (fun _ _ h => h)
      have rW7 := R6.out.below b7 (by omega)
      have rP7 := RP6.out.below b7 hPQ
      have RH7 := Lib.hid (RH6.out.below b7 (by omega))
      have T7 := Lib.hid t7
      have hoks : sq.Ok := by rw [HSQ.out]; exact blocksR_ok _ _
      try dsimp only [Act.put]
      refine rb6_any R1 R2 S1 S2 K1 K2 W GP GQ (wordsR bs 16) sq w7x hoks (wordsR_length _ _) hPQ (by omega) (by omega) (by omega) (by omega) (by omega) (by omega) hWP (QR1.out.turns t7 (by omega)) (QR2.out.turns t7 (by omega)) (QS1.out.turns t7 (by omega)) (QS2.out.turns t7 (by omega)) (QK1.out.turns t7 (by omega)) (QK2.out.turns t7 (by omega)) rW7 rP7 r7 _ _ _ _ _ _ _ _ _ _ _ _ _ _ _ _ _ _ _ _ _ _ _ _ _ _ _ _ _ _ _ _ _ _ _ _ _ _ _ _ _ _ _ _ _ _ _ _ _ _ _ _ _ _ _ _ _ _ _ _ _ _ _ _ _ _ _ _ _ _ _ _ _ _ _ _ _ _ _ _ _ _ _ _ _ _ _ _ _ _ _ _ _ _ _ _ _ _ _ _ _ _ _ _ _ _ _ _ _ _ _ _ _ _ _ _ _ _ _ _ _ _ _ _ _ _ _ _ _ _ _ _ _ _ _ _ _ _ _ _ _ _ _ _ _ _ _ _ _ _ _ _ _ _ _ _ _ _ _ _ _ _ _ _ _ _ _ _ _ _ _ _ _ _ _ _ _ _ _ _ _ _ _ _ _ _ _ _ _ _ _ _ _ _ _ _ _ _ (fun _ _ _ _ _ h => h) (fun v6_17 v6_18 v6_63 v6_64 v6_65 v6_66 v6_67 v6_68 v6_69 v6_70 v6_71 v6_72 v6_73 v6_74 v6_75 v6_76 v6_77 v6_78 v6_79 v6_80 v6_81 v6_82 v6_83 v6_84 v6_85 v6_86 v6_87 v6_88 v6_89 v6_90 v6_91 v6_92 v6_93 v6_94 v6_95 v6_96 v6_97 v6_98 v6_99 v6_100 v6_101 v6_102 v6_103 v6_104 v6_105 v6_106 v6_107 v6_108 v6_109 v6_110 v6_111 v6_112 v6_113 v6_114 v6_115 v6_116 v6_117 v6_118 v6_119 v6_120 v6_121 v6_122 v6_123 v6_124 v6_125 v6_126 v6_127 v6_128 v6_129 v6_130 v6_131 v6_132 v6_133 v6_134 v6_135 v6_136 v6_137 v6_138 v6_139 v6_140 v6_141 v6_142 v6_143 v6_144 v6_145 v6_146 v6_147 v6_148 v6_149 w8 r8 r8q b8 => ?_)
      have h2W : w2.heap.size ≤ W := by rw [HW.out]; exact T3.out.size
      have t8 : Turns (· = BH) w2 w8 := ⟨b8.os.trans T7.out.os, b8.tape.trans T7.out.tape, b8.output.trans T7.out.output, Nat.le_trans T7.out.size b8.size, fun k hk hn => (b8.block k (by omega)).trans (T7.out.block k hk hn)⟩
      have rH8 := RH7.out.below b8 (by omega)
      obtain ⟨pp, hpp⟩ : ∃ z, z = line1 (wordsR bs 16) 80 sq := ⟨_, rfl⟩
      obtain ⟨qq, hqq⟩ : ∃ z, z = line2 (wordsR bs 16) 80 sq := ⟨_, rfl⟩
      rw [← hpp] at r8
      rw [← hqq] at r8q
      have hn0 := rH8.cell (i := 0) rfl
      have hn1 := rH8.cell (i := 1) rfl
      have hn2 := rH8.cell (i := 2) rfl
      have hn3 := rH8.cell (i := 3) rfl
      have hn4 := rH8.cell (i := 4) rfl
      have hp0 := r8.cell (i := 0) rfl
      have hp1 := r8.cell (i := 1) rfl
      have hp2 := r8.cell (i := 2) rfl
      have hp3 := r8.cell (i := 3) rfl
      have hp4 := r8.cell (i := 4) rfl
      have hq0 := r8q.cell (i := 0) rfl
      have hq1 := r8q.cell (i := 1) rfl
      have hq2 := r8q.cell (i := 2) rfl
      have hq3 := r8q.cell (i := 3) rfl
      have hq4 := r8q.cell (i := 4) rfl
      have RH8 := Lib.hid rH8
      have T8 := Lib.hid t8
      have HPP := Lib.hid hpp
      have HQQ := Lib.hid hqq
      clear r8 r8q b8 rH8 t8 hpp hqq rW7 rP7 r7 b7 t7 hw7x hGQ
      have eJ : [(( sq.b + pp.c) % 4294967296 + qq.d) % 4294967296, ((sq.c + pp.d) % 4294967296 + qq.e) % 4294967296, ((sq.d + pp.e) % 4294967296 + qq.a) % 4294967296, ((sq.e + pp.a) % 4294967296 + qq.b) % 4294967296, ((sq.a + pp.b) % 4294967296 + qq.c) % 4294967296] = (joinR sq pp qq).list := rfl
      have eJ2 : [(sq.b + pp.c + qq.d) % 4294967296, (sq.c + pp.d + qq.e) % 4294967296, (sq.d + pp.e + qq.a) % 4294967296, (sq.e + pp.a + qq.b) % 4294967296, (sq.a + pp.b + qq.c) % 4294967296] = (joinR sq pp qq).list := by
        rw [← eJ]
        simp only [List.cons.injEq, and_true]
        omega
      have EJ := Lib.hid eJ
      have EJ2 := Lib.hid eJ2
      clear eJ eJ2
      have ep : IntKind.i64.wrap ((p : Int) + 64) = (p : Int) + 64 := by rw [IntWalk.i64_in _ (by omega)]
      go_wp2_with (first
        | (refine wpList_store_irow rfl 57 (.tmp 9) (.tmp 190) rfl (g := BH) (t := 57) (k := .u32) (xs := sq.list) (ys := [(sq.b + pp.c + qq.d) % 4294967296, (sq.c + pp.d + qq.e) % 4294967296, (sq.d + pp.e + qq.a) % 4294967296, (sq.e + pp.a + qq.b) % 4294967296, (sq.a + pp.b + qq.c) % 4294967296]) rfl rfl RH8.out info_5 rfl ?_))
      have e9 : [(sq.b + pp.c + qq.d) % 4294967296, (sq.c + pp.d + qq.e) % 4294967296, (sq.d + pp.e + qq.a) % 4294967296, (sq.e + pp.a + qq.b) % 4294967296, (sq.a + pp.b + qq.c) % 4294967296] = (blocksR FM (q + 1)).list := by
        rw [EJ2.out, blocksR, ← HSQ.out, ← HBS.out]
        unfold compR
        rw [← HPP.out, ← HQQ.out]
      have r9 := setRow_irow (ys := [(sq.b + pp.c + qq.d) % 4294967296, (sq.c + pp.d + qq.e) % 4294967296, (sq.d + pp.e + qq.a) % 4294967296, (sq.e + pp.a + qq.b) % 4294967296, (sq.a + pp.b + qq.c) % 4294967296]) RH8.out
      have t9 := T8.out.setRow (g := BH) (fun _ => rfl) ([(sq.b + pp.c + qq.d) % 4294967296, (sq.c + pp.d + qq.e) % 4294967296, (sq.d + pp.e + qq.a) % 4294967296, (sq.e + pp.a + qq.b) % 4294967296, (sq.a + pp.b + qq.c) % 4294967296].map (Value.int .u32)).toArray
      exact ⟨⟨q + 1, by have := HP.out; omega, by have := HP.out; exact congrArg (Value.int .i64) (by omega), by rw [← e9]; exact r9, t9⟩, by simp [intOf]; omega⟩
    · have hpM : p = M := by have := HP.out; omega
      have hd : ¬ (p : Int) < (M : Int) := by omega
      have hqM : q = FM.length / 64 := by rw [← HM.out]; have := HP.out; omega
      have hsha : ripemd m = outR (blocksR FM q).list := by rw [hqM, HF.out]; rfl
      have hoks : (blocksR FM q).Ok := blocksR_ok _ _
      obtain ⟨sq, hsq⟩ : ∃ sq, sq = blocksR FM q := ⟨_, rfl⟩
      rw [← hsq] at R3 hsha hoks
      have rG := IRow.new w3 33 .u8 (List.replicate 20 0)
      have bG : Below w3.heap.size w3 (w3.alloc (.cells ((List.replicate 20 (0 : Int)).map (Value.int .u8)).toArray 33)) := (Below.refl _ w3).alloc (Nat.le_refl _) _
      have RG := Lib.hid rG
      have BG := Lib.hid bG
      have HSHA := Lib.hid hsha
      have HOKS := Lib.hid hoks
      clear rG bG hqM hsha hoks hsq
      go_upto_block 8 with fail
      change Code.wp _ _ _ _ (w3.alloc (.cells ((List.replicate 20 (0 : Int)).map (Value.int .u8)).toArray 33))
      obtain ⟨w4, hw4⟩ : ∃ x, x = w3.alloc (.cells ((List.replicate 20 (0 : Int)).map (Value.int .u8)).toArray 33) := ⟨_, rfl⟩
      rw [← hw4] at RG BG ⊢
      obtain ⟨G, hG⟩ : ∃ G, G = w3.heap.size := ⟨_, rfl⟩
      rw [← hG] at RG BG ⊢
      have hHG : BH < G := by have := T3.out.size; have := G2.out; omega
      have hb23 : Below B0 w2 w3 := T3.out.below_of (by have := G2.out; omega) (by intro i hi h; omega)
      have hb4 := B2.out.trans (hb23.trans (BG.out.mono (by omega)))
      have rA4 := (QA0.out.turns T3.out (by omega)).below BG.out (by omega)
      have RA4 := Lib.hid rA4
      have B4 := Lib.hid hb4
      clear hw4 hG hb23 hb4 rA4
      try dsimp only [Act.put]
      refine rb8_any BH G sq w4 HOKS.out hHG (R3.out.below BG.out hHG) RG.out _ _ _ _ _ _ _ _ _ _ _ _ _ _ _ _ _ _ _ _ _ _ _ _ _ _ _ _ _ _ _ _ _ _ _ _ _ _ _ _ _ _ _ _ _ _ _ _ _ _ _ _ _ _ _ _ _ _ _ _ _ _ _ _ _ _ _ _ _ _ _ _ _ _ _ _ _ _ _ _ _ _ _ _ _ _ _ _ _ _ _ _ _ _ _ _ _ _ _ _ _ _ _ _ _ _ _ _ _ _ _ _ _ _ _ _ _ _ _ _ _ _ _ _ _ _ _ _ _ _ _ _ _ _ _ _ _ _ _ _ _ _ _ _ _ _ _ _ _ _ _ _ _ _ _ _ _ _ _ _ _ _ _ _ _ _ _ _ _ _ _ _ _ _ _ _ _ _ _ _ _ _ _ _ _ _ _ _ _ _ _ _ _ _ _ _ _ _ _ _ _ _ _ _ _ (fun _ _ _ _ _ h => h) (fun v8_20 v8_191 v8_192 v8_193 v8_194 v8_195 v8_196 v8_197 v8_198 v8_199 v8_200 v8_201 v8_202 v8_203 v8_204 v8_205 v8_206 w5 r5 b5 => ?_)
      rw [← HSHA.out] at r5
      have hB0G : B0 < G := by omega
      have hsz : (nums (ripemd m)).length = 20 := by rw [nums_length, ripemd_length]
      have HI := Lib.hid (show (Tryd.prog.info? 33).map (·.size) = some (nums (ripemd m)).length by rw [hsz]; exact info_20)
      have HL := Lib.hid (show (List.replicate 20 (0 : Int)).length = (nums (ripemd m)).length by rw [hsz]; rfl)
      have rA5 := RA4.out.below b5 hB0G
      have hb5 := B4.out.trans (b5.mono (by omega : B0 ≤ G))
      have R5 := Lib.hid r5
      have RA5 := Lib.hid rA5
      have HFIN := Lib.hid (setRow_irow (ys := nums (ripemd m)) rA5)
      have HBF := Lib.hid (below_setRow hb5 (Nat.le_refl _) ((nums (ripemd m)).map (Value.int .u8)).toArray)
      clear r5 b5 rA5 hb5 hsz
      go_wp2_with (first
        | (refine wpList_load_irow rfl 33 (.tmp 19) rfl (g := G) (t := 33) (k := .u8) (xs := nums (ripemd m)) rfl R5.out Tryd.underlying33 HI.out ?_)
        | (refine wpList_store_irow rfl 33 (.tmp 2) (.tmp 207) rfl (g := B0) (t := 33) (k := .u8) (xs := List.replicate 20 0) (ys := nums (ripemd m)) rfl rfl RA5.out HI.out HL.out ?_))
      refine bodyPost_ret (v := digV (ripemd m)) ?_ rfl ⟨rfl, by rw [← HB0.out]; exact HBF.out⟩
      obtain ⟨fr, hrw⟩ : ∃ fr, ((w5.setRow B0 ((nums (ripemd m)).map (Value.int .u8)).toArray)).heap[B0]? = some (.cells ((nums (ripemd m)).map (Value.int .u8)).toArray 33 fr) := ⟨_, HFIN.out⟩
      exact results_cell_row Tryd.results13 _ _ B0 33 ((nums (ripemd m)).map (Value.int .u8)).toArray fr _ rfl hrw Tryd.underlying33 rfl (by rw [List.size_toArray, List.length_map]; exact HI.out)
end Go.Proofs.YtpcopimbnbmkmaaDoor.Rm

/-
  The reference's Sum256: a block's sixty-four words. Conditions: none.
-/
namespace Go.Proofs.YtpcopimbnbmkmaaDoor
open Go.RowKit

set_option maxRecDepth 1000000 in
set_option maxHeartbeats 6400000 in
theorem rb6_any {Q : Exit → Act → World → Prop} (W : Nat) (bs : List UInt8) (w5 : World) (r0 : IRow w5 W 49 .u32 (padZ 64 (words16 bs))) (u0 u1 u2 u3 u4 u5 u6 u8 u9 u11 u12 u13 u14 u15 u16 u17 u18 u19 u20 u21 u22 u23 u24 u25 u26 u27 u28 u29 u30 u31 u32 u33 u34 u35 u36 u37 u38 u39 u40 u41 u42 u43 u44 u45 u46 u47 u48 u49 u50 u51 u52 u53 u54 u55 u56 u57 u58 u59 u60 u61 u62 u63 u64 u65 u66 u67 u68 u69 u70 u71 u72 u73 u74 u75 u76 u77 u78 u79 u80 u81 u82 u83 u84 u85 u86 u87 u88 u89 u90 u91 u92 u93 u94 u95 u96 u97 u98 u99 u100 u101 u102 u103 u104 u105 u106 u107 u108 u109 u110 u111 u112 u113 u114 u115 u116 u117 u118 u119 u120 u121 u122 u123 u124 u125 u126 u127 u128 u129 u130 u131 u132 u133 u134 u135 u136 u137 u138 u139 u140 u141 u142 u143 u144 u145 u146 u147 u148 u149 u150 u151 u152 u153 u154 u155 u156 u157 u158 u159 u160 u161 u162 u163 u164 u165 u166 u167 u168 u169 u170 u171 u172 u173 u174 u175 u176 u177 u178 u179 u180 u181 u182 u183 u184 u185 u186 u187 u188 u189 u190 u191 u192 u193 u194 u195 u196 u197 u198 u199 u200 u201 u202 u203 u204 u205 u206 u207 u208 u209 u210 u211 u212 u213 u214 u215 u216 u217 u218 u219 u220 u221 u222 u223 u224 u225 u226 u227 : Value)
    (hPan : ∀ (c : List PanicEntry) (a : Act) (d : Tmp) (v : Value) (w : World), Q (.panic c) (a.put (some d) v) w → Q (.panic c) a w)
    (hQ : ∀ (v10 v11 v12 v55 v56 v57 v58 v59 v60 v61 v62 v63 v64 v65 v66 v67 v68 v69 v70 v71 v72 v73 v74 v75 v76 v77 v78 v79 v80 v81 v82 v83 v84 v85 v86 v87 v88 v89 v90 v91 v92 v93 v94 v95 v96 v97 v98 v99 v100 v101 v102 v103 v104 v105 v106 v107 : Value) (w' : World), IRow w' W 49 .u32 (W64 bs) → Below W w5 w' → Q .normal ⟨#[u0, u1, u2, u3, u4, u5, u6, .pointer (some ⟨W, 0, none⟩), u8, u9, v10, v11, v12, u13, u14, u15, u16, u17, u18, u19, u20, u21, u22, u23, u24, u25, u26, u27, u28, u29, u30, u31, u32, u33, u34, u35, u36, u37, u38, u39, u40, u41, u42, u43, u44, u45, u46, u47, u48, u49, u50, u51, u52, u53, u54, v55, v56, v57, v58, v59, v60, v61, v62, v63, v64, v65, v66, v67, v68, v69, v70, v71, v72, v73, v74, v75, v76, v77, v78, v79, v80, v81, v82, v83, v84, v85, v86, v87, v88, v89, v90, v91, v92, v93, v94, v95, v96, v97, v98, v99, v100, v101, v102, v103, v104, v105, v106, v107, u108, u109, u110, u111, u112, u113, u114, u115, u116, u117, u118, u119, u120, u121, u122, u123, u124, u125, u126, u127, u128, u129, u130, u131, u132, u133, u134, u135, u136, u137, u138, u139, u140, u141, u142, u143, u144, u145, u146, u147, u148, u149, u150, u151, u152, u153, u154, u155, u156, u157, u158, u159, u160, u161, u162, u163, u164, u165, u166, u167, u168, u169, u170, u171, u172, u173, u174, u175, u176, u177, u178, u179, u180, u181, u182, u183, u184, u185, u186, u187, u188, u189, u190, u191, u192, u193, u194, u195, u196, u197, u198, u199, u200, u201, u202, u203, u204, u205, u206, u207, u208, u209, u210, u211, u212, u213, u214, u215, u216, u217, u218, u219, u220, u221, u222, u223, u224, u225, u226, u227], []⟩ w') :
    Code.wp Tryd.prog (blkOf 6 Tryd.f9) Q ⟨#[u0, u1, u2, u3, u4, u5, u6, .pointer (some ⟨W, 0, none⟩), u8, u9, .int .i64 16, u11, u12, u13, u14, u15, u16, u17, u18, u19, u20, u21, u22, u23, u24, u25, u26, u27, u28, u29, u30, u31, u32, u33, u34, u35, u36, u37, u38, u39, u40, u41, u42, u43, u44, u45, u46, u47, u48, u49, u50, u51, u52, u53, u54, u55, u56, u57, u58, u59, u60, u61, u62, u63, u64, u65, u66, u67, u68, u69, u70, u71, u72, u73, u74, u75, u76, u77, u78, u79, u80, u81, u82, u83, u84, u85, u86, u87, u88, u89, u90, u91, u92, u93, u94, u95, u96, u97, u98, u99, u100, u101, u102, u103, u104, u105, u106, u107, u108, u109, u110, u111, u112, u113, u114, u115, u116, u117, u118, u119, u120, u121, u122, u123, u124, u125, u126, u127, u128, u129, u130, u131, u132, u133, u134, u135, u136, u137, u138, u139, u140, u141, u142, u143, u144, u145, u146, u147, u148, u149, u150, u151, u152, u153, u154, u155, u156, u157, u158, u159, u160, u161, u162, u163, u164, u165, u166, u167, u168, u169, u170, u171, u172, u173, u174, u175, u176, u177, u178, u179, u180, u181, u182, u183, u184, u185, u186, u187, u188, u189, u190, u191, u192, u193, u194, u195, u196, u197, u198, u199, u200, u201, u202, u203, u204, u205, u206, u207, u208, u209, u210, u211, u212, u213, u214, u215, u216, u217, u218, u219, u220, u221, u222, u223, u224, u225, u226, u227], []⟩ w5 := by
  conv => arg 2; whnf
  have HQ := Lib.hid hQ
  have R0 := Lib.hid r0
  clear hQ r0
  go_wp2_with fail
  go_loopw [10] (fun v10 wr => ∃ n t : Nat, n ≤ 48 ∧ Hid (t = 16 + n) ∧ 16 ≤ t ∧ t ≤ 64 ∧ v10 = .int .i64 (t : Int) ∧ IRow wr W 49 .u32 (padZ 64 (schedN (words16 bs) n)) ∧ Below W w5 wr) (fun v10 _ => 64 - (intOf v10).toNat)
  case atStart => exact ⟨0, 16, by omega, Lib.hid rfl, by omega, by omega, rfl, R0.out, Below.refl _ _⟩
  case round =>
    obtain ⟨n, t, hn, ht2, hg16, hle64, rfl, hrow, hbel⟩ := hrel
    obtain ⟨ws, hws⟩ : ∃ ws, ws = schedN (words16 bs) n := ⟨_, rfl⟩
    have hwl : ws.length = t := by rw [hws, schedN_length, ht2.out]; rfl
    rw [← hws] at hrow
    by_cases h64 : t < 64
    · obtain ⟨i1, hi1⟩ : ∃ i, i = t - 15 := ⟨_, rfl⟩
      obtain ⟨i2, hi2⟩ : ∃ i, i = t - 2 := ⟨_, rfl⟩
      obtain ⟨i3, hi3⟩ : ∃ i, i = t - 7 := ⟨_, rfl⟩
      obtain ⟨i4, hi4⟩ : ∃ i, i = t - 16 := ⟨_, rfl⟩
      have w1 : IntKind.i64.wrap ((t : Int) - 15) = (i1 : Int) := by rw [IntWalk.i64_in _ (by omega)]; omega
      have w2 : IntKind.i64.wrap ((t : Int) - 2) = (i2 : Int) := by rw [IntWalk.i64_in _ (by omega)]; omega
      have w3 : IntKind.i64.wrap ((t : Int) - 7) = (i3 : Int) := by rw [IntWalk.i64_in _ (by omega)]; omega
      have w4 : IntKind.i64.wrap ((t : Int) - 16) = (i4 : Int) := by rw [IntWalk.i64_in _ (by omega)]; omega
      have b1 : (i1 : Int) < 64 := by omega
      have b2 : (i2 : Int) < 64 := by omega
      have b3 : (i3 : Int) < 64 := by omega
      have b4 : (i4 : Int) < 64 := by omega
      have bt : (t : Int) < 64 := by omega
      have n3 : i3 ≠ t := by omega
      have n4 : i4 ≠ t := by omega
      obtain ⟨x, hx⟩ : ∃ x, ws[i1]? = some x := ⟨_, List.getElem?_eq_getElem (by omega)⟩
      obtain ⟨y, hy⟩ : ∃ y, ws[i2]? = some y := ⟨_, List.getElem?_eq_getElem (by omega)⟩
      obtain ⟨u, hu⟩ : ∃ u, ws[i3]? = some u := ⟨_, List.getElem?_eq_getElem (by omega)⟩
      obtain ⟨v, hv⟩ : ∃ v, ws[i4]? = some v := ⟨_, List.getElem?_eq_getElem (by omega)⟩
      have k1 := hrow.cell (padZ_low (n := 64) hx)
      have k2 := hrow.cell (padZ_low (n := 64) hy)
      have k3 := hrow.cell (padZ_low (n := 64) hu)
      have k4 := hrow.cell (padZ_low (n := 64) hv)
      have k5 : wr.cell? ⟨W, t, none⟩ = some (.int .u32 0) := hrow.cell (by have := padZ_next (n := 64) (l := ws) (by omega); rw [hwl] at this; exact this)
      have kf := hrow.free t
      have hnw : nextW ws = IntKind.u32.wrap (IntKind.u32.wrap (IntKind.u32.wrap (small1 y + u) + small0 x) + v) := by
        unfold nextW
        rw [hwl, ← hi1, ← hi2, ← hi3, ← hi4]
        simp only [List.getD_eq_getElem?_getD, hx, hy, hu, hv, Option.getD_some, u32_wrap]
        rfl
      have hsn : schedN (words16 bs) (n + 1) = ws ++ [nextW ws] := by rw [schedN, ← hws]
      have hset := hrow.set t (nextW ws)
      have hpz := padZ_set (n := 64) (l := ws) (z := nextW ws) (by omega)
      rw [hwl] at hpz
      rw [hpz, ← hsn] at hset
      rw [hnw] at hset
      have hux : U32 x := sched_u bs n x (by rw [← hws]; exact List.mem_of_getElem? hx)
      have huy : U32 y := sched_u bs n y (by rw [← hws]; exact List.mem_of_getElem? hy)
      have C1 := Lib.hid (fun W => rrot_any x 25 W hux (by omega))
      have C2 := Lib.hid (fun W => rrot_any x 14 W hux (by omega))
      have C3 := Lib.hid (fun W => rrot_any y 15 W huy (by omega))
      have C4 := Lib.hid (fun W => rrot_any y 13 W huy (by omega))
      have HSET := Lib.hid hset
      have HBEL := Lib.hid hbel
      clear hset hnw hsn hpz hrow hbel hx hy hu hv hws hwl hi1 hi2 hi3 hi4
      go_wp2_with fail
      refine wp_region_held_drew (S := (fun w' => w'.cell? ⟨W, i1, none⟩ = some (.int .u32 x))) (by kernel_rfl) ?_ (fun hHeld => ?_)
      · exact k1
      refine wpAnyH_take (i := 0) (oi := { dst := some 59, op := Go.Op.move (Go.Operand.tmp 10), type := 3, pos := "ref.go:46", after := #[], guard := none }) (v := ?av0) rfl (by kernel_rfl) (by kernel_rfl) (by kernel_rfl) (fun _ _ _ h => hPan _ _ _ _ _ h) (Or.inl ⟨by rfl, ?ay0⟩) (by assumption) ?ar0
      case ay0 => (intro w hSw; (try dsimp only at hSw); go_simp; try (with_reducible rfl))
      case ar0 =>
      try simp only [Act.put, List.setIfInBounds_toArray, List.set_cons_zero, List.set_cons_succ]
      refine wpAnyH_take (i := 1) (oi := { dst := some 60, op := Go.Op.binOp Go.BinOp.sub 3 (Go.Operand.tmp 59) (Go.Operand.const (Go.Value.int Go.IntKind.i64 15)) 3, type := 3, pos := "ref.go:46", after := #[{ on := 0, ground := Go.Ground.data }], guard := none }) (v := ?av1) rfl (by kernel_rfl) (by kernel_rfl) (by kernel_rfl) (fun _ _ _ h => hPan _ _ _ _ _ h) (Or.inl ⟨by rfl, ?ay1⟩) (by assumption) ?ar1
      case ay1 => (intro w hSw; (try dsimp only at hSw); go_simp; try (with_reducible rfl))
      case ar1 =>
      try simp only [Act.put, List.setIfInBounds_toArray, List.set_cons_zero, List.set_cons_succ]
      refine wpAnyH_take (i := 2) (oi := { dst := some 61, op := Go.Op.indexAddr 49 (Go.Operand.tmp 7) (Go.Operand.tmp 60), type := 0, pos := "ref.go:46", after := #[{ on := 1, ground := Go.Ground.data }], guard := none }) (v := ?av2) rfl (by kernel_rfl) (by kernel_rfl) (by kernel_rfl) (fun _ _ _ h => hPan _ _ _ _ _ h) (Or.inl ⟨by rfl, ?ay2⟩) (by assumption) ?ar2
      case ay2 => (intro w hSw; (try dsimp only at hSw); go_simp; try (with_reducible rfl))
      case ar2 =>
      try simp only [Act.put, List.setIfInBounds_toArray, List.set_cons_zero, List.set_cons_succ]
      refine wpAnyH_take (i := 3) (oi := { dst := some 62, op := Go.Op.load 39 (Go.Operand.tmp 61), type := 39, pos := "ref.go:46", after := #[{ on := 2, ground := Go.Ground.data }], guard := none }) (v := ?av3) rfl (by kernel_rfl) (by kernel_rfl) (by kernel_rfl) (fun _ _ _ h => hPan _ _ _ _ _ h) (Or.inl ⟨by rfl, ?ay3⟩) (by assumption) ?ar3
      case ay3 => (intro w hSw; (try dsimp only at hSw); go_simp; try (with_reducible rfl))
      case ar3 =>
      try simp only [Act.put, List.setIfInBounds_toArray, List.set_cons_zero, List.set_cons_succ]
      refine wpAnyH_take (i := 5) (oi := { dst := some 64, op := Go.Op.move (Go.Operand.tmp 10), type := 3, pos := "ref.go:46", after := #[], guard := none }) (v := ?av5) rfl (by kernel_rfl) (by kernel_rfl) (by kernel_rfl) (fun _ _ _ h => hPan _ _ _ _ _ h) (Or.inl ⟨by rfl, ?ay5⟩) (by assumption) ?ar5
      case ay5 => (intro w hSw; (try dsimp only at hSw); go_simp; try (with_reducible rfl))
      case ar5 =>
      try simp only [Act.put, List.setIfInBounds_toArray, List.set_cons_zero, List.set_cons_succ]
      refine wpAnyH_take (i := 6) (oi := { dst := some 65, op := Go.Op.binOp Go.BinOp.sub 3 (Go.Operand.tmp 64) (Go.Operand.const (Go.Value.int Go.IntKind.i64 15)) 3, type := 3, pos := "ref.go:46", after := #[{ on := 5, ground := Go.Ground.data }], guard := none }) (v := ?av6) rfl (by kernel_rfl) (by kernel_rfl) (by kernel_rfl) (fun _ _ _ h => hPan _ _ _ _ _ h) (Or.inl ⟨by rfl, ?ay6⟩) (by assumption) ?ar6
      case ay6 => (intro w hSw; (try dsimp only at hSw); go_simp; try (with_reducible rfl))
      case ar6 =>
      try simp only [Act.put, List.setIfInBounds_toArray, List.set_cons_zero, List.set_cons_succ]
      refine wpAnyH_take (i := 7) (oi := { dst := some 66, op := Go.Op.indexAddr 49 (Go.Operand.tmp 7) (Go.Operand.tmp 65), type := 0, pos := "ref.go:46", after := #[{ on := 6, ground := Go.Ground.data }], guard := none }) (v := ?av7) rfl (by kernel_rfl) (by kernel_rfl) (by kernel_rfl) (fun _ _ _ h => hPan _ _ _ _ _ h) (Or.inl ⟨by rfl, ?ay7⟩) (by assumption) ?ar7
      case ay7 => (intro w hSw; (try dsimp only at hSw); go_simp; try (with_reducible rfl))
      case ar7 =>
      try simp only [Act.put, List.setIfInBounds_toArray, List.set_cons_zero, List.set_cons_succ]
      refine wpAnyH_take (i := 8) (oi := { dst := some 67, op := Go.Op.load 39 (Go.Operand.tmp 66), type := 39, pos := "ref.go:46", after := #[{ on := 7, ground := Go.Ground.data }], guard := none }) (v := ?av8) rfl (by kernel_rfl) (by kernel_rfl) (by kernel_rfl) (fun _ _ _ h => hPan _ _ _ _ _ h) (Or.inl ⟨by rfl, ?ay8⟩) (by assumption) ?ar8
      case ay8 => (intro w hSw; (try dsimp only at hSw); go_simp; try (with_reducible rfl))
      case ar8 =>
      try simp only [Act.put, List.setIfInBounds_toArray, List.set_cons_zero, List.set_cons_succ]
      refine wpAnyH_take (i := 11) (oi := { dst := some 70, op := Go.Op.move (Go.Operand.tmp 10), type := 3, pos := "ref.go:46", after := #[], guard := none }) (v := ?av11) rfl (by kernel_rfl) (by kernel_rfl) (by kernel_rfl) (fun _ _ _ h => hPan _ _ _ _ _ h) (Or.inl ⟨by rfl, ?ay11⟩) (by assumption) ?ar11
      case ay11 => (intro w hSw; (try dsimp only at hSw); go_simp; try (with_reducible rfl))
      case ar11 =>
      try simp only [Act.put, List.setIfInBounds_toArray, List.set_cons_zero, List.set_cons_succ]
      refine wpAnyH_take (i := 12) (oi := { dst := some 71, op := Go.Op.binOp Go.BinOp.sub 3 (Go.Operand.tmp 70) (Go.Operand.const (Go.Value.int Go.IntKind.i64 15)) 3, type := 3, pos := "ref.go:46", after := #[{ on := 11, ground := Go.Ground.data }], guard := none }) (v := ?av12) rfl (by kernel_rfl) (by kernel_rfl) (by kernel_rfl) (fun _ _ _ h => hPan _ _ _ _ _ h) (Or.inl ⟨by rfl, ?ay12⟩) (by assumption) ?ar12
      case ay12 => (intro w hSw; (try dsimp only at hSw); go_simp; try (with_reducible rfl))
      case ar12 =>
      try simp only [Act.put, List.setIfInBounds_toArray, List.set_cons_zero, List.set_cons_succ]
      refine wpAnyH_take (i := 13) (oi := { dst := some 72, op := Go.Op.indexAddr 49 (Go.Operand.tmp 7) (Go.Operand.tmp 71), type := 0, pos := "ref.go:46", after := #[{ on := 12, ground := Go.Ground.data }], guard := none }) (v := ?av13) rfl (by kernel_rfl) (by kernel_rfl) (by kernel_rfl) (fun _ _ _ h => hPan _ _ _ _ _ h) (Or.inl ⟨by rfl, ?ay13⟩) (by assumption) ?ar13
      case ay13 => (intro w hSw; (try dsimp only at hSw); go_simp; try (with_reducible rfl))
      case ar13 =>
      try simp only [Act.put, List.setIfInBounds_toArray, List.set_cons_zero, List.set_cons_succ]
      refine wpAnyH_take (i := 14) (oi := { dst := some 73, op := Go.Op.load 39 (Go.Operand.tmp 72), type := 39, pos := "ref.go:46", after := #[{ on := 13, ground := Go.Ground.data }], guard := none }) (v := ?av14) rfl (by kernel_rfl) (by kernel_rfl) (by kernel_rfl) (fun _ _ _ h => hPan _ _ _ _ _ h) (Or.inl ⟨by rfl, ?ay14⟩) (by assumption) ?ar14
      case ay14 => (intro w hSw; (try dsimp only at hSw); go_simp; try (with_reducible rfl))
      case ar14 =>
      try simp only [Act.put, List.setIfInBounds_toArray, List.set_cons_zero, List.set_cons_succ]
      refine wpAnyH_take (i := 15) (oi := { dst := some 74, op := Go.Op.binOp Go.BinOp.shr 39 (Go.Operand.tmp 73) (Go.Operand.const (Go.Value.int Go.IntKind.u64 3)) 52, type := 39, pos := "ref.go:46", after := #[{ on := 14, ground := Go.Ground.data }], guard := none }) (v := ?av15) rfl (by kernel_rfl) (by kernel_rfl) (by kernel_rfl) (fun _ _ _ h => hPan _ _ _ _ _ h) (Or.inl ⟨by rfl, ?ay15⟩) (by assumption) ?ar15
      case ay15 => (intro w hSw; (try dsimp only at hSw); go_simp; try (with_reducible rfl))
      case ar15 =>
      try simp only [Act.put, List.setIfInBounds_toArray, List.set_cons_zero, List.set_cons_succ]
      refine wpAnyH_ready (rs := [4]) (by kernel_rfl) (by simp) ?_
      refine AllReadyH.cons (o := { dst := some 63, op := Go.Op.call { callee := Go.Callee.value (Go.Operand.func 25), args := #[Go.Operand.tmp 62, Go.Operand.const (Go.Value.int Go.IntKind.i64 25)], argTypes := #[39, 3] }, type := 39, pos := "ref.go:46", after := #[{ on := 3, ground := Go.Ground.data }], guard := none }) rfl (fun K hK => ?_) (AllReadyH.nil)
      go_simp
      refine (C1.out _).mono ?_
      rintro e w6 ⟨rfl, rfl⟩
      go_simp
      refine hK.out _ _ ?_ (fun hHeld => ?_)
      · exact hHeld
      clear hK K
      try simp only [Act.put, List.setIfInBounds_toArray, List.set_cons_zero, List.set_cons_succ]
      refine wpAnyH_ready (rs := [9]) (by kernel_rfl) (by simp) ?_
      refine AllReadyH.cons (o := { dst := some 68, op := Go.Op.call { callee := Go.Callee.value (Go.Operand.func 25), args := #[Go.Operand.tmp 67, Go.Operand.const (Go.Value.int Go.IntKind.i64 14)], argTypes := #[39, 3] }, type := 39, pos := "ref.go:46", after := #[{ on := 8, ground := Go.Ground.data }, { on := 4, ground := Go.Ground.chain }], guard := none }) rfl (fun K hK => ?_) (AllReadyH.nil)
      go_simp
      refine (C2.out _).mono ?_
      rintro e w6 ⟨rfl, rfl⟩
      go_simp
      refine hK.out _ _ ?_ (fun hHeld => ?_)
      · exact hHeld
      clear hK K
      try simp only [Act.put, List.setIfInBounds_toArray, List.set_cons_zero, List.set_cons_succ]
      refine wpAnyH_take (i := 10) (oi := { dst := some 69, op := Go.Op.binOp Go.BinOp.xor 39 (Go.Operand.tmp 63) (Go.Operand.tmp 68) 39, type := 39, pos := "ref.go:46", after := #[{ on := 4, ground := Go.Ground.data }, { on := 9, ground := Go.Ground.data }], guard := none }) (v := ?a_4_9v10) rfl (by kernel_rfl) (by kernel_rfl) (by kernel_rfl) (fun _ _ _ h => hPan _ _ _ _ _ h) (Or.inl ⟨by rfl, ?a_4_9y10⟩) (by assumption) ?a_4_9r10
      case a_4_9y10 => (intro w hSw; (try dsimp only at hSw); go_simp; try (with_reducible rfl))
      case a_4_9r10 =>
      try simp only [Act.put, List.setIfInBounds_toArray, List.set_cons_zero, List.set_cons_succ]
      refine wpAnyH_take (i := 16) (oi := { dst := some 75, op := Go.Op.binOp Go.BinOp.xor 39 (Go.Operand.tmp 69) (Go.Operand.tmp 74) 39, type := 39, pos := "ref.go:46", after := #[{ on := 10, ground := Go.Ground.data }, { on := 15, ground := Go.Ground.data }], guard := none }) (v := ?a_4_9v16) rfl (by kernel_rfl) (by kernel_rfl) (by kernel_rfl) (fun _ _ _ h => hPan _ _ _ _ _ h) (Or.inl ⟨by rfl, ?a_4_9y16⟩) (by assumption) ?a_4_9r16
      case a_4_9y16 => (intro w hSw; (try dsimp only at hSw); go_simp; try (with_reducible rfl))
      case a_4_9r16 =>
      try simp only [Act.put, List.setIfInBounds_toArray, List.set_cons_zero, List.set_cons_succ]
      refine wpAnyH_take (i := 17) (oi := { dst := some 11, op := Go.Op.assign (Go.Operand.tmp 75), type := 39, pos := "ref.go:46", after := #[{ on := 16, ground := Go.Ground.data }, { on := 9, ground := Go.Ground.chain }, { on := 0, ground := Go.Ground.phase }, { on := 1, ground := Go.Ground.phase }, { on := 2, ground := Go.Ground.phase }, { on := 3, ground := Go.Ground.phase }, { on := 4, ground := Go.Ground.phase }, { on := 5, ground := Go.Ground.phase }, { on := 6, ground := Go.Ground.phase }, { on := 7, ground := Go.Ground.phase }, { on := 8, ground := Go.Ground.phase }, { on := 9, ground := Go.Ground.phase }, { on := 10, ground := Go.Ground.phase }, { on := 11, ground := Go.Ground.phase }, { on := 12, ground := Go.Ground.phase }, { on := 13, ground := Go.Ground.phase }, { on := 14, ground := Go.Ground.phase }, { on := 15, ground := Go.Ground.phase }, { on := 16, ground := Go.Ground.phase }], guard := none }) (v := ?a_4_9v17) rfl (by kernel_rfl) (by kernel_rfl) (by kernel_rfl) (fun _ _ _ h => hPan _ _ _ _ _ h) (Or.inl ⟨by rfl, ?a_4_9y17⟩) (by assumption) ?a_4_9r17
      case a_4_9y17 => (intro w hSw; (try dsimp only at hSw); go_simp; try (with_reducible rfl))
      case a_4_9r17 =>
      try simp only [Act.put, List.setIfInBounds_toArray, List.set_cons_zero, List.set_cons_succ]
      refine wpAnyH_done (by kernel_rfl) ?_ _
      obtain ⟨s0, hs0⟩ : ∃ z, z = small0 x := ⟨_, rfl⟩
      have es0 : bits .xor .u32 (bits .xor .u32 (rot32 25 x) (rot32 14 x)) (x / 8) = s0 := hs0.symm
      rw [es0]
      rw [← hs0] at HSET
      clear hs0 es0
      go_wp2_with fail
      refine wp_region_held_drew (S := (fun w' => w'.cell? ⟨W, i2, none⟩ = some (.int .u32 y))) (by kernel_rfl) ?_ (fun hHeld => ?_)
      · exact k2
      refine wpAnyH_take (i := 0) (oi := { dst := some 76, op := Go.Op.move (Go.Operand.tmp 10), type := 3, pos := "ref.go:47", after := #[], guard := none }) (v := ?bv0) rfl (by kernel_rfl) (by kernel_rfl) (by kernel_rfl) (fun _ _ _ h => hPan _ _ _ _ _ h) (Or.inl ⟨by rfl, ?by0⟩) (by assumption) ?br0
      case by0 => (intro w hSw; (try dsimp only at hSw); go_simp; try (with_reducible rfl))
      case br0 =>
      try simp only [Act.put, List.setIfInBounds_toArray, List.set_cons_zero, List.set_cons_succ]
      refine wpAnyH_take (i := 1) (oi := { dst := some 77, op := Go.Op.binOp Go.BinOp.sub 3 (Go.Operand.tmp 76) (Go.Operand.const (Go.Value.int Go.IntKind.i64 2)) 3, type := 3, pos := "ref.go:47", after := #[{ on := 0, ground := Go.Ground.data }], guard := none }) (v := ?bv1) rfl (by kernel_rfl) (by kernel_rfl) (by kernel_rfl) (fun _ _ _ h => hPan _ _ _ _ _ h) (Or.inl ⟨by rfl, ?by1⟩) (by assumption) ?br1
      case by1 => (intro w hSw; (try dsimp only at hSw); go_simp; try (with_reducible rfl))
      case br1 =>
      try simp only [Act.put, List.setIfInBounds_toArray, List.set_cons_zero, List.set_cons_succ]
      refine wpAnyH_take (i := 2) (oi := { dst := some 78, op := Go.Op.indexAddr 49 (Go.Operand.tmp 7) (Go.Operand.tmp 77), type := 0, pos := "ref.go:47", after := #[{ on := 1, ground := Go.Ground.data }], guard := none }) (v := ?bv2) rfl (by kernel_rfl) (by kernel_rfl) (by kernel_rfl) (fun _ _ _ h => hPan _ _ _ _ _ h) (Or.inl ⟨by rfl, ?by2⟩) (by assumption) ?br2
      case by2 => (intro w hSw; (try dsimp only at hSw); go_simp; try (with_reducible rfl))
      case br2 =>
      try simp only [Act.put, List.setIfInBounds_toArray, List.set_cons_zero, List.set_cons_succ]
      refine wpAnyH_take (i := 3) (oi := { dst := some 79, op := Go.Op.load 39 (Go.Operand.tmp 78), type := 39, pos := "ref.go:47", after := #[{ on := 2, ground := Go.Ground.data }], guard := none }) (v := ?bv3) rfl (by kernel_rfl) (by kernel_rfl) (by kernel_rfl) (fun _ _ _ h => hPan _ _ _ _ _ h) (Or.inl ⟨by rfl, ?by3⟩) (by assumption) ?br3
      case by3 => (intro w hSw; (try dsimp only at hSw); go_simp; try (with_reducible rfl))
      case br3 =>
      try simp only [Act.put, List.setIfInBounds_toArray, List.set_cons_zero, List.set_cons_succ]
      refine wpAnyH_take (i := 5) (oi := { dst := some 81, op := Go.Op.move (Go.Operand.tmp 10), type := 3, pos := "ref.go:47", after := #[], guard := none }) (v := ?bv5) rfl (by kernel_rfl) (by kernel_rfl) (by kernel_rfl) (fun _ _ _ h => hPan _ _ _ _ _ h) (Or.inl ⟨by rfl, ?by5⟩) (by assumption) ?br5
      case by5 => (intro w hSw; (try dsimp only at hSw); go_simp; try (with_reducible rfl))
      case br5 =>
      try simp only [Act.put, List.setIfInBounds_toArray, List.set_cons_zero, List.set_cons_succ]
      refine wpAnyH_take (i := 6) (oi := { dst := some 82, op := Go.Op.binOp Go.BinOp.sub 3 (Go.Operand.tmp 81) (Go.Operand.const (Go.Value.int Go.IntKind.i64 2)) 3, type := 3, pos := "ref.go:47", after := #[{ on := 5, ground := Go.Ground.data }], guard := none }) (v := ?bv6) rfl (by kernel_rfl) (by kernel_rfl) (by kernel_rfl) (fun _ _ _ h => hPan _ _ _ _ _ h) (Or.inl ⟨by rfl, ?by6⟩) (by assumption) ?br6
      case by6 => (intro w hSw; (try dsimp only at hSw); go_simp; try (with_reducible rfl))
      case br6 =>
      try simp only [Act.put, List.setIfInBounds_toArray, List.set_cons_zero, List.set_cons_succ]
      refine wpAnyH_take (i := 7) (oi := { dst := some 83, op := Go.Op.indexAddr 49 (Go.Operand.tmp 7) (Go.Operand.tmp 82), type := 0, pos := "ref.go:47", after := #[{ on := 6, ground := Go.Ground.data }], guard := none }) (v := ?bv7) rfl (by kernel_rfl) (by kernel_rfl) (by kernel_rfl) (fun _ _ _ h => hPan _ _ _ _ _ h) (Or.inl ⟨by rfl, ?by7⟩) (by assumption) ?br7
      case by7 => (intro w hSw; (try dsimp only at hSw); go_simp; try (with_reducible rfl))
      case br7 =>
      try simp only [Act.put, List.setIfInBounds_toArray, List.set_cons_zero, List.set_cons_succ]
      refine wpAnyH_take (i := 8) (oi := { dst := some 84, op := Go.Op.load 39 (Go.Operand.tmp 83), type := 39, pos := "ref.go:47", after := #[{ on := 7, ground := Go.Ground.data }], guard := none }) (v := ?bv8) rfl (by kernel_rfl) (by kernel_rfl) (by kernel_rfl) (fun _ _ _ h => hPan _ _ _ _ _ h) (Or.inl ⟨by rfl, ?by8⟩) (by assumption) ?br8
      case by8 => (intro w hSw; (try dsimp only at hSw); go_simp; try (with_reducible rfl))
      case br8 =>
      try simp only [Act.put, List.setIfInBounds_toArray, List.set_cons_zero, List.set_cons_succ]
      refine wpAnyH_take (i := 11) (oi := { dst := some 87, op := Go.Op.move (Go.Operand.tmp 10), type := 3, pos := "ref.go:47", after := #[], guard := none }) (v := ?bv11) rfl (by kernel_rfl) (by kernel_rfl) (by kernel_rfl) (fun _ _ _ h => hPan _ _ _ _ _ h) (Or.inl ⟨by rfl, ?by11⟩) (by assumption) ?br11
      case by11 => (intro w hSw; (try dsimp only at hSw); go_simp; try (with_reducible rfl))
      case br11 =>
      try simp only [Act.put, List.setIfInBounds_toArray, List.set_cons_zero, List.set_cons_succ]
      refine wpAnyH_take (i := 12) (oi := { dst := some 88, op := Go.Op.binOp Go.BinOp.sub 3 (Go.Operand.tmp 87) (Go.Operand.const (Go.Value.int Go.IntKind.i64 2)) 3, type := 3, pos := "ref.go:47", after := #[{ on := 11, ground := Go.Ground.data }], guard := none }) (v := ?bv12) rfl (by kernel_rfl) (by kernel_rfl) (by kernel_rfl) (fun _ _ _ h => hPan _ _ _ _ _ h) (Or.inl ⟨by rfl, ?by12⟩) (by assumption) ?br12
      case by12 => (intro w hSw; (try dsimp only at hSw); go_simp; try (with_reducible rfl))
      case br12 =>
      try simp only [Act.put, List.setIfInBounds_toArray, List.set_cons_zero, List.set_cons_succ]
      refine wpAnyH_take (i := 13) (oi := { dst := some 89, op := Go.Op.indexAddr 49 (Go.Operand.tmp 7) (Go.Operand.tmp 88), type := 0, pos := "ref.go:47", after := #[{ on := 12, ground := Go.Ground.data }], guard := none }) (v := ?bv13) rfl (by kernel_rfl) (by kernel_rfl) (by kernel_rfl) (fun _ _ _ h => hPan _ _ _ _ _ h) (Or.inl ⟨by rfl, ?by13⟩) (by assumption) ?br13
      case by13 => (intro w hSw; (try dsimp only at hSw); go_simp; try (with_reducible rfl))
      case br13 =>
      try simp only [Act.put, List.setIfInBounds_toArray, List.set_cons_zero, List.set_cons_succ]
      refine wpAnyH_take (i := 14) (oi := { dst := some 90, op := Go.Op.load 39 (Go.Operand.tmp 89), type := 39, pos := "ref.go:47", after := #[{ on := 13, ground := Go.Ground.data }], guard := none }) (v := ?bv14) rfl (by kernel_rfl) (by kernel_rfl) (by kernel_rfl) (fun _ _ _ h => hPan _ _ _ _ _ h) (Or.inl ⟨by rfl, ?by14⟩) (by assumption) ?br14
      case by14 => (intro w hSw; (try dsimp only at hSw); go_simp; try (with_reducible rfl))
      case br14 =>
      try simp only [Act.put, List.setIfInBounds_toArray, List.set_cons_zero, List.set_cons_succ]
      refine wpAnyH_take (i := 15) (oi := { dst := some 91, op := Go.Op.binOp Go.BinOp.shr 39 (Go.Operand.tmp 90) (Go.Operand.const (Go.Value.int Go.IntKind.u64 10)) 52, type := 39, pos := "ref.go:47", after := #[{ on := 14, ground := Go.Ground.data }], guard := none }) (v := ?bv15) rfl (by kernel_rfl) (by kernel_rfl) (by kernel_rfl) (fun _ _ _ h => hPan _ _ _ _ _ h) (Or.inl ⟨by rfl, ?by15⟩) (by assumption) ?br15
      case by15 => (intro w hSw; (try dsimp only at hSw); go_simp; try (with_reducible rfl))
      case br15 =>
      try simp only [Act.put, List.setIfInBounds_toArray, List.set_cons_zero, List.set_cons_succ]
      refine wpAnyH_ready (rs := [4]) (by kernel_rfl) (by simp) ?_
      refine AllReadyH.cons (o := { dst := some 80, op := Go.Op.call { callee := Go.Callee.value (Go.Operand.func 25), args := #[Go.Operand.tmp 79, Go.Operand.const (Go.Value.int Go.IntKind.i64 15)], argTypes := #[39, 3] }, type := 39, pos := "ref.go:47", after := #[{ on := 3, ground := Go.Ground.data }], guard := none }) rfl (fun K hK => ?_) (AllReadyH.nil)
      go_simp
      refine (C3.out _).mono ?_
      rintro e w6 ⟨rfl, rfl⟩
      go_simp
      refine hK.out _ _ ?_ (fun hHeld => ?_)
      · exact hHeld
      clear hK K
      try simp only [Act.put, List.setIfInBounds_toArray, List.set_cons_zero, List.set_cons_succ]
      refine wpAnyH_ready (rs := [9]) (by kernel_rfl) (by simp) ?_
      refine AllReadyH.cons (o := { dst := some 85, op := Go.Op.call { callee := Go.Callee.value (Go.Operand.func 25), args := #[Go.Operand.tmp 84, Go.Operand.const (Go.Value.int Go.IntKind.i64 13)], argTypes := #[39, 3] }, type := 39, pos := "ref.go:47", after := #[{ on := 8, ground := Go.Ground.data }, { on := 4, ground := Go.Ground.chain }], guard := none }) rfl (fun K hK => ?_) (AllReadyH.nil)
      go_simp
      refine (C4.out _).mono ?_
      rintro e w6 ⟨rfl, rfl⟩
      go_simp
      refine hK.out _ _ ?_ (fun hHeld => ?_)
      · exact hHeld
      clear hK K
      try simp only [Act.put, List.setIfInBounds_toArray, List.set_cons_zero, List.set_cons_succ]
      refine wpAnyH_take (i := 10) (oi := { dst := some 86, op := Go.Op.binOp Go.BinOp.xor 39 (Go.Operand.tmp 80) (Go.Operand.tmp 85) 39, type := 39, pos := "ref.go:47", after := #[{ on := 4, ground := Go.Ground.data }, { on := 9, ground := Go.Ground.data }], guard := none }) (v := ?b_4_9v10) rfl (by kernel_rfl) (by kernel_rfl) (by kernel_rfl) (fun _ _ _ h => hPan _ _ _ _ _ h) (Or.inl ⟨by rfl, ?b_4_9y10⟩) (by assumption) ?b_4_9r10
      case b_4_9y10 => (intro w hSw; (try dsimp only at hSw); go_simp; try (with_reducible rfl))
      case b_4_9r10 =>
      try simp only [Act.put, List.setIfInBounds_toArray, List.set_cons_zero, List.set_cons_succ]
      refine wpAnyH_take (i := 16) (oi := { dst := some 92, op := Go.Op.binOp Go.BinOp.xor 39 (Go.Operand.tmp 86) (Go.Operand.tmp 91) 39, type := 39, pos := "ref.go:47", after := #[{ on := 10, ground := Go.Ground.data }, { on := 15, ground := Go.Ground.data }], guard := none }) (v := ?b_4_9v16) rfl (by kernel_rfl) (by kernel_rfl) (by kernel_rfl) (fun _ _ _ h => hPan _ _ _ _ _ h) (Or.inl ⟨by rfl, ?b_4_9y16⟩) (by assumption) ?b_4_9r16
      case b_4_9y16 => (intro w hSw; (try dsimp only at hSw); go_simp; try (with_reducible rfl))
      case b_4_9r16 =>
      try simp only [Act.put, List.setIfInBounds_toArray, List.set_cons_zero, List.set_cons_succ]
      refine wpAnyH_take (i := 17) (oi := { dst := some 12, op := Go.Op.assign (Go.Operand.tmp 92), type := 39, pos := "ref.go:47", after := #[{ on := 16, ground := Go.Ground.data }, { on := 9, ground := Go.Ground.chain }, { on := 0, ground := Go.Ground.phase }, { on := 1, ground := Go.Ground.phase }, { on := 2, ground := Go.Ground.phase }, { on := 3, ground := Go.Ground.phase }, { on := 4, ground := Go.Ground.phase }, { on := 5, ground := Go.Ground.phase }, { on := 6, ground := Go.Ground.phase }, { on := 7, ground := Go.Ground.phase }, { on := 8, ground := Go.Ground.phase }, { on := 9, ground := Go.Ground.phase }, { on := 10, ground := Go.Ground.phase }, { on := 11, ground := Go.Ground.phase }, { on := 12, ground := Go.Ground.phase }, { on := 13, ground := Go.Ground.phase }, { on := 14, ground := Go.Ground.phase }, { on := 15, ground := Go.Ground.phase }, { on := 16, ground := Go.Ground.phase }], guard := none }) (v := ?b_4_9v17) rfl (by kernel_rfl) (by kernel_rfl) (by kernel_rfl) (fun _ _ _ h => hPan _ _ _ _ _ h) (Or.inl ⟨by rfl, ?b_4_9y17⟩) (by assumption) ?b_4_9r17
      case b_4_9y17 => (intro w hSw; (try dsimp only at hSw); go_simp; try (with_reducible rfl))
      case b_4_9r17 =>
      try simp only [Act.put, List.setIfInBounds_toArray, List.set_cons_zero, List.set_cons_succ]
      refine wpAnyH_done (by kernel_rfl) ?_ _
      obtain ⟨s1, hs1⟩ : ∃ z, z = small1 y := ⟨_, rfl⟩
      have es1 : bits .xor .u32 (bits .xor .u32 (rot32 15 y) (rot32 13 y)) (y / 1024) = s1 := hs1.symm
      rw [es1]
      rw [← hs1] at HSET
      clear hs1 es1
      go_wp2_with fail
      refine wp_region_held_drew (S := (fun w' => w'.cell? ⟨W, i3, none⟩ = some (.int .u32 u) ∧ w'.cell? ⟨W, i4, none⟩ = some (.int .u32 v))) (by kernel_rfl) ?_ (fun hHeld => ?_)
      · exact ⟨k3, k4⟩
      refine wpAnyH_take (i := 0) (oi := { dst := some 93, op := Go.Op.move (Go.Operand.tmp 10), type := 3, pos := "ref.go:48", after := #[], guard := none }) (v := ?cv0) rfl (by kernel_rfl) (by kernel_rfl) (by kernel_rfl) (fun _ _ _ h => hPan _ _ _ _ _ h) (Or.inl ⟨by rfl, ?cy0⟩) (by assumption) ?cr0
      case cy0 => (intro w hSw; (try dsimp only at hSw); go_simp; try (with_reducible rfl))
      case cr0 =>
      try simp only [Act.put, List.setIfInBounds_toArray, List.set_cons_zero, List.set_cons_succ]
      refine wpAnyH_take (i := 1) (oi := { dst := some 94, op := Go.Op.move (Go.Operand.tmp 12), type := 39, pos := "ref.go:48", after := #[], guard := none }) (v := ?cv1) rfl (by kernel_rfl) (by kernel_rfl) (by kernel_rfl) (fun _ _ _ h => hPan _ _ _ _ _ h) (Or.inl ⟨by rfl, ?cy1⟩) (by assumption) ?cr1
      case cy1 => (intro w hSw; (try dsimp only at hSw); go_simp; try (with_reducible rfl))
      case cr1 =>
      try simp only [Act.put, List.setIfInBounds_toArray, List.set_cons_zero, List.set_cons_succ]
      refine wpAnyH_take (i := 2) (oi := { dst := some 95, op := Go.Op.move (Go.Operand.tmp 10), type := 3, pos := "ref.go:48", after := #[], guard := none }) (v := ?cv2) rfl (by kernel_rfl) (by kernel_rfl) (by kernel_rfl) (fun _ _ _ h => hPan _ _ _ _ _ h) (Or.inl ⟨by rfl, ?cy2⟩) (by assumption) ?cr2
      case cy2 => (intro w hSw; (try dsimp only at hSw); go_simp; try (with_reducible rfl))
      case cr2 =>
      try simp only [Act.put, List.setIfInBounds_toArray, List.set_cons_zero, List.set_cons_succ]
      refine wpAnyH_take (i := 3) (oi := { dst := some 96, op := Go.Op.binOp Go.BinOp.sub 3 (Go.Operand.tmp 95) (Go.Operand.const (Go.Value.int Go.IntKind.i64 7)) 3, type := 3, pos := "ref.go:48", after := #[{ on := 2, ground := Go.Ground.data }], guard := none }) (v := ?cv3) rfl (by kernel_rfl) (by kernel_rfl) (by kernel_rfl) (fun _ _ _ h => hPan _ _ _ _ _ h) (Or.inl ⟨by rfl, ?cy3⟩) (by assumption) ?cr3
      case cy3 => (intro w hSw; (try dsimp only at hSw); go_simp; try (with_reducible rfl))
      case cr3 =>
      try simp only [Act.put, List.setIfInBounds_toArray, List.set_cons_zero, List.set_cons_succ]
      refine wpAnyH_take (i := 4) (oi := { dst := some 97, op := Go.Op.indexAddr 49 (Go.Operand.tmp 7) (Go.Operand.tmp 96), type := 0, pos := "ref.go:48", after := #[{ on := 3, ground := Go.Ground.data }], guard := none }) (v := ?cv4) rfl (by kernel_rfl) (by kernel_rfl) (by kernel_rfl) (fun _ _ _ h => hPan _ _ _ _ _ h) (Or.inl ⟨by rfl, ?cy4⟩) (by assumption) ?cr4
      case cy4 => (intro w hSw; (try dsimp only at hSw); go_simp; try (with_reducible rfl))
      case cr4 =>
      try simp only [Act.put, List.setIfInBounds_toArray, List.set_cons_zero, List.set_cons_succ]
      refine wpAnyH_take (i := 5) (oi := { dst := some 98, op := Go.Op.load 39 (Go.Operand.tmp 97), type := 39, pos := "ref.go:48", after := #[{ on := 4, ground := Go.Ground.data }], guard := none }) (v := ?cv5) rfl (by kernel_rfl) (by kernel_rfl) (by kernel_rfl) (fun _ _ _ h => hPan _ _ _ _ _ h) (Or.inl ⟨by rfl, ?cy5⟩) (by assumption) ?cr5
      case cy5 => (intro w hSw; (try dsimp only at hSw); go_simp; try (with_reducible rfl))
      case cr5 =>
      try simp only [Act.put, List.setIfInBounds_toArray, List.set_cons_zero, List.set_cons_succ]
      refine wpAnyH_take (i := 6) (oi := { dst := some 99, op := Go.Op.binOp Go.BinOp.add 39 (Go.Operand.tmp 94) (Go.Operand.tmp 98) 39, type := 39, pos := "ref.go:48", after := #[{ on := 1, ground := Go.Ground.data }, { on := 5, ground := Go.Ground.data }], guard := none }) (v := ?cv6) rfl (by kernel_rfl) (by kernel_rfl) (by kernel_rfl) (fun _ _ _ h => hPan _ _ _ _ _ h) (Or.inl ⟨by rfl, ?cy6⟩) (by assumption) ?cr6
      case cy6 => (intro w hSw; (try dsimp only at hSw); go_simp; try (with_reducible rfl))
      case cr6 =>
      try simp only [Act.put, List.setIfInBounds_toArray, List.set_cons_zero, List.set_cons_succ]
      refine wpAnyH_take (i := 7) (oi := { dst := some 100, op := Go.Op.move (Go.Operand.tmp 11), type := 39, pos := "ref.go:48", after := #[], guard := none }) (v := ?cv7) rfl (by kernel_rfl) (by kernel_rfl) (by kernel_rfl) (fun _ _ _ h => hPan _ _ _ _ _ h) (Or.inl ⟨by rfl, ?cy7⟩) (by assumption) ?cr7
      case cy7 => (intro w hSw; (try dsimp only at hSw); go_simp; try (with_reducible rfl))
      case cr7 =>
      try simp only [Act.put, List.setIfInBounds_toArray, List.set_cons_zero, List.set_cons_succ]
      refine wpAnyH_take (i := 8) (oi := { dst := some 101, op := Go.Op.binOp Go.BinOp.add 39 (Go.Operand.tmp 99) (Go.Operand.tmp 100) 39, type := 39, pos := "ref.go:48", after := #[{ on := 6, ground := Go.Ground.data }, { on := 7, ground := Go.Ground.data }], guard := none }) (v := ?cv8) rfl (by kernel_rfl) (by kernel_rfl) (by kernel_rfl) (fun _ _ _ h => hPan _ _ _ _ _ h) (Or.inl ⟨by rfl, ?cy8⟩) (by assumption) ?cr8
      case cy8 => (intro w hSw; (try dsimp only at hSw); go_simp; try (with_reducible rfl))
      case cr8 =>
      try simp only [Act.put, List.setIfInBounds_toArray, List.set_cons_zero, List.set_cons_succ]
      refine wpAnyH_take (i := 9) (oi := { dst := some 102, op := Go.Op.move (Go.Operand.tmp 10), type := 3, pos := "ref.go:48", after := #[], guard := none }) (v := ?cv9) rfl (by kernel_rfl) (by kernel_rfl) (by kernel_rfl) (fun _ _ _ h => hPan _ _ _ _ _ h) (Or.inl ⟨by rfl, ?cy9⟩) (by assumption) ?cr9
      case cy9 => (intro w hSw; (try dsimp only at hSw); go_simp; try (with_reducible rfl))
      case cr9 =>
      try simp only [Act.put, List.setIfInBounds_toArray, List.set_cons_zero, List.set_cons_succ]
      refine wpAnyH_take (i := 10) (oi := { dst := some 103, op := Go.Op.binOp Go.BinOp.sub 3 (Go.Operand.tmp 102) (Go.Operand.const (Go.Value.int Go.IntKind.i64 16)) 3, type := 3, pos := "ref.go:48", after := #[{ on := 9, ground := Go.Ground.data }], guard := none }) (v := ?cv10) rfl (by kernel_rfl) (by kernel_rfl) (by kernel_rfl) (fun _ _ _ h => hPan _ _ _ _ _ h) (Or.inl ⟨by rfl, ?cy10⟩) (by assumption) ?cr10
      case cy10 => (intro w hSw; (try dsimp only at hSw); go_simp; try (with_reducible rfl))
      case cr10 =>
      try simp only [Act.put, List.setIfInBounds_toArray, List.set_cons_zero, List.set_cons_succ]
      refine wpAnyH_take (i := 11) (oi := { dst := some 104, op := Go.Op.indexAddr 49 (Go.Operand.tmp 7) (Go.Operand.tmp 103), type := 0, pos := "ref.go:48", after := #[{ on := 10, ground := Go.Ground.data }], guard := none }) (v := ?cv11) rfl (by kernel_rfl) (by kernel_rfl) (by kernel_rfl) (fun _ _ _ h => hPan _ _ _ _ _ h) (Or.inl ⟨by rfl, ?cy11⟩) (by assumption) ?cr11
      case cy11 => (intro w hSw; (try dsimp only at hSw); go_simp; try (with_reducible rfl))
      case cr11 =>
      try simp only [Act.put, List.setIfInBounds_toArray, List.set_cons_zero, List.set_cons_succ]
      refine wpAnyH_take (i := 12) (oi := { dst := some 105, op := Go.Op.load 39 (Go.Operand.tmp 104), type := 39, pos := "ref.go:48", after := #[{ on := 11, ground := Go.Ground.data }], guard := none }) (v := ?cv12) rfl (by kernel_rfl) (by kernel_rfl) (by kernel_rfl) (fun _ _ _ h => hPan _ _ _ _ _ h) (Or.inl ⟨by rfl, ?cy12⟩) (by assumption) ?cr12
      case cy12 => (intro w hSw; (try dsimp only at hSw); go_simp; try (with_reducible rfl))
      case cr12 =>
      try simp only [Act.put, List.setIfInBounds_toArray, List.set_cons_zero, List.set_cons_succ]
      refine wpAnyH_take (i := 13) (oi := { dst := some 106, op := Go.Op.binOp Go.BinOp.add 39 (Go.Operand.tmp 101) (Go.Operand.tmp 105) 39, type := 39, pos := "ref.go:48", after := #[{ on := 8, ground := Go.Ground.data }, { on := 12, ground := Go.Ground.data }], guard := none }) (v := ?cv13) rfl (by kernel_rfl) (by kernel_rfl) (by kernel_rfl) (fun _ _ _ h => hPan _ _ _ _ _ h) (Or.inl ⟨by rfl, ?cy13⟩) (by assumption) ?cr13
      case cy13 => (intro w hSw; (try dsimp only at hSw); go_simp; try (with_reducible rfl))
      case cr13 =>
      try simp only [Act.put, List.setIfInBounds_toArray, List.set_cons_zero, List.set_cons_succ]
      refine wpAnyH_take (i := 14) (oi := { dst := some 107, op := Go.Op.indexAddr 49 (Go.Operand.tmp 7) (Go.Operand.tmp 93), type := 0, pos := "ref.go:48", after := #[{ on := 0, ground := Go.Ground.data }, { on := 0, ground := Go.Ground.phase }, { on := 1, ground := Go.Ground.phase }, { on := 2, ground := Go.Ground.phase }, { on := 3, ground := Go.Ground.phase }, { on := 4, ground := Go.Ground.phase }, { on := 5, ground := Go.Ground.phase }, { on := 6, ground := Go.Ground.phase }, { on := 7, ground := Go.Ground.phase }, { on := 8, ground := Go.Ground.phase }, { on := 9, ground := Go.Ground.phase }, { on := 10, ground := Go.Ground.phase }, { on := 11, ground := Go.Ground.phase }, { on := 12, ground := Go.Ground.phase }, { on := 13, ground := Go.Ground.phase }], guard := none }) (v := ?cv14) rfl (by kernel_rfl) (by kernel_rfl) (by kernel_rfl) (fun _ _ _ h => hPan _ _ _ _ _ h) (Or.inl ⟨by rfl, ?cy14⟩) (by assumption) ?cr14
      case cy14 => (intro w hSw; (try dsimp only at hSw); go_simp; try (with_reducible rfl))
      case cr14 =>
      try simp only [Act.put, List.setIfInBounds_toArray, List.set_cons_zero, List.set_cons_succ]
      refine wpAnyH_ready (rs := [15]) (by kernel_rfl) (by simp) ?_
      refine AllReadyH.cons (o := { dst := none, op := Go.Op.store 39 (Go.Operand.tmp 107) (Go.Operand.tmp 106), type := 0, pos := "ref.go:48", after := #[{ on := 14, ground := Go.Ground.data }, { on := 13, ground := Go.Ground.data }, { on := 0, ground := Go.Ground.phase }, { on := 1, ground := Go.Ground.phase }, { on := 2, ground := Go.Ground.phase }, { on := 3, ground := Go.Ground.phase }, { on := 4, ground := Go.Ground.phase }, { on := 5, ground := Go.Ground.phase }, { on := 6, ground := Go.Ground.phase }, { on := 7, ground := Go.Ground.phase }, { on := 8, ground := Go.Ground.phase }, { on := 9, ground := Go.Ground.phase }, { on := 10, ground := Go.Ground.phase }, { on := 11, ground := Go.Ground.phase }, { on := 12, ground := Go.Ground.phase }, { on := 13, ground := Go.Ground.phase }], guard := none }) rfl (fun K hK => ?_) (AllReadyH.nil)
      go_simp
      refine hK.out _ _ ?_ (fun hHeld => ?_)
      · exact ⟨(World.cell?_setCell_other _ _ _ _ (by intro h; injection h with _ h; omega)).trans k3, (World.cell?_setCell_other _ _ _ _ (by intro h; injection h with _ h; omega)).trans k4⟩
      clear hK K
      try simp only [Act.put]
      refine wpAnyH_done (by kernel_rfl) ?_ _
      go_wp2_with fail
      have HB2 := (HBEL.out.setCell (p := ⟨W, t, none⟩) (Nat.le_refl _) (.int .u32 (IntKind.u32.wrap (IntKind.u32.wrap (IntKind.u32.wrap (s1 + u) + s0) + v))))
      exact ⟨⟨n + 1, t + 1, by have := ht2.out; omega, Lib.hid (by have := ht2.out; omega), by omega, by omega, by go_num, HSET.out, ⟨HB2.os, HB2.tape, HB2.output, HB2.size, HB2.block⟩⟩, by simp [intOf]; omega⟩
    · obtain rfl : t = 64 := by omega
      have hn48 : n = 48 := by have := ht2.out; omega
      have hW : ws = W64 bs := by rw [hws, hn48]; unfold W64; with_reducible rfl
      rw [padZ_full hwl, hW] at hrow
      have hrow2 : IRow wr W 49 .u32 (W64 bs) := by with_reducible exact hrow
      have HR := Lib.hid hrow2
      have HBEL := Lib.hid hbel
      have e64 : ((64 : Nat) : Int) = 64 := rfl
      rw [e64]
      clear hrow hrow2 hbel hW hws hwl hn48 ht2 e64 h64
      go_wp2_with fail
      exact HQ.out _ _ _ _ _ _ _ _ _ _ _ _ _ _ _ _ _ _ _ _ _ _ _ _ _ _ _ _ _ _ _ _ _ _ _ _ _ _ _ _ _ _ _ _ _ _ _ _ _ _ _ _ _ _ _ _ _ HR.out HBEL.out
end Go.Proofs.YtpcopimbnbmkmaaDoor
