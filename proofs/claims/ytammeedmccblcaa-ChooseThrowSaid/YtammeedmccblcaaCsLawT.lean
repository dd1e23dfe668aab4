/-
  The law ChooseThrow. Conditions: the coins' numbers are int64 (they came so).
-/
import Derived.Test.YtammeedmccblcaaCsLawF
import Derived.Test.YtammeedmccblcaaCsRcho
namespace Go.Proofs.Ytammeedmccblcaa.Cs
open Go.RowKit

set_option maxRecDepth 100000 in
set_option maxHeartbeats 6400000 in
theorem throw_law (B : Nat) (v : Value) (l : List (Int × Int)) (need extra rate tries seed : Int) (w : World) (hX : CrR w B v l) (hB : B ≤ w.heap.size) (hc : CoinsOk l) (hn : need ≤ 9223372036854775807) :
    Calls Try.prog 5 #[v, .agg (tkC need extra rate tries seed).toArray] w fun r w' => r = .returned (.bool true) ∧ Below w.heap.size w w' := by
  have hlen : (l.take 14).length ≤ 14 := by rw [List.length_take]; omega
  have hcl : CoinsOk (l.take 14) := fun c h => hc c (List.mem_of_mem_take h)
  have hfew := fun W (hb : Below w.heap.size w W) => few_any B v l need extra rate tries seed W (RowR.below hX (hb.mono hB)) (Nat.le_trans hB hb.size)
  obtain ⟨A, c, rfl, _, _⟩ := RowR.form hX
  obtain ⟨l', hl'⟩ : ∃ z, z = l.take 14 := ⟨_, rfl⟩
  obtain ⟨t', ht'⟩ : ∃ z, z = fewT tries := ⟨_, rfl⟩
  simp only [← hl', ← ht'] at hfew hlen hcl
  have hown := fun (v : Value) (W : World) (hX : CrR W B v l') (hB : B ≤ W.heap.size) => own_any B v l' need extra rate t' seed W hX hB hlen
  have hlg := fun (B : Nat) (v : Value) (W : World) (hX : CrR W B v l') (hB : B ≤ W.heap.size) => Throw_any B v l' need extra rate t' seed W hX hB (by omega) hcl hn
  have hlg2 := fun (B : Nat) (v : Value) (W : World) (hX : CrR W B v l') (hB : B ≤ W.heap.size) => Choose_any B v l' need extra rate t' seed W hX hB (by omega) hcl hn
  have hrl := fun (v : Value) (W : World) (hX : CrR W B v l') (hB : B ≤ W.heap.size) => rthrow_any B v l' need extra rate t' seed W hX hB (by omega) hcl
  have hrl2 := fun (v : Value) (W : World) (hX : CrR W B v l') (hB : B ≤ W.heap.size) => rchoose_any B v l' need extra rate t' seed W hX hB (by omega) hcl
  obtain ⟨R, hR⟩ : ∃ z, z = ThrowF need rate t' seed l' := ⟨_, rfl⟩
  simp only [← hR] at hlg hrl
  obtain ⟨R2, hR2⟩ : ∃ z, z = ChooseF need extra rate t' seed l' := ⟨_, rfl⟩
  simp only [← hR2] at hlg2 hrl2
  obtain ⟨TN, hTN⟩ : ∃ z, z = tkC need extra rate t' seed := ⟨_, rfl⟩
  obtain ⟨TK, hTK⟩ : ∃ z, z = tkC need extra rate tries seed := ⟨_, rfl⟩
  simp only [← hTN, ← hTK] at hfew hown hlg hrl hlg2 hrl2
  have hTN1 : TN.toArray.all (·.oneCell') = true := by rw [hTN]; exact rtsk_one need extra rate t' seed
  have hTNl : TN.length = 5 := by rw [hTN]; rfl
  have hTKl : TK.length = 5 := by rw [hTK]; rfl
  have hTN2 : TN[2]? = some (.int .i64 rate) := by rw [hTN]; rfl
  have hz : ∀ W, (zeroValue 30).run Try.prog W = .ok (.agg #[.int .i64 0, .int .i64 0, .int .i64 0, .int .i64 0, .int .u64 0]) W := fun W => by kernel_rfl
  have HFEW := Lib.hid hfew
  have HOWN := Lib.hid hown
  have HLG := Lib.hid hlg
  have HRL := Lib.hid hrl
  have HLG2 := Lib.hid hlg2
  have HRL2 := Lib.hid hrl2
  have HB := Lib.hid hB
  have HCL := Lib.hid hcl
  have HLEN := Lib.hid hlen
  have HTK := Lib.hid hTK
  have HN1 := Lib.hid hTN1
  have HNL := Lib.hid (show (Try.prog.info? 25).map (·.size) = some TN.length by rw [hTNl]; exact rtsk5)
  have HNT := Lib.hid (show (Try.prog.info? 30).map (·.size) = some TN.length by rw [hTNl]; exact tsk5)
  have HKL := Lib.hid (show (Try.prog.info? 25).map (·.size) = some TK.length by rw [hTKl]; exact rtsk5)
  have HLL := Lib.hid (show TK.length = TN.length by rw [hTKl, hTNl])
  have HL5 := Lib.hid (show [Value.int .i64 0, .int .i64 0, .int .i64 0, .int .i64 0, .int .u64 0].length = TN.length by rw [hTNl]; rfl)
  have HN2 := Lib.hid hTN2
  clear hfew hown hlg hrl hlg2 hrl2 hR2 hB hcl hlen hTK hTN1 hTNl hTKl hTN hTN2 hX hc hl' ht' hR
  unfold tkC at HTK ⊢
  go_enter Try.func5, Try.ntmps5
  go_upto_region 1 with fail
  obtain ⟨W1, hW1⟩ : ∃ z, z = w.alloc (.cells TK.toArray 25) := ⟨_, rfl⟩
  have hv1 : VRow W1 w.heap.size 25 TK := by rw [hW1]; exact VRow.new w _ TK
  have hb1 : Below w.heap.size w W1 := by rw [hW1]; exact (Below.refl _ _).alloc (Nat.le_refl _) _
  change Code.wp _ _ _ _ (w.alloc (.cells [Value.int .i64 need, .int .i64 extra, .int .i64 rate, .int .i64 tries, .int .u64 seed].toArray 25))
  rw [← HTK.out, ← hW1]
  obtain ⟨GT, hGT⟩ : ∃ z, z = w.heap.size := ⟨_, rfl⟩
  rw [← hGT] at hv1
  rw [← hGT]
  have HGT := Lib.hid hGT
  have HV1 := Lib.hid hv1
  have HB1 := Lib.hid hb1
  clear hv1 hb1 hW1 hGT HTK
  go_upto_region 3 with (first
    | (go_at_call 7; refine (awake_any _).mono ?_; rintro e w2 ⟨rfl, hb2⟩))
  have VT2 := Lib.hid (HV1.out.below hb2 HV1.out.lt)
  have B2 := Lib.hid (HB1.out.trans (hb2.mono HB1.out.size))
  clear hb2 HV1 HB1
  go_upto_region 4 with (first
    | (refine wpList_load_vrow rfl 25 (.tmp 3) rfl rfl VT2.out Try.underlying25 HKL.out ?_)
    | (go_at_call 8; refine (HFEW.out _ B2.out).mono ?_; rintro e w3 ⟨v', rfl, hv', hb3⟩; obtain ⟨A', c', rfl, _, _⟩ := RowR.form hv'; have VT3 := VT2.out.below hb3 VT2.out.lt)
    | (refine wpList_store_vrow rfl 25 (.tmp 3) (.tmp 22) rfl (us := TN) rfl rfl VT3 HNL.out HLL.out HN1.out ?_))
  try dsimp only [Act.put]
  obtain ⟨W4, hW4⟩ : ∃ z, z = w3.setRow GT TN.toArray := ⟨_, rfl⟩
  have V4 := Lib.hid (show VRow W4 GT 25 TN by rw [hW4]; exact VT3.setRow TN)
  have b34 : Below w.heap.size w3 W4 := by rw [hW4]; exact below_setRow (Below.refl _ _) (by have := HGT.out; omega) _
  have B4 := Lib.hid ((B2.out.trans (hb3.mono B2.out.size)).trans b34)
  have R4 := Lib.hid (RowR.below hv' (b34.mono HB.out))
  change Code.wp _ _ _ _ (w3.setRow GT TN.toArray)
  rw [← hW4]
  clear hW4 b34 hb3 VT3 VT2 B2 hv' HKL HLL
  have HB4 := Lib.hid (Nat.le_trans HB.out B4.out.size)
  have HZ := Lib.hid hz
  go_upto_region 5 with (first
    | (refine wpList_load_vrow rfl 25 (.tmp 3) rfl rfl V4.out Try.underlying25 HNL.out ?_)
    | (go_at_call 9; refine (HOWN.out _ _ R4.out HB4.out).mono ?_; rintro e w5 ⟨u, rfl, hu, hb5⟩; obtain ⟨Au, cu, rfl, _, _⟩ := RowR.form hu)
    | (refine wpList_store_vrow rfl 30 (.tmp 6) (.tmp 28) rfl (us := TN) rfl rfl (VRow.new w5 30 [Value.int .i64 0, .int .i64 0, .int .i64 0, .int .i64 0, .int .u64 0]) HNT.out HL5.out HN1.out ?_))
  try dsimp only [Act.put]
  obtain ⟨nX, hnX⟩ : ∃ z, z = l'.length := ⟨_, rfl⟩
  have b57 : Below w5.heap.size w5 ((w5.alloc (.cells #[.int .i64 0, .int .i64 0, .int .i64 0, .int .i64 0, .int .u64 0] 30)).setRow w5.heap.size TN.toArray) := below_setRow ((Below.refl _ _).alloc (Nat.le_refl _) _) (Nat.le_refl _) _
  have v7 : VRow ((w5.alloc (.cells #[.int .i64 0, .int .i64 0, .int .i64 0, .int .i64 0, .int .u64 0] 30)).setRow w5.heap.size TN.toArray) w5.heap.size 30 TN := (VRow.new w5 30 [Value.int .i64 0, .int .i64 0, .int .i64 0, .int .i64 0, .int .u64 0]).setRow TN
  obtain ⟨W7, hW7⟩ : ∃ z, z = (w5.alloc (.cells #[.int .i64 0, .int .i64 0, .int .i64 0, .int .i64 0, .int .u64 0] 30)).setRow w5.heap.size TN.toArray := ⟨_, rfl⟩
  rw [← hW7] at b57 v7
  change Code.wp _ _ _ _ ((w5.alloc (.cells #[.int .i64 0, .int .i64 0, .int .i64 0, .int .i64 0, .int .u64 0] 30)).setRow w5.heap.size TN.toArray)
  rw [← hW7]
  have b47 : Below W4.heap.size W4 W7 := hb5.trans (b57.mono hb5.size)
  have VT := Lib.hid (V4.out.below b47 V4.out.lt)
  have BW := Lib.hid (B4.out.trans (b47.mono B4.out.size))
  have RX := Lib.hid (show CrR W7 B (.slice A' l'.length c') l' from RowR.below R4.out (b47.mono HB4.out))
  have UX := Lib.hid (show CrR W7 w5.heap.size (.slice Au l'.length cu) l' from RowR.below hu b57)
  have H57 := Lib.hid b57.size
  have HB7 := Lib.hid (Nat.le_trans HB.out BW.out.size)
  obtain ⟨G6, hG6⟩ : ∃ z, z = w5.heap.size := ⟨_, rfl⟩
  rw [← hG6] at v7 UX H57 ⊢
  have V6 := Lib.hid v7
  have HNX := Lib.hid hnX
  rw [← hnX] at UX RX ⊢
  have hl := HLEN.out
  rw [← hnX] at hl
  have HL := Lib.hid hl
  clear b57 v7 hW7 b47 hb5 hu hG6 hnX V4 R4 B4 HB4 HOWN HFEW hz hl
  obtain ⟨w8, hw8⟩ : ∃ z, z = W7 := ⟨_, rfl⟩
  have HBW := Lib.hid (show Below W7.heap.size W7 w8 by rw [hw8]; exact Below.refl _ _)
  rw [← hw8]
  have hrx : CrR w8 B (.slice A' nX c') l' := RowR.below RX.out (HBW.out.mono HB7.out)
  have hux : CrR w8 G6 (.slice Au nX cu) l' := RowR.below UX.out (HBW.out.mono H57.out)
  have v8 := VT.out.below HBW.out VT.out.lt
  have v6 := V6.out.below HBW.out V6.out.lt
  have hB8 : B ≤ w8.heap.size := Nat.le_trans HB7.out HBW.out.size
  have hG8 : G6 ≤ w8.heap.size := Nat.le_trans H57.out HBW.out.size
  clear hw8
  go_wp2_with (first
    | (refine wpList_load_vrow rfl 30 (.tmp 6) rfl rfl v6c Try.underlying30 HNT.out ?_)
    | (refine wpList_load_vrow rfl 30 (.tmp 6) rfl rfl v6 Try.underlying30 HNT.out ?_)
    | (go_at_call 18; refine (HLG.out _ _ _ hux hG8).mono ?_; rintro e w9 ⟨p1, rfl, hp1, hb9⟩; have c9 := hb9; have v9 := v8.below c9 v8.lt)
    | (refine wpList_load_vrow rfl 25 (.tmp 3) rfl rfl v11 Try.underlying25 HNL.out ?_)
    | (refine wpList_load_vrow rfl 25 (.tmp 3) rfl rfl v9 Try.underlying25 HNL.out ?_)
    | (go_at_call 19; refine (HRL.out _ _ (RowR.below hrx (c9.mono hB8)) (Nat.le_trans hB8 c9.size)).mono ?_; rintro e w10 ⟨p2, rfl, hp2, hb10⟩; have c10 := c9.trans (hb10.mono c9.size); have v6c := v6.below c10 v6.lt)
    | (go_at_call 20; refine (HLG2.out _ _ _ (RowR.below hux (c10.mono hG8)) (Nat.le_trans hG8 c10.size)).mono ?_; rintro e w11 ⟨p3, rfl, hp3, hb11⟩; have c11 := c10.trans (hb11.mono c10.size); have v11 := v8.below c11 v8.lt)
    | (go_at_call 21; refine (HRL2.out _ _ (RowR.below hrx (c11.mono hB8)) (Nat.le_trans hB8 c11.size)).mono ?_; rintro e w12 ⟨p4, rfl, hp4, hb12⟩; have c12 := c11.trans (hb12.mono c11.size))
    | (go_at_call 14; refine (same_any w13.heap.size p3 p4 _ _ w13 (ints_more (Ints.below (Ints.below hp3 hb12) (hb13.mono (Nat.le_refl _) |> fun q => q.mono hb12.size)) (Nat.le_trans hb12.size hb13.size)) (ints_more (Ints.below hp4 hb13) hb13.size) (Nat.le_refl _)).mono ?_; rintro e w14 ⟨rfl, hb14⟩; have c14 := c13.trans (hb14.mono c13.size))
    | (go_at_call 14; refine (same_any w12.heap.size p1 p2 _ _ w12 (ints_more (Ints.below hp1 (hb10.trans ((hb11.trans (hb12.mono hb11.size)).mono hb10.size))) (Nat.le_trans hb10.size (Nat.le_trans hb11.size hb12.size))) (ints_more (Ints.below hp2 (hb11.trans (hb12.mono hb11.size))) (Nat.le_trans hb11.size hb12.size)) (Nat.le_refl _)).mono ?_; rintro e w13 ⟨rfl, hb13⟩; have c13 := c12.trans (hb13.mono c12.size))
    | (go_at_call 15; refine (kept_any w8.heap.size _ _ l' w14 (RowR.more (RowR.below hux (c14.mono hG8)) hG8) (RowR.more (RowR.below hrx (c14.mono hB8)) hB8) c14.size).mono ?_; rintro e w15 ⟨rfl, hb15⟩))
  go_ret
  exact ⟨rfl, BW.out.trans ((HBW.out.trans ((c14.trans (hb15.mono c14.size)).mono HBW.out.size)).mono BW.out.size)⟩
end Go.Proofs.Ytammeedmccblcaa.Cs
