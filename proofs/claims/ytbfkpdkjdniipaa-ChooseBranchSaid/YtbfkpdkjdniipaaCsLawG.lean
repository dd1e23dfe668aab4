/-
  The law ChooseBranch. Conditions: the coins' numbers are int64 (they came so).
-/
import Derived.Test.YtbfkpdkjdniipaaCsLawF
import Derived.Test.YtbfkpdkjdniipaaCsRbra
namespace Go.Proofs.Ytbfkpdkjdniipaa.Cs
open Go.RowKit

set_option maxRecDepth 100000 in
set_option maxHeartbeats 6400000 in
theorem branch_law (B : Nat) (v : Value) (l : List (Int × Int)) (need extra rate tries seed : Int) (w : World) (hX : CrR w B v l) (hB : B ≤ w.heap.size) (hc : CoinsOk l) (hn : need ≤ 9223372036854775807) :
    Calls Try.prog 4 #[v, .agg (tkC need extra rate tries seed).toArray] w fun r w' => r = .returned (.bool true) ∧ Below w.heap.size w w' := by
  have hlen : (l.take 14).length ≤ 14 := by rw [List.length_take]; omega
  have hcl : CoinsOk (l.take 14) := fun c h => hc c (List.mem_of_mem_take h)
  have hfew := fun W (hb : Below w.heap.size w W) => few_any B v l need extra rate tries seed W (RowR.below hX (hb.mono hB)) (Nat.le_trans hB hb.size)
  obtain ⟨A, c, rfl, _, _⟩ := RowR.form hX
  obtain ⟨l', hl'⟩ : ∃ z, z = l.take 14 := ⟨_, rfl⟩
  obtain ⟨t', ht'⟩ : ∃ z, z = fewT tries := ⟨_, rfl⟩
  simp only [← hl', ← ht'] at hfew hlen hcl
  have hown := fun (v : Value) (W : World) (hX : CrR W B v l') (hB : B ≤ W.heap.size) => own_any B v l' need extra rate t' seed W hX hB hlen
  have hlg := fun (B : Nat) (v : Value) (W : World) (hX : CrR W B v l') (hB : B ≤ W.heap.size) => Branch_any B v l' need extra rate t' seed W hX hB (by omega) hcl hn
  have hrl := fun (v : Value) (W : World) (hX : CrR W B v l') (hB : B ≤ W.heap.size) => rbranch_any B v l' need extra rate t' seed W hX hB (by omega) hcl
  obtain ⟨R, hR⟩ : ∃ z, z = BranchF need extra rate t' l' := ⟨_, rfl⟩
  simp only [← hR] at hlg hrl
  obtain ⟨TN, hTN⟩ : ∃ z, z = tkC need extra rate t' seed := ⟨_, rfl⟩
  obtain ⟨TK, hTK⟩ : ∃ z, z = tkC need extra rate tries seed := ⟨_, rfl⟩
  simp only [← hTN, ← hTK] at hfew hown hlg hrl
  have hTN1 : TN.toArray.all (·.oneCell') = true := by rw [hTN]; exact rtsk_one need extra rate t' seed
  have hTNl : TN.length = 5 := by rw [hTN]; rfl
  have hTKl : TK.length = 5 := by rw [hTK]; rfl
  have hTN2 : TN[2]? = some (.int .i64 rate) := by rw [hTN]; rfl
  have hz : ∀ W, (zeroValue 30).run Try.prog W = .ok (.agg #[.int .i64 0, .int .i64 0, .int .i64 0, .int .i64 0, .int .u64 0]) W := fun W => by kernel_rfl
  have HFEW := Lib.hid hfew
  have HOWN := Lib.hid hown
  have HLG := Lib.hid hlg
  have HRL := Lib.hid hrl
  have HB := Lib.hid hB
  have HCL := Lib.hid hcl
  have HLEN := Lib.hid hlen
  have HTK := Lib.hid hTK
  have HN1 := Lib.hid hTN1
  have HNL := Lib.hid (show (Try.prog.info? 25).map (·.size) = some TN.length by rw [hTNl]; exact rtsk5)
  have HNT := Lib.hid (show (Try.prog.info? 30).map (·.size) = some TN.length by rw [hTNl]; exact tsk5)
  have HKL := Lib.hid (show (Try.prog.info? 25).map (·.size) = some TK.length by rw [hTKl]; exact rtsk5)
  have HLL := Lib.hid (show TK.length = TN.length by rw [hTKl, hTNl])
  have HL5 := Lib.hid (show [Value.int .i64 0, .int .i64 0, .int .i64 0, .int .i64 0, .int .u64 0].length = TN.length by rw [hTNl]; rfl)
  have HN2 := Lib.hid hTN2
  clear hfew hown hlg hrl hB hcl hlen hTK hTN1 hTNl hTKl hTN hTN2 hX hc hl' ht' hR
  unfold tkC at HTK ⊢
  go_enter Try.func4, Try.ntmps4
  go_upto_region 1 with fail
  obtain ⟨W1, hW1⟩ : ∃ z, z = w.alloc (.cells TK.toArray 25) := ⟨_, rfl⟩
  have hv1 : VRow W1 w.heap.size 25 TK := by rw [hW1]; exact VRow.new w _ TK
  have hb1 : Below w.heap.size w W1 := by rw [hW1]; exact (Below.refl _ _).alloc (Nat.le_refl _) _
  change Code.wp _ _ _ _ (w.alloc (.cells [Value.int .i64 need, .int .i64 extra, .int .i64 rate, .int .i64 tries, .int .u64 seed].toArray 25))
  rw [← HTK.out, ← hW1]
  obtain ⟨GT, hGT⟩ : ∃ z, z = w.heap.size := ⟨_, rfl⟩
  rw [← hGT] at hv1
  rw [← hGT]
  have HGT := Lib.hid hGT
  have HV1 := Lib.hid hv1
  have HB1 := Lib.hid hb1
  clear hv1 hb1 hW1 hGT HTK
  go_upto_region 3 with (first
    | (go_at_call 7; refine (awake_any _).mono ?_; rintro e w2 ⟨rfl, hb2⟩))
  have VT2 := Lib.hid (HV1.out.below hb2 HV1.out.lt)
  have B2 := Lib.hid (HB1.out.trans (hb2.mono HB1.out.size))
  clear hb2 HV1 HB1
  go_upto_region 4 with (first
    | (refine wpList_load_vrow rfl 25 (.tmp 3) rfl rfl VT2.out Try.underlying25 HKL.out ?_)
    | (go_at_call 8; refine (HFEW.out _ B2.out).mono ?_; rintro e w3 ⟨v', rfl, hv', hb3⟩; obtain ⟨A', c', rfl, _, _⟩ := RowR.form hv'; have VT3 := VT2.out.below hb3 VT2.out.lt)
    | (refine wpList_store_vrow rfl 25 (.tmp 3) (.tmp 18) rfl (us := TN) rfl rfl VT3 HNL.out HLL.out HN1.out ?_))
  try dsimp only [Act.put]
  obtain ⟨W4, hW4⟩ : ∃ z, z = w3.setRow GT TN.toArray := ⟨_, rfl⟩
  have V4 := Lib.hid (show VRow W4 GT 25 TN by rw [hW4]; exact VT3.setRow TN)
  have b34 : Below w.heap.size w3 W4 := by rw [hW4]; exact below_setRow (Below.refl _ _) (by have := HGT.out; omega) _
  have B4 := Lib.hid ((B2.out.trans (hb3.mono B2.out.size)).trans b34)
  have R4 := Lib.hid (RowR.below hv' (b34.mono HB.out))
  change Code.wp _ _ _ _ (w3.setRow GT TN.toArray)
  rw [← hW4]
  clear hW4 b34 hb3 VT3 VT2 B2 hv' HKL HLL
  have HB4 := Lib.hid (Nat.le_trans HB.out B4.out.size)
  have HZ := Lib.hid hz
  go_upto_region 5 with (first
    | (refine wpList_load_vrow rfl 25 (.tmp 3) rfl rfl V4.out Try.underlying25 HNL.out ?_)
    | (go_at_call 9; refine (HOWN.out _ _ R4.out HB4.out).mono ?_; rintro e w5 ⟨u, rfl, hu, hb5⟩; obtain ⟨Au, cu, rfl, _, _⟩ := RowR.form hu)
    | (refine wpList_store_vrow rfl 30 (.tmp 6) (.tmp 24) rfl (us := TN) rfl rfl (VRow.new w5 30 [Value.int .i64 0, .int .i64 0, .int .i64 0, .int .i64 0, .int .u64 0]) HNT.out HL5.out HN1.out ?_))
  try dsimp only [Act.put]
  obtain ⟨nX, hnX⟩ : ∃ z, z = l'.length := ⟨_, rfl⟩
  have b57 : Below w5.heap.size w5 ((w5.alloc (.cells #[.int .i64 0, .int .i64 0, .int .i64 0, .int .i64 0, .int .u64 0] 30)).setRow w5.heap.size TN.toArray) := below_setRow ((Below.refl _ _).alloc (Nat.le_refl _) _) (Nat.le_refl _) _
  have v7 : VRow ((w5.alloc (.cells #[.int .i64 0, .int .i64 0, .int .i64 0, .int .i64 0, .int .u64 0] 30)).setRow w5.heap.size TN.toArray) w5.heap.size 30 TN := (VRow.new w5 30 [Value.int .i64 0, .int .i64 0, .int .i64 0, .int .i64 0, .int .u64 0]).setRow TN
  obtain ⟨W7, hW7⟩ : ∃ z, z = (w5.alloc (.cells #[.int .i64 0, .int .i64 0, .int .i64 0, .int .i64 0, .int .u64 0] 30)).setRow w5.heap.size TN.toArray := ⟨_, rfl⟩
  rw [← hW7] at b57 v7
  change Code.wp _ _ _ _ ((w5.alloc (.cells #[.int .i64 0, .int .i64 0, .int .i64 0, .int .i64 0, .int .u64 0] 30)).setRow w5.heap.size TN.toArray)
  rw [← hW7]
  have b47 : Below W4.heap.size W4 W7 := hb5.trans (b57.mono hb5.size)
  have VT := Lib.hid (V4.out.below b47 V4.out.lt)
  have BW := Lib.hid (B4.out.trans (b47.mono B4.out.size))
  have RX := Lib.hid (show CrR W7 B (.slice A' l'.length c') l' from RowR.below R4.out (b47.mono HB4.out))
  have UX := Lib.hid (show CrR W7 w5.heap.size (.slice Au l'.length cu) l' from RowR.below hu b57)
  have H57 := Lib.hid b57.size
  have HB7 := Lib.hid (Nat.le_trans HB.out BW.out.size)
  obtain ⟨G6, hG6⟩ : ∃ z, z = w5.heap.size := ⟨_, rfl⟩
  rw [← hG6] at v7 UX H57 ⊢
  have V6 := Lib.hid v7
  have HNX := Lib.hid hnX
  rw [← hnX] at UX RX ⊢
  have hl := HLEN.out
  rw [← hnX] at hl
  have HL := Lib.hid hl
  clear b57 v7 hW7 b47 hb5 hu hG6 hnX V4 R4 B4 HB4 HOWN HFEW hz hl
  obtain ⟨w8, hw8⟩ : ∃ z, z = W7 := ⟨_, rfl⟩
  have HBW := Lib.hid (show Below W7.heap.size W7 w8 by rw [hw8]; exact Below.refl _ _)
  rw [← hw8]
  have hrx : CrR w8 B (.slice A' nX c') l' := RowR.below RX.out (HBW.out.mono HB7.out)
  have hux : CrR w8 G6 (.slice Au nX cu) l' := RowR.below UX.out (HBW.out.mono H57.out)
  have v8 := VT.out.below HBW.out VT.out.lt
  have v6 := V6.out.below HBW.out V6.out.lt
  have hB8 : B ≤ w8.heap.size := Nat.le_trans HB7.out HBW.out.size
  have hG8 : G6 ≤ w8.heap.size := Nat.le_trans H57.out HBW.out.size
  clear hw8
  go_wp2_with (first
    | (refine wpList_load_vrow rfl 30 (.tmp 6) rfl rfl v6 Try.underlying30 HNT.out ?_)
    | (go_at_call 16; refine (HLG.out _ _ _ hux hG8).mono ?_; rintro e w9 ⟨p1, rfl, hp1, hb9⟩; have v9 := v8.below hb9 v8.lt)
    | (refine wpList_load_vrow rfl 25 (.tmp 3) rfl rfl v9 Try.underlying25 HNL.out ?_)
    | (go_at_call 17; refine (HRL.out _ _ (RowR.below hrx (hb9.mono hB8)) (Nat.le_trans hB8 hb9.size)).mono ?_; rintro e w10 ⟨p2, rfl, hp2, hb10⟩)
    | (go_at_call 14; refine (same_any w10.heap.size p1 p2 _ _ w10 (ints_more (Ints.below hp1 hb10) hb10.size) hp2 (Nat.le_refl _)).mono ?_; rintro e w11 ⟨rfl, hb11⟩)
    | (go_at_call 15; refine (kept_any w8.heap.size _ _ l' w11 (RowR.more (RowR.below (RowR.below (RowR.below hux (hb9.mono hG8)) (hb10.mono (Nat.le_trans hG8 hb9.size))) (hb11.mono (Nat.le_trans hG8 (Nat.le_trans hb9.size hb10.size)))) hG8) (RowR.more (RowR.below (RowR.below (RowR.below hrx (hb9.mono hB8)) (hb10.mono (Nat.le_trans hB8 hb9.size))) (hb11.mono (Nat.le_trans hB8 (Nat.le_trans hb9.size hb10.size)))) hB8) (Nat.le_trans hb9.size (Nat.le_trans hb10.size hb11.size))).mono ?_; rintro e w12 ⟨rfl, hb12⟩))
  go_ret
  exact ⟨rfl, BW.out.trans ((HBW.out.trans ((hb9.trans ((hb10.trans ((hb11.trans (hb12.mono hb11.size)).mono hb10.size)).mono hb9.size)).mono HBW.out.size)).mono BW.out.size)⟩
end Go.Proofs.Ytbfkpdkjdniipaa.Cs
