/-
  The reference's Sum256, walked. Conditions: sizes within the reach.
-/
import Derived.Test.YtnmegdhidpkklaaDoorRB8
import Derived.Test.YtnmegdhidpkklaaDoorRB10
import Derived.Deep.CutBlock
namespace Go.Proofs.YtnmegdhidpkklaaDoor
open Go.RowKit

theorem info_h27 : (Tryd.prog.info? 27).map (·.size) = some 32 := by kernel_rfl

set_option maxRecDepth 1000000 in
set_option maxHeartbeats 25600000 in
theorem rsum256_any (B : Nat) (x : Value) (m : List UInt8) (W0 : World) (hb : Byt W0 B x m) (hB : B ≤ W0.heap.size) (hl : m.length ≤ 100000) :
    Calls Tryd.prog 12 #[x] W0 fun e w' => e = .returned (digV (sha256 m)) ∧ Below W0.heap.size W0 w' := by
  obtain ⟨A, c, rfl⟩ := hb.form
  have rA := IRow.new W0 27 .u8 (List.replicate 32 0)
  have bA : Below W0.heap.size W0 (W0.alloc (.cells ((List.replicate 32 (0 : Int)).map (Value.int .u8)).toArray 27)) := (Below.refl _ W0).alloc (Nat.le_refl _) _
  have sA : (W0.alloc (.cells ((List.replicate 32 (0 : Int)).map (Value.int .u8)).toArray 27)).heap.size = W0.heap.size + 1 := by simp
  have HB := Lib.hid hb
  clear hb
  go_enter Tryd.func12, Tryd.ntmps12
  go_upto_region 1 with fail
  change Code.wp _ _ _ _ (W0.alloc (.cells ((List.replicate 32 (0 : Int)).map (Value.int .u8)).toArray 27))
  obtain ⟨wA, hwA⟩ : ∃ x, x = W0.alloc (.cells ((List.replicate 32 (0 : Int)).map (Value.int .u8)).toArray 27) := ⟨_, rfl⟩
  rw [← hwA] at rA bA sA ⊢
  obtain ⟨B0, hB0⟩ : ∃ B0, B0 = W0.heap.size := ⟨_, rfl⟩
  rw [← hB0] at rA bA sA ⊢
  have RA := Lib.hid rA
  have BA := Lib.hid bA
  have SA := Lib.hid sA
  have HB0 := Lib.hid hB0
  have RZ := Lib.hid (IRow.new wA 70 .u32 (List.replicate 64 0))
  have HI64 := Lib.hid (show (Tryd.prog.info? 70).map (·.size) = some k256.length from info_64)
  clear hwA rA bA sA hB0
  go_upto_region 2 with (refine wpList_store_irow rfl 70 (.tmp 3) (.tmp 20) rfl (g := wA.heap.size) (t := 70) (k := .u32) (xs := List.replicate 64 0) (ys := k256) rfl rfl RZ.out HI64.out rfl ?_)
  change Code.wp _ _ _ _ ((wA.alloc (.cells ((List.replicate 64 (0 : Int)).map (Value.int .u32)).toArray 70)).setRow wA.heap.size (k256.map (Value.int .u32)).toArray)
  obtain ⟨wB, hwB⟩ : ∃ x, x = (wA.alloc (.cells ((List.replicate 64 (0 : Int)).map (Value.int .u32)).toArray 70)).setRow wA.heap.size (k256.map (Value.int .u32)).toArray := ⟨_, rfl⟩
  rw [← hwB]
  obtain ⟨BK, hBK⟩ : ∃ BK, BK = wA.heap.size := ⟨_, rfl⟩
  have rK : IRow wB BK 70 .u32 k256 := by rw [hwB, hBK]; exact setRow_irow RZ.out
  have bB : Below BK wA wB := by rw [hwB, hBK]; exact below_setRow ((Below.refl _ wA).alloc (Nat.le_refl _) _) (Nat.le_refl _) _
  have sB : wB.heap.size = BK + 1 := by rw [hwB, hBK]; simp [World.setRow]
  rw [← hBK]
  have hk0 : BK = B0 + 1 := by rw [hBK, SA.out]
  have RK := Lib.hid rK
  have SB := Lib.hid sB
  have HK0 := Lib.hid hk0
  have RA2 := Lib.hid (RA.out.below bB (by omega))
  have BB := Lib.hid (BA.out.trans (bB.mono (by omega : B0 ≤ BK)))
  have RZ2 := Lib.hid (IRow.new wB 40 .u32 (List.replicate 8 0))
  have HI8 := Lib.hid (show (Tryd.prog.info? 40).map (·.size) = some start256.list.length from info_8)
  clear hwB hBK rK bB sB hk0 RZ
  try dsimp only [Act.put]
  go_upto_region 3 with (refine wpList_store_irow rfl 40 (.tmp 4) (.tmp 21) rfl (g := wB.heap.size) (t := 40) (k := .u32) (xs := List.replicate 8 0) (ys := start256.list) rfl rfl RZ2.out HI8.out rfl ?_)
  change Code.wp _ _ _ _ ((wB.alloc (.cells ((List.replicate 8 (0 : Int)).map (Value.int .u32)).toArray 40)).setRow wB.heap.size (start256.list.map (Value.int .u32)).toArray)
  obtain ⟨w1, hw1⟩ : ∃ x, x = (wB.alloc (.cells ((List.replicate 8 (0 : Int)).map (Value.int .u32)).toArray 40)).setRow wB.heap.size (start256.list.map (Value.int .u32)).toArray := ⟨_, rfl⟩
  rw [← hw1]
  obtain ⟨BH, hBH⟩ : ∃ BH, BH = wB.heap.size := ⟨_, rfl⟩
  have rH : IRow w1 BH 40 .u32 start256.list := by rw [hw1, hBH]; exact setRow_irow RZ2.out
  have bH : Below BH wB w1 := by rw [hw1, hBH]; exact below_setRow ((Below.refl _ wB).alloc (Nat.le_refl _) _) (Nat.le_refl _) _
  have s1 : w1.heap.size = BH + 1 := by rw [hw1, hBH]; simp [World.setRow]
  rw [← hBH]
  have hh0 : BH = BK + 1 := by rw [hBH, SB.out]
  have hk0 := HK0.out
  have rK := RK.out.below bH (by omega)
  have rA := RA2.out.below bH (by omega)
  have b1 := BB.out.trans (bH.mono (by omega : B0 ≤ BH))
  have C := Lib.hid (fill256_any B _ m w1 (HB.out.below (b1.mono (by rw [HB0.out]; exact hB))) (by have := b1.size; omega) (by omega) (by omega))
  have HH0 := Lib.hid hh0
  have S1 := Lib.hid s1
  have RH := Lib.hid rH
  have RK1 := Lib.hid rK
  have RA1 := Lib.hid rA
  have B1 := Lib.hid b1
  clear hw1 hBH rH bH s1 hh0 hk0 rK rA b1 RZ2 RA2 BB RK
  try dsimp only [Act.put]
  go_wp2_with fail
  refine C.out.mono ?_
  rintro e w2 ⟨v, rfl, hown, hb2⟩
  rw [fillG_256] at hown
  obtain ⟨FM, hF⟩ : ∃ FM, FM = full m := ⟨_, rfl⟩
  rw [← hF] at hown
  obtain ⟨M, hM⟩ : ∃ M, M = FM.length := ⟨_, rfl⟩
  have hMb : M ≤ 100200 := by rw [hM, hF]; unfold full padB lenB; simp; omega
  have hM64 : M % 64 = 0 := by rw [hM, hF]; exact full_blocks m
  have hMp : 0 < M := by rw [hM, hF]; unfold full padB; simp; omega
  obtain ⟨gm, cm, rfl, hgm, hgs, hcm⟩ := hown.block (by omega)
  have hcap : cm ≤ 9223372036854775807 := by
    obtain ⟨_, c', e, _, h2, _⟩ := hown.byt
    injection e with _ _ e3
    subst e3
    unfold maxLen at h2
    exact h2
  have hcell : ∀ (j : Nat) (u : UInt8), FM[j]? = some u → w2.cell? ⟨gm, j, none⟩ = some (bv u) := fun j u hu => hown.cell hu
  have rH := RH.out.below hb2 RH.out.lt
  have rK := RK1.out.below hb2 RK1.out.lt
  have rA := RA1.out.below hb2 RA1.out.lt
  have b2 := B1.out.trans (hb2.mono B1.out.size |>.mono (by have := HB0.out; omega))
  have hgH : BH < gm := by have := S1.out; omega
  rw [← hM] at hcm ⊢
  have HF := Lib.hid hF
  have HM := Lib.hid hM
  have HC := Lib.hid hcell
  have RH2 := Lib.hid rH
  have RK2 := Lib.hid rK
  have RA2 := Lib.hid rA
  have B2 := Lib.hid b2
  have G2 := Lib.hid hgs
  clear hown hb2 hF hM hcell rH rK rA b2 hgs RH RK1 RA1 B1 C
  go_wp2_with fail
  go_loopw [6] (fun v6 wr => ∃ q : Nat, 64 * q ≤ M ∧ v6 = .int .i64 ((64 * q : Nat) : Int) ∧ IRow wr BH 40 .u32 (blocks256 FM q).list ∧ Turns (· = BH) w2 wr) (fun v6 _ => M - (intOf v6).toNat)
  case atStart => exact ⟨0, by omega, rfl, RH2.out, Turns.refl _ _⟩
  case round =>
    obtain ⟨q, hq, rfl, rH, tH⟩ := hrel
    obtain ⟨p, hp⟩ : ∃ p, p = 64 * q := ⟨_, rfl⟩
    rw [← hp]
    obtain ⟨w3, hw3⟩ : ∃ w3 : World, w3 = wr := ⟨_, rfl⟩
    rw [← hw3] at rH tH ⊢
    clear hw3
    have R3 := Lib.hid rH
    have T3 := Lib.hid tH
    have HP := Lib.hid hp
    clear rH tH hp
    by_cases hlt : p < M
    · obtain ⟨bs, hbs⟩ : ∃ bs, bs = (FM.drop (64 * q)).take 64 := ⟨_, rfl⟩
      have hbl : bs.length = 64 := by rw [hbs, List.length_take, List.length_drop, ← HM.out]; have := HP.out; omega
      have hbc : ∀ wx, Turns (· = BH) w2 wx → ∀ (j : Nat) (u : UInt8), bs[j]? = some u → wx.cell? ⟨gm, p + j, none⟩ = some (bv u) := fun wx ht j u hu => by
        refine (ht.cell (p := ⟨gm, p + j, none⟩) G2.out (by show gm ≠ BH; omega)).trans (HC.out _ _ ?_)
        rw [hbs, List.getElem?_take] at hu
        split at hu
        · rw [List.getElem?_drop] at hu; rw [HP.out]; exact hu
        · exact absurd hu (by simp)
      have HBS := Lib.hid hbs
      have HBL := Lib.hid hbl
      have HBC := Lib.hid hbc
      clear hbs hbl hbc
      have rW := IRow.new w3 70 .u32 (List.replicate 64 0)
      have bW : Below w3.heap.size w3 (w3.alloc (.cells ((List.replicate 64 (0 : Int)).map (Value.int .u32)).toArray 70)) := (Below.refl _ w3).alloc (Nat.le_refl _) _
      have RW0 := Lib.hid rW
      have BW0 := Lib.hid bW
      clear rW bW
      go_upto_block 2 with fail
      change Code.wp _ _ _ _ (w3.alloc (.cells ((List.replicate 64 (0 : Int)).map (Value.int .u32)).toArray 70))
      obtain ⟨w4, hw4⟩ : ∃ x, x = w3.alloc (.cells ((List.replicate 64 (0 : Int)).map (Value.int .u32)).toArray 70) := ⟨_, rfl⟩
      rw [← hw4] at RW0 BW0 ⊢
      obtain ⟨W, hW⟩ : ∃ W, W = w3.heap.size := ⟨_, rfl⟩
      rw [← hW] at RW0 BW0 ⊢
      have hWH : BH < W := by have := T3.out.size; have := G2.out; omega
      have hWm : gm < W := by have := T3.out.size; have := G2.out; omega
      have HW := Lib.hid hW
      clear hw4 hW
      try dsimp only [Act.put]
      have hbc4 : ∀ (j : Nat) (u : UInt8), bs[j]? = some u → w4.cell? ⟨gm, p + j, none⟩ = some (bv u) := fun j u hu => (BW0.out.cell (p := ⟨gm, p + j, none⟩) hWm).trans (HBC.out w3 T3.out j u hu)
      refine rb2_any W gm p M cm bs w4 HBL.out (by have := HP.out; omega) hMb hWm RW0.out hbc4 _ _ _ _ _ _ _ _ _ _ _ _ _ _ _ _ _ _ _ _ _ _ _ _ _ _ _ _ _ _ _ _ _ _ _ _ _ _ _ _ _ _ _ _ _ _ _ _ _ _ _ _ _ _ _ _ _ _ _ _ _ _ _ _ _ _ _ _ _ _ _ _ _ _ _ _ _ _ _ _ _ _ _ _ _ _ _ _ _ _ _ _ _ _ _ _ _ _ _ _ _ _ _ _ _ _ _ _ _ _ _ _ _ _ _ _ _ _ _ _ _ _ _ _ _ _ _ _ _ _ _ _ _ _ _ _ _ _ _ _ _ _ _ _ _ _ _ _ _ _ _ _ _ _ _ _ _ _ _ _ _ _ _ _ _ _ _ _ _ _ _ _ _ _ _ _ _ _ _ _ _ _ _ _ _ _ _ _ _ _ _ _ _ _ _ _ _ _ _ _ _ _ _ _ _ _ _ _ _ _ _ _ _ _ _ _ _ _ _ _ _ _ _ _ (fun _ _ _ _ _ h => h) (fun v2_8 v2_9 v2_30 v2_31 v2_32 v2_33 v2_34 v2_35 v2_36 v2_37 v2_38 v2_39 v2_40 v2_41 v2_42 v2_43 v2_44 v2_45 v2_46 v2_47 v2_48 v2_49 v2_50 v2_51 v2_52 v2_53 v2_54 w5 r5 b5 => ?_)
      have R5 := Lib.hid r5
      have B5 := Lib.hid b5
      clear r5 b5 hbc4
      go_upto_block 6 with fail
      refine rb6_any W bs w5 R5.out _ _ _ _ _ _ _ _ _ _ _ _ _ _ _ _ _ _ _ _ _ _ _ _ _ _ _ _ _ _ _ _ _ _ _ _ _ _ _ _ _ _ _ _ _ _ _ _ _ _ _ _ _ _ _ _ _ _ _ _ _ _ _ _ _ _ _ _ _ _ _ _ _ _ _ _ _ _ _ _ _ _ _ _ _ _ _ _ _ _ _ _ _ _ _ _ _ _ _ _ _ _ _ _ _ _ _ _ _ _ _ _ _ _ _ _ _ _ _ _ _ _ _ _ _ _ _ _ _ _ _ _ _ _ _ _ _ _ _ _ _ _ _ _ _ _ _ _ _ _ _ _ _ _ _ _ _ _ _ _ _ _ _ _ _ _ _ _ _ _ _ _ _ _ _ _ _ _ _ _ _ _ _ _ _ _ _ _ _ _ _ _ _ _ _ _ _ _ _ _ _ _ _ _ _ _ _ _ _ _ _ _ _ _ _ _ _ _ _ _ _ _ _ _ _ _ (fun _ _ _ _ _ h => h) (fun v6_10 v6_11 v6_12 v6_55 v6_56 v6_57 v6_58 v6_59 v6_60 v6_61 v6_62 v6_63 v6_64 v6_65 v6_66 v6_67 v6_68 v6_69 v6_70 v6_71 v6_72 v6_73 v6_74 v6_75 v6_76 v6_77 v6_78 v6_79 v6_80 v6_81 v6_82 v6_83 v6_84 v6_85 v6_86 v6_87 v6_88 v6_89 v6_90 v6_91 v6_92 v6_93 v6_94 v6_95 v6_96 v6_97 v6_98 v6_99 v6_100 v6_101 v6_102 v6_103 v6_104 v6_105 v6_106 v6_107 w6 r6 b6 => ?_)
      have hb36 := BW0.out.trans (B5.out.trans b6)
      have t36 : Turns (· = BH) w2 w6 := T3.out.trans (Turns.of_below (S := (· = BH)) (by rw [← HW.out]; exact hb36)) (fun _ _ h => h)
      have R6 := Lib.hid r6
      have RH6 := Lib.hid (R3.out.below hb36 hWH)
      have T6 := Lib.hid t36
      have W6 := Lib.hid (show W < w6.heap.size from r6.lt)
      obtain ⟨sq, hsq⟩ : ∃ sq, sq = blocks256 FM q := ⟨_, rfl⟩
      rw [← hsq] at RH6
      have HSQ := Lib.hid hsq
      have RZ6 := Lib.hid (IRow.new w6 40 .u32 (List.replicate 8 0))
      have HI8q := Lib.hid (show (Tryd.prog.info? 40).map (·.size) = some sq.list.length from info_8)
      clear r6 b6 hb36 t36 hsq
      go_upto_block 8 with (first
        | (refine wpList_load_irow rfl 40 (.tmp 4) rfl (g := BH) (t := 40) (k := .u32) (xs := sq.list) rfl RH6.out Tryd.underlying40 HI8q.out ?_)
        | (refine wpList_store_irow rfl 40 (.tmp 13) (.tmp 108) rfl (g := w6.heap.size) (t := 40) (k := .u32) (xs := List.replicate 8 0) (ys := sq.list) rfl rfl RZ6.out HI8q.out rfl ?_))
      change Code.wp _ _ _ _ ((w6.alloc (.cells ((List.replicate 8 (0 : Int)).map (Value.int .u32)).toArray 40)).setRow w6.heap.size (sq.list.map (Value.int .u32)).toArray)
      obtain ⟨w7, hw7⟩ : ∃ x, x = (w6.alloc (.cells ((List.replicate 8 (0 : Int)).map (Value.int .u32)).toArray 40)).setRow w6.heap.size (sq.list.map (Value.int .u32)).toArray := ⟨_, rfl⟩
      rw [← hw7]
      have r7 : IRow w7 w6.heap.size 40 .u32 sq.list := by rw [hw7]; exact setRow_irow RZ6.out
      have b7 : Below w6.heap.size w6 w7 := by rw [hw7]; exact below_setRow ((Below.refl _ w6).alloc (Nat.le_refl _) _) (Nat.le_refl _) _
      obtain ⟨V, hV⟩ : ∃ V, V = w6.heap.size := ⟨_, rfl⟩
      rw [← hV] at r7 b7 ⊢
      have hVW : W < V := by have := W6.out; omega
      have t7 : Turns (· = BH) w2 w7 := T6.out.trans (Turns.of_below (S := (· = BH)) (by rw [← hV]; exact b7)) (fun _ _ h => h)
      have hBKH : BK < BH := by have := HH0.out; omega
      have rK7 : IRow w7 BK 70 .u32 k256 := RK2.out.turns t7 (by omega)
      have rW7 := R6.out.below b7 hVW
      have rH7 := RH6.out.below b7 (by omega)
      have hoks : sq.Ok := by rw [HSQ.out]; exact blocks256_ok _ _
      have RH7 := Lib.hid rH7
      have T7 := Lib.hid t7
      have V7 := Lib.hid (show V < w7.heap.size from r7.lt)
      try dsimp only [Act.put]
      refine rb8_any BK W V bs sq w7 hoks (by omega) hVW rK7 rW7 r7 _ _ _ _ _ _ _ _ _ _ _ _ _ _ _ _ _ _ _ _ _ _ _ _ _ _ _ _ _ _ _ _ _ _ _ _ _ _ _ _ _ _ _ _ _ _ _ _ _ _ _ _ _ _ _ _ _ _ _ _ _ _ _ _ _ _ _ _ _ _ _ _ _ _ _ _ _ _ _ _ _ _ _ _ _ _ _ _ _ _ _ _ _ _ _ _ _ _ _ _ _ _ _ _ _ _ _ _ _ _ _ _ _ _ _ _ _ _ _ _ _ _ _ _ _ _ _ _ _ _ _ _ _ _ _ _ _ _ _ _ _ _ _ _ _ _ _ _ _ _ _ _ _ _ _ _ _ _ _ _ _ _ _ _ _ _ _ _ _ _ _ _ _ _ _ _ _ _ _ _ _ _ _ _ _ _ _ _ _ _ _ _ _ _ _ _ _ _ _ _ _ _ _ _ _ _ _ _ _ _ _ _ _ _ _ _ _ _ _ _ _ _ _ _ (fun _ _ _ _ _ h => h) (fun v8_14 v8_15 v8_16 v8_109 v8_110 v8_111 v8_112 v8_113 v8_114 v8_115 v8_116 v8_117 v8_118 v8_119 v8_120 v8_121 v8_122 v8_123 v8_124 v8_125 v8_126 v8_127 v8_128 v8_129 v8_130 v8_131 v8_132 v8_133 v8_134 v8_135 v8_136 v8_137 v8_138 v8_139 v8_140 v8_141 v8_142 v8_143 v8_144 v8_145 v8_146 v8_147 v8_148 v8_149 v8_150 v8_151 v8_152 v8_153 v8_154 v8_155 v8_156 v8_157 v8_158 v8_159 v8_160 v8_161 v8_162 v8_163 v8_164 v8_165 v8_166 v8_167 v8_168 v8_169 v8_170 v8_171 v8_172 v8_173 v8_174 v8_175 v8_176 v8_177 v8_178 v8_179 v8_180 v8_181 v8_182 v8_183 v8_184 v8_185 v8_186 v8_187 v8_188 v8_189 v8_190 v8_191 v8_192 v8_193 v8_194 v8_195 v8_196 w8 r8 b8 => ?_)
      have rH8 := RH7.out.below b8 (by omega)
      have h2W : w2.heap.size ≤ W := by rw [HW.out]; exact T3.out.size
      have t8 : Turns (· = BH) w2 w8 := ⟨b8.os.trans T7.out.os, b8.tape.trans T7.out.tape, b8.output.trans T7.out.output, Nat.le_trans T7.out.size b8.size, fun k hk hn => (b8.block k (by omega)).trans (T7.out.block k hk hn)⟩
      obtain ⟨sv, hsv⟩ : ∃ sv, sv = rounds k256 (W64 bs) 64 sq := ⟨_, rfl⟩
      rw [← hsv] at r8
      have R8 := Lib.hid r8
      have RH8 := Lib.hid rH8
      have T8 := Lib.hid t8
      have HSV := Lib.hid hsv
      clear r8 b8 rH8 t8 hsv rK7 rW7 r7 b7 t7 rH7
      go_upto_block 10 with fail
      refine rb10_any BH V sq sv w8 (by omega) RH8.out R8.out _ _ _ _ _ _ _ _ _ _ _ _ _ _ _ _ _ _ _ _ _ _ _ _ _ _ _ _ _ _ _ _ _ _ _ _ _ _ _ _ _ _ _ _ _ _ _ _ _ _ _ _ _ _ _ _ _ _ _ _ _ _ _ _ _ _ _ _ _ _ _ _ _ _ _ _ _ _ _ _ _ _ _ _ _ _ _ _ _ _ _ _ _ _ _ _ _ _ _ _ _ _ _ _ _ _ _ _ _ _ _ _ _ _ _ _ _ _ _ _ _ _ _ _ _ _ _ _ _ _ _ _ _ _ _ _ _ _ _ _ _ _ _ _ _ _ _ _ _ _ _ _ _ _ _ _ _ _ _ _ _ _ _ _ _ _ _ _ _ _ _ _ _ _ _ _ _ _ _ _ _ _ _ _ _ _ _ _ _ _ _ _ _ _ _ _ _ _ _ _ _ _ _ _ _ _ _ _ _ _ _ _ _ _ _ _ _ _ _ _ _ _ _ _ _ (fun _ _ _ _ _ h => h) (fun v10_17 v10_197 v10_198 v10_199 v10_200 v10_201 v10_202 v10_203 v10_204 v10_205 v10_206 v10_207 v10_208 v10_209 w9 r9 t9 => ?_)
      have e9 : mix sq.list sv.list 8 = (blocks256 FM (q + 1)).list := by rw [blocks256, ← HSQ.out, ← HBS.out, HSV.out]; rfl
      rw [e9] at r9
      have R9 := Lib.hid r9
      have T9 := Lib.hid (T8.out.trans t9 (fun _ _ h => h))
      clear r9 t9 e9
      have ep : IntKind.i64.wrap ((p : Int) + 64) = (p : Int) + 64 := by rw [IntWalk.i64_in _ (by omega)]
      go_wp2_with fail
      exact ⟨⟨q + 1, by have := HP.out; omega, by have := HP.out; exact congrArg (Value.int .i64) (by omega), R9.out, T9.out⟩, by simp [intOf]; omega⟩
    · have hpM : p = M := by have := HP.out; omega
      have hd : ¬ (p : Int) < (M : Int) := by omega
      have hqM : q = FM.length / 64 := by rw [← HM.out]; have := HP.out; omega
      have hsha : sha256 m = outB (blocks256 FM q).list := by rw [hqM, HF.out]; rfl
      have hoks : (blocks256 FM q).Ok := blocks256_ok _ _
      obtain ⟨sq, hsq⟩ : ∃ sq, sq = blocks256 FM q := ⟨_, rfl⟩
      rw [← hsq] at R3 hsha hoks
      have rG := IRow.new w3 27 .u8 (List.replicate 32 0)
      have bG : Below w3.heap.size w3 (w3.alloc (.cells ((List.replicate 32 (0 : Int)).map (Value.int .u8)).toArray 27)) := (Below.refl _ w3).alloc (Nat.le_refl _) _
      have RG := Lib.hid rG
      have BG := Lib.hid bG
      have HSHA := Lib.hid hsha
      have HOKS := Lib.hid hoks
      clear rG bG hqM hsha hoks hsq
      go_upto_block 12 with fail
      change Code.wp _ _ _ _ (w3.alloc (.cells ((List.replicate 32 (0 : Int)).map (Value.int .u8)).toArray 27))
      obtain ⟨w4, hw4⟩ : ∃ x, x = w3.alloc (.cells ((List.replicate 32 (0 : Int)).map (Value.int .u8)).toArray 27) := ⟨_, rfl⟩
      rw [← hw4] at RG BG ⊢
      obtain ⟨G, hG⟩ : ∃ G, G = w3.heap.size := ⟨_, rfl⟩
      rw [← hG] at RG BG ⊢
      have hHG : BH < G := by have := T3.out.size; have := G2.out; omega
      have hb23 : Below B0 w2 w3 := T3.out.below_of (by have := HK0.out; have := HH0.out; have := G2.out; omega) (by intro i hi h; have := HK0.out; have := HH0.out; omega)
      have hb4 := B2.out.trans (hb23.trans (BG.out.mono (by have := HK0.out; have := HH0.out; omega)))
      have rA4 := ((RA2.out.below (B := B0 + 1) (T3.out.below_of (by have := HK0.out; have := HH0.out; have := G2.out; omega) (by intro i hi h; have := HK0.out; have := HH0.out; omega)) (by omega)).below BG.out (by have := HK0.out; have := HH0.out; omega))
      have RA4 := Lib.hid rA4
      have B4 := Lib.hid hb4
      clear hw4 hG hb23 hb4 rA4
      try dsimp only [Act.put]
      refine rb12_any BH G sq w4 HOKS.out hHG (R3.out.below BG.out hHG) RG.out _ _ _ _ _ _ _ _ _ _ _ _ _ _ _ _ _ _ _ _ _ _ _ _ _ _ _ _ _ _ _ _ _ _ _ _ _ _ _ _ _ _ _ _ _ _ _ _ _ _ _ _ _ _ _ _ _ _ _ _ _ _ _ _ _ _ _ _ _ _ _ _ _ _ _ _ _ _ _ _ _ _ _ _ _ _ _ _ _ _ _ _ _ _ _ _ _ _ _ _ _ _ _ _ _ _ _ _ _ _ _ _ _ _ _ _ _ _ _ _ _ _ _ _ _ _ _ _ _ _ _ _ _ _ _ _ _ _ _ _ _ _ _ _ _ _ _ _ _ _ _ _ _ _ _ _ _ _ _ _ _ _ _ _ _ _ _ _ _ _ _ _ _ _ _ _ _ _ _ _ _ _ _ _ _ _ _ _ _ _ _ _ _ _ _ _ _ _ _ _ _ _ _ _ _ _ _ _ _ _ _ _ _ _ _ _ _ _ _ _ _ _ _ _ _ (fun _ _ _ _ _ h => h) (fun v12_19 v12_210 v12_211 v12_212 v12_213 v12_214 v12_215 v12_216 v12_217 v12_218 v12_219 v12_220 v12_221 v12_222 v12_223 v12_224 v12_225 v12_226 w5 r5 b5 => ?_)
      rw [← HSHA.out] at r5
      have hB0G : B0 < G := by have := HK0.out; have := HH0.out; omega
      have hsz : (nums (sha256 m)).length = 32 := by rw [nums_length, sha256_length]
      have HI := Lib.hid (show (Tryd.prog.info? 27).map (·.size) = some (nums (sha256 m)).length by rw [hsz]; exact info_h27)
      have HL := Lib.hid (show (List.replicate 32 (0 : Int)).length = (nums (sha256 m)).length by rw [hsz]; rfl)
      have rA5 := RA4.out.below b5 hB0G
      have hb5 := B4.out.trans (b5.mono (by omega : B0 ≤ G))
      have R5 := Lib.hid r5
      have RA5 := Lib.hid rA5
      have HFIN := Lib.hid (setRow_irow (ys := nums (sha256 m)) rA5)
      have HBF := Lib.hid (below_setRow hb5 (Nat.le_refl _) ((nums (sha256 m)).map (Value.int .u8)).toArray)
      clear r5 b5 rA5 hb5 hsz
      go_wp2_with (first
        | (refine wpList_load_irow rfl 27 (.tmp 18) rfl (g := G) (t := 27) (k := .u8) (xs := nums (sha256 m)) rfl R5.out Tryd.underlying27 HI.out ?_)
        | (refine wpList_store_irow rfl 27 (.tmp 2) (.tmp 227) rfl (g := B0) (t := 27) (k := .u8) (xs := List.replicate 32 0) (ys := nums (sha256 m)) rfl rfl RA5.out HI.out HL.out ?_))
      refine bodyPost_ret (v := digV (sha256 m)) ?_ rfl ⟨rfl, by rw [← HB0.out]; exact HBF.out⟩
      obtain ⟨fr, hrw⟩ : ∃ fr, ((w5.setRow B0 ((nums (sha256 m)).map (Value.int .u8)).toArray)).heap[B0]? = some (.cells ((nums (sha256 m)).map (Value.int .u8)).toArray 27 fr) := ⟨_, HFIN.out⟩
      exact results_cell_row Tryd.results12 _ _ B0 27 ((nums (sha256 m)).map (Value.int .u8)).toArray fr _ rfl hrw Tryd.underlying27 rfl (by rw [List.size_toArray, List.length_map]; exact HI.out)
end Go.Proofs.YtnmegdhidpkklaaDoor
