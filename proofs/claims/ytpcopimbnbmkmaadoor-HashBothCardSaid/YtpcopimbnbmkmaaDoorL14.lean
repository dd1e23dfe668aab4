/-
  Texts joined: RmSum, HsSum, HText. Conditions: those of each.
-/
import Derived.Test.YtpcopimbnbmkmaaDoorL13
import Derived.Test.YtpcopimbnbmkmaaDoorL10
import Derived.Test.YtpcopimbnbmkmaaDoorL11
import Derived.Stop.BytesEq
import Derived.Test.YtpcopimbnbmkmaaDoorL7
/-
  hash.Ripemd. Conditions: the size stays below 2^59; the tables are laid.
-/
namespace Go.Proofs.YtpcopimbnbmkmaaDoor.Rm
open Go.RowKit

def zIn : List Value := inRow (List.replicate 5 0) (List.replicate 128 0) 0
theorem info_kind : (Tryd.prog.info? 60).map (·.size) = some 7 := by kernel_rfl
theorem info_20 : (Tryd.prog.info? 33).map (·.size) = some 20 := by kernel_rfl
theorem zero_in (W : World) : (zeroValue 62).run Tryd.prog W = .ok (.agg zIn.toArray) W := by kernel_rfl
def zKind : List Value := [.int .i64 0, .int .u32 0, .int .u32 0, .int .u32 0, .int .u32 0, .int .u32 0, .nilFunc]
theorem zero_kind (W : World) : (zeroValue 60).run Tryd.prog W = .ok (.agg zKind.toArray) W := by kernel_rfl
theorem zero_20 (W : World) : (zeroValue 33).run Tryd.prog W = .ok (.agg ((List.replicate 20 (0 : Int)).map (Value.int .u8)).toArray) W := by kernel_rfl
theorem kRow_one : kRow.toArray.all (·.oneCell') = true := by simp [kRow, Value.oneCell', S5.list]
theorem full_ne (m : List UInt8) : fullR m ≠ [] := by unfold fullR padR; simp
theorem padR_full (n : Nat) : (128 :: List.replicate ((119 - n % 64) % 64) 0) ++ (lenI n 8).reverse = nums (padR n) := by
  unfold padR
  rw [nums_append, nums_append, lenI_full]
  have h : ∀ k, nums (List.replicate k (0 : UInt8)) = List.replicate k (0 : Int) := fun k => by unfold nums; rw [List.map_replicate]; rfl
  rw [h]
  unfold nums
  rw [List.map_reverse]
  rfl
theorem idx5 (a b c d e : Int) {i : Nat} (hi : i < 5) : ∃ v, [a, b, c, d, e][i]? = some v ∧ ∀ w, (Instr.index 57 (.agg #[.int .u32 a, .int .u32 b, .int .u32 c, .int .u32 d, .int .u32 e]) (.int .i64 i)).run Tryd.prog w = .ok (.int .u32 v) w := by
  obtain rfl | rfl | rfl | rfl | rfl : i = 0 ∨ i = 1 ∨ i = 2 ∨ i = 3 ∨ i = 4 := by omega
  · exact ⟨_, rfl, fun w => by kernel_rfl⟩
  · exact ⟨_, rfl, fun w => by kernel_rfl⟩
  · exact ⟨_, rfl, fun w => by kernel_rfl⟩
  · exact ⟨_, rfl, fun w => by kernel_rfl⟩
  · exact ⟨_, rfl, fun w => by kernel_rfl⟩
theorem irow_src {w : World} {gp g : Nat} {t : TypeId} {bs : List UInt8} (h : IRow w gp t .u8 (nums bs)) (hl : bs.length ≤ maxLen) (hne : g ≠ gp) : Src w g (.slice (some ⟨gp, 0, none⟩) bs.length bs.length) bs := by
  refine ⟨_, bs.length, rfl, Nat.le_refl _, hl, (by intro h; cases h), fun _ => ⟨gp, 0, rfl, h.lt, Ne.symm hne, fun j u hu => ?_⟩⟩
  rw [Nat.zero_add]
  exact h.cell (i := j) (z := (u.toNat : Int)) (by unfold nums; rw [List.getElem?_map, hu]; rfl)
set_option maxRecDepth 100000 in
set_option maxHeartbeats 6400000 in
theorem ripemd_any (B : Nat) (v : Value) (m : List UInt8) (W0 : World) (hb : Byt W0 B v m) (hB : B ≤ W0.heap.size) (hl : m.length < 576460752303423488) (htab : TabsIs W0) :
    Calls Tryd.prog 12 #[v] W0 fun e w' => e = .returned (digV (ripemd m)) ∧ Below W0.heap.size W0 w' := by
  obtain ⟨A, c, hxf⟩ := hb.form
  subst hxf
  have HX := Lib.hid hb
  have HTAB := Lib.hid htab
  have HLB := Lib.hid hB
  have z20 := zero_20
  have zk := zero_kind
  have zi := zero_in
  clear hb htab
  have rA := IRow.new W0 33 .u8 (List.replicate 20 0)
  have bA : Below W0.heap.size W0 (W0.alloc (.cells ((List.replicate 20 (0 : Int)).map (Value.int .u8)).toArray 33)) := (Below.refl _ W0).alloc (Nat.le_refl _) _
  have sA : (W0.alloc (.cells ((List.replicate 20 (0 : Int)).map (Value.int .u8)).toArray 33)).heap.size = W0.heap.size + 1 := by simp
  go_enter Tryd.func12, Tryd.ntmps12
  go_upto_region 1 with fail
  change Code.wp _ _ _ _ (W0.alloc (.cells ((List.replicate 20 (0 : Int)).map (Value.int .u8)).toArray 33))
  obtain ⟨wA, hwA⟩ : ∃ x, x = W0.alloc (.cells ((List.replicate 20 (0 : Int)).map (Value.int .u8)).toArray 33) := ⟨_, rfl⟩
  rw [← hwA] at rA bA sA ⊢
  obtain ⟨B0, hB0⟩ : ∃ B0, B0 = W0.heap.size := ⟨_, rfl⟩
  rw [← hB0] at rA bA sA ⊢
  have RZ := Lib.hid (VRow.new wA 60 zKind)
  have bB : Below wA.heap.size wA ((wA.alloc (.cells zKind.toArray 60)).setRow wA.heap.size kRow.toArray) := below_setRow ((Below.refl _ wA).alloc (Nat.le_refl _) _) (Nat.le_refl _) _
  have rB := RZ.out.setRow kRow
  have RA := Lib.hid rA
  have BA := Lib.hid bA
  have SA := Lib.hid sA
  have HB0 := Lib.hid hB0
  have RB := Lib.hid rB
  have BB := Lib.hid bB
  clear hwA rA bA sA hB0 bB rB
  go_upto_region 2 with (first
    | (refine S5.wpList_build_lit rfl 60 _ (.agg kRow.toArray) rfl (fun _ => by kernel_rfl) ?_)
    | (refine wpList_store_vrow rfl 60 (.tmp 3) (.tmp 10) rfl (g := wA.heap.size) (t := 60) (vs := zKind) (us := kRow) rfl rfl RZ.out info_kind rfl kRow_one ?_))
  change Code.wp _ _ _ _ ((wA.alloc (.cells zKind.toArray 60)).setRow wA.heap.size kRow.toArray)
  obtain ⟨wB, hwB⟩ : ∃ x, x = (wA.alloc (.cells zKind.toArray 60)).setRow wA.heap.size kRow.toArray := ⟨_, rfl⟩
  have rB : VRow wB wA.heap.size 60 kRow := by rw [hwB]; exact RB.out
  have bB : Below wA.heap.size wA wB := by rw [hwB]; exact BB.out
  rw [← hwB]
  obtain ⟨BK, hBK⟩ : ∃ BK, BK = wA.heap.size := ⟨_, rfl⟩
  rw [← hBK] at rB bB ⊢
  have hk0 : B0 < BK := by rw [hBK, SA.out]; omega
  have rA2 := RA.out.below bB (by rw [hBK, SA.out]; omega)
  have b2 := BA.out.trans (bB.mono (by omega : B0 ≤ BK))
  have hkb := rB.lt
  have RK := Lib.hid rB
  have RA2 := Lib.hid rA2
  have B2 := Lib.hid b2
  have HKB := Lib.hid hkb
  clear hwB rB bB hBK rA2 b2 hkb RB BB RZ SA
  try dsimp only [Act.put]
  go_upto_region 3 with fail
  change Code.wp _ _ _ _ (wB.alloc (.cells zIn.toArray 62))
  have sm := VRow.new wB 62 zIn
  have bC : Below wB.heap.size wB (wB.alloc (.cells zIn.toArray 62)) := (Below.refl _ wB).alloc (Nat.le_refl _) _
  have sC : (wB.alloc (.cells zIn.toArray 62)).heap.size = wB.heap.size + 1 := by simp
  obtain ⟨wC, hwC⟩ : ∃ x, x = wB.alloc (.cells zIn.toArray 62) := ⟨_, rfl⟩
  rw [← hwC] at sm bC sC ⊢
  obtain ⟨BI, hBI⟩ : ∃ BI, BI = wB.heap.size := ⟨_, rfl⟩
  rw [← hBI] at sm bC sC ⊢
  have hKI : BK < BI := by rw [hBI]; exact HKB.out
  have RK3 := Lib.hid (RK.out.below bC hKI)
  have RA3 := Lib.hid (RA2.out.below bC (by omega))
  have b3 := B2.out.trans (bC.mono (by omega : B0 ≤ BI))
  have B3 := Lib.hid b3
  have hoff : OffT BI := HTAB.out.off (by rw [← HB0.out]; omega)
  have HOFF := Lib.hid hoff
  have ht3 : TabsIs wC := HTAB.out.below (by rw [← HB0.out]; exact b3)
  have hB0B : B ≤ B0 := by rw [HB0.out]; exact hB
  have ADD := Lib.hid (add_any BI 62 [] m _ _ (.slice A m.length c) wC Took.zero (by rw [List.length_replicate]) sm (Src.of_byt (HX.out.below (b3.mono hB0B)) (by have := b3.size; have := HB0.out; omega) (by omega)) (by simp; omega) ht3 hoff)
  rw [List.nil_append] at ADD
  have hIK := Lib.hid (show (Tryd.prog.info? 60).map (·.size) = some kRow.length from info_kind)
  have SC := Lib.hid sC
  clear hwC sm bC sC hBI b3 hoff ht3 RK RA2 B2 RA BA
  try dsimp only [Act.put]
  go_wp2_with (refine wpList_load_vrow rfl 60 (.tmp 3) rfl (g := BK) (t := 60) (vs := kRow) rfl RK3.out Tryd.underlying60 hIK.out ?_)
  refine ADD.out.mono ?_
  rintro e w4 ⟨rfl, ws, rest, ht, hws, hrow, htt⟩
  have hbi4 : BI < w4.heap.size := hrow.lt
  have RK4 := Lib.hid (RK3.out.turns htt (by omega))
  have RA4 := Lib.hid (RA3.out.turns htt (by omega))
  have b4 := B3.out.trans (htt.below_of (B := B0) (by have := SC.out; omega) (by intro i hi h; omega))
  have B4 := Lib.hid b4
  have TB4 := Lib.hid (show TabsIs w4 from HTAB.out.below (by rw [← HB0.out]; exact b4))
  obtain ⟨n, hn⟩ : ∃ n, n = m.length := ⟨_, rfl⟩
  obtain ⟨z, hz⟩ : ∃ z, z = (119 - n % 64) % 64 := ⟨_, rfl⟩
  have zc : w4.cell? ⟨BI, 133, none⟩ = some (.int .u64 (n : Int)) := by rw [hn]; exact hrow.cell (inRow_size _ hws ht.size)
  have PAD := Lib.hid (padding_any n z w4 (by omega) hz)
  have HT := Lib.hid ht
  have HWS := Lib.hid hws
  have HROW := Lib.hid hrow
  have HN := Lib.hid hn
  have HZ := Lib.hid hz
  have hz64 : z < 64 := by omega
  clear ht hws hrow htt b4 hn hz ADD RK3 RA3 B3
  go_wp2_with fail
  refine PAD.out.mono ?_
  rintro e w5 ⟨gp, rfl, hrow5, hb5, hge⟩
  have hs5 := hb5.size
  have REV := Lib.hid (reverse_any gp (z + 1) 8 5 (128 :: List.replicate z 0) (lenI n 8) w5 hrow5 (by simp) (by simp [lenI]))
  have HGE := Lib.hid hge
  have RK5 := Lib.hid (RK4.out.below hb5 (by omega))
  have RA5 := Lib.hid (RA4.out.below hb5 (by omega))
  have HROW5 := Lib.hid (HROW.out.below hb5 hbi4)
  have B5 := Lib.hid (B4.out.trans (hb5.mono (by omega)))
  have TB5 := Lib.hid (TB4.out.below hb5)
  obtain ⟨E, hE⟩ : ∃ E, E = z + 9 := ⟨_, rfl⟩
  rw [← hE]
  have HE := Lib.hid hE
  have k1 : IntKind.i64.wrap ((E : Int) - 8) = ((z + 1 : Nat) : Int) := by rw [IntWalk.i64_in _ (by omega)]; omega
  have k2 : ((z + 1 : Nat) : Int) ≤ (E : Int) := by omega
  have k3 : ¬ E = z + 1 := by omega
  have k4 : E - (z + 1) = 8 := by omega
  obtain ⟨o, ho⟩ : ∃ o, o = z + 1 := ⟨_, rfl⟩
  rw [← ho] at REV k1 k2 k3 k4
  have HO := Lib.hid ho
  clear hrow5 hb5 hge hE ho PAD RK4 RA4 HROW B4 TB4 zc
  go_wp2_with fail
  refine REV.out.mono ?_
  rintro e w6 ⟨rfl, hrow6, hb6⟩
  rw [HZ.out, padR_full] at hrow6
  have hgb : BI < gp := by have := HGE.out; omega
  have b6 : Below gp w5 w6 := hb6 gp (Nat.le_refl _)
  have hpl : (padR n).length = E := by rw [padR_length, HE.out, HZ.out]
  have hsrc : Src w6 BI (.slice (some ⟨gp, 0, none⟩) E E) (padR n) := by
    have h := irow_src (g := BI) hrow6 (by rw [hpl]; have := HE.out; unfold maxLen; omega) (by omega)
    rw [hpl] at h
    exact h
  have hrow66 := HROW5.out.below b6 hgb
  rw [HN.out] at hsrc
  have b66 := B5.out.trans (b6.mono (by omega : B0 ≤ gp))
  have ADD2 := Lib.hid (add_any BI 62 m (padR m.length) ws rest (.slice (some ⟨gp, 0, none⟩) E E) w6 HT.out HWS.out hrow66 hsrc (by rw [← HN.out, hpl]; have := HE.out; have := HN.out; omega) (HTAB.out.below (by rw [← HB0.out]; exact b66)) HOFF.out)
  have RK6 := Lib.hid (RK5.out.below b6 (by omega))
  have RA6 := Lib.hid (RA5.out.below b6 (by omega))
  have B6 := Lib.hid b66
  have HS6 := Lib.hid (show BI < w6.heap.size by have := b6.size; omega)
  clear hrow6 hb6 b6 hsrc hrow66 b66 REV k1 k2 k3 k4 hgb
  go_wp2_with (refine wpList_load_vrow rfl 60 (.tmp 3) rfl (g := BK) (t := 60) (vs := kRow) rfl RK6.out Tryd.underlying60 hIK.out ?_)
  refine ADD2.out.mono ?_
  rintro e w7 ⟨rfl, ws7, rest7, t7, l7, r7, tt7⟩
  have hrow7 : VRow w7 BI 62 (inRow ws7 rest7 (fullR m).length) := r7
  have hra7 : IRow w7 B0 33 .u8 (List.replicate 20 0) := RA6.out.turns tt7 (by omega)
  have hb7 : Below B0 W0 w7 := B6.out.trans (tt7.below_of (by have := HS6.out; omega) (by intro i hi h; omega))
  have hlt7 : BI < w7.heap.size := hrow7.lt
  have hw7 := t7.words (full_ne m)
  obtain ⟨s, hs⟩ : ∃ s, s = blocksR (fullR m) ((fullR m).length / 64) := ⟨_, rfl⟩
  have hrip : ripemd m = outR s.list := by rw [hs]; rfl
  have hok : s.Ok := by rw [hs]; exact blocksR_ok _ _
  have hw77 : ws7 = s.list := by rw [hs]; exact hw7
  subst hw77
  have rC := IRow.new w7 33 .u8 (List.replicate 20 0)
  have bC : Below w7.heap.size w7 (w7.alloc (.cells ((List.replicate 20 (0 : Int)).map (Value.int .u8)).toArray 33)) := (Below.refl _ w7).alloc (Nat.le_refl _) _
  have HRA := Lib.hid (show (w7.alloc (.cells ((List.replicate 20 (0 : Int)).map (Value.int .u8)).toArray 33)).rangeAt BI 0 [.int .u32 s.a, .int .u32 s.b, .int .u32 s.c, .int .u32 s.d, .int .u32 s.e] from (hrow7.below bC hlt7).range (by
    intro j x hx
    rw [Nat.zero_add]
    have hx2 : (s.list.map (Value.int .u32))[j]? = some x := hx
    rw [List.getElem?_map] at hx2
    cases hy : s.list[j]? with
    | none => rw [hy] at hx2; exact absurd hx2 (by simp)
    | some y =>
      rw [hy] at hx2
      obtain rfl : Value.int .u32 y = x := Option.some.inj hx2
      exact inRow_word _ hy))
  have RA8 := Lib.hid (hra7.below bC hra7.lt)
  have B8 := Lib.hid (hb7.trans (bC.mono (by omega)))
  have RC := Lib.hid rC
  have HRIP := Lib.hid hrip
  have HOK := Lib.hid hok
  have h20 := Lib.hid (show B0 < w7.heap.size by omega)
  clear hra7 hb7 hlt7 hrow7 hs hrip hok rC bC t7 l7 r7 tt7 hw7 ADD2 RK6 RA6 B6 RK5 RA5 HROW5 B5 TB5
  go_upto_region 8 with fail
  change Code.wp _ _ _ _ (w7.alloc (.cells ((List.replicate 20 (0 : Int)).map (Value.int .u8)).toArray 33))
  obtain ⟨w8, hw8⟩ : ∃ x, x = w7.alloc (.cells ((List.replicate 20 (0 : Int)).map (Value.int .u8)).toArray 33) := ⟨_, rfl⟩
  rw [← hw8] at HRA RA8 B8 RC ⊢
  obtain ⟨B9, hB9⟩ : ∃ B9, B9 = w7.heap.size := ⟨_, rfl⟩
  rw [← hB9] at RC h20 ⊢
  clear hw8 hB9
  try dsimp only [Act.put]
  go_wp2_with (refine wpList_load_mid rfl 57 (.tmp 26) rfl BI 0 rfl [.int .u32 s.a, .int .u32 s.b, .int .u32 s.c, .int .u32 s.d, .int .u32 s.e] _ HRA.out Tryd.underlying57 rfl info_5 ?_)
  go_loopw [28] (fun j wr => ∃ i : Nat, i ≤ 5 ∧ j = .int .i64 i ∧ IRow wr B9 33 .u8 (padZ 20 (nums (outR (s.list.take i)))) ∧ IRow wr B0 33 .u8 (List.replicate 20 0) ∧ Below B0 W0 wr) (fun j _ => 5 - (intOf j).toNat)
  case atStart => exact ⟨0, by omega, rfl, RC.out, RA8.out, B8.out⟩
  case round =>
    obtain ⟨i, hi, rfl, hrow, hres, hbel⟩ := hrel
    obtain ⟨w9, hw9⟩ : ∃ z : World, z = wr := ⟨_, rfl⟩
    rw [← hw9] at hrow hres hbel ⊢
    clear hw9
    by_cases h5 : i < 5
    · obtain ⟨x, hx, hix⟩ := idx5 s.a s.b s.c s.d s.e h5
      obtain ⟨p, hp⟩ : ∃ p, p = 4 * i := ⟨_, rfl⟩
      have ep : 4 * (i : Int) = (p : Int) := by omega
      have ew : IntKind.i64.wrap (p : Int) = (p : Int) := by rw [IntWalk.i64_in _ (by omega)]
      have hp16 : p ≤ 16 := by omega
      have i1 : (p : Int) ≤ 20 := by omega
      have i2 : ¬ 20 = p := by omega
      have i0 : (0 : Int) ≤ (p : Int) := by omega
      have b5 : (i : Int) < 5 := by omega
      have htl : (s.list.take i).length = i := by rw [List.length_take, S5.list_length]; omega
      have hhl : ((s.list.take i).map rev32).length = i := by rw [List.length_map, htl]
      have hol : (nums (outR (s.list.take i))).length = 4 * i := by rw [nums_length, outR_length, htl]
      have hxu : U32 x := S5.mem_ok HOK.out (List.mem_of_getElem? hx)
      have RV := Lib.hid (fun W => rev_any x W hxu)
      have hnext := put4_next (m := 20) (ws := (s.list.take i).map rev32) (x := rev32 x) (rev32_u hxu) (by rw [outB_length, hhl]; omega)
      rw [hhl, ← hp] at hnext
      have htk : (s.list.take i).map rev32 ++ [rev32 x] = (s.list.take (i + 1)).map rev32 := by
        rw [List.take_add_one]
        have : s.list[i]? = some x := hx
        rw [this]
        simp
      rw [htk] at hnext
      obtain ⟨RX, hRX⟩ : ∃ RX, RX = rev32 x := ⟨_, rfl⟩
      rw [← hRX] at RV hnext
      have C := Lib.hid (put32_any B9 p (20 - p) (20 - p) _ _ RX w9.drew (show IRow w9.drew _ _ _ _ from hrow) (by omega) (by rw [padZ_length (by rw [hol]; omega)]; omega))
      have hnext' : put4 (padZ 20 (nums (outR (s.list.take i)))) p RX = padZ 20 (nums (outR (s.list.take (i + 1)))) := hnext
      have HNEXT := Lib.hid hnext'
      have HRES := Lib.hid hres
      have HBEL := Lib.hid hbel
      clear hx hp htl hhl hol hnext hnext' htk hrow hres hbel hxu hRX
      go_wp2_with fail
      refine wp_region_held_drew (S := AnyW) (by kernel_rfl) ?_ (fun hHeld => ?_)
      · exact anyW _
      refine wpAnyH_take (i := 0) (oi := { dst := some 32, op := Go.Op.move (Go.Operand.tmp 7), type := 3, pos := "ripemd.go:24", after := #[], guard := none }) (v := ?av0) rfl (by kernel_rfl) (by kernel_rfl) (by kernel_rfl) (fun _ _ _ h => h) (Or.inl ⟨by rfl, ?ay0⟩) (by assumption) ?ar0
      case ay0 => (intro w hSw; (try dsimp only at hSw); go_simp; try (with_reducible rfl))
      case ar0 =>
      try simp only [Act.put, List.setIfInBounds_toArray, List.set_cons_zero, List.set_cons_succ]
      refine wpAnyH_take (i := 1) (oi := { dst := some 33, op := Go.Op.binOp Go.BinOp.mul 3 (Go.Operand.const (Go.Value.int Go.IntKind.i64 4)) (Go.Operand.tmp 32) 3, type := 3, pos := "ripemd.go:24", after := #[{ on := 0, ground := Go.Ground.data }], guard := none }) (v := ?av1) rfl (by kernel_rfl) (by kernel_rfl) (by kernel_rfl) (fun _ _ _ h => h) (Or.inl ⟨by rfl, ?ay1⟩) (by assumption) ?ar1
      case ay1 => (intro w hSw; (try dsimp only at hSw); go_simp; try (with_reducible rfl))
      case ar1 =>
      try simp only [Act.put, List.setIfInBounds_toArray, List.set_cons_zero, List.set_cons_succ]
      refine wpAnyH_take (i := 2) (oi := { dst := some 34, op := Go.Op.slice 33 (Go.Operand.tmp 6) (some (Go.Operand.tmp 33)) none none, type := 22, pos := "ripemd.go:24", after := #[{ on := 1, ground := Go.Ground.data }], guard := none }) (v := Value.slice (some ⟨B9, p, none⟩) (20 - p) (20 - p)) rfl (by kernel_rfl) (by kernel_rfl) (by kernel_rfl) (fun _ _ _ h => h) (Or.inl ⟨by rfl, ?ay2⟩) (by assumption) ?ar2
      case ay2 => (intro w hSw; (try dsimp only at hSw); go_simp; try (with_reducible rfl))
      case ar2 =>
      try simp only [Act.put, List.setIfInBounds_toArray, List.set_cons_zero, List.set_cons_succ]
      refine wpAnyH_take (i := 3) (oi := { dst := some 35, op := Go.Op.move (Go.Operand.tmp 8), type := 39, pos := "ripemd.go:24", after := #[], guard := none }) (v := ?av3) rfl (by kernel_rfl) (by kernel_rfl) (by kernel_rfl) (fun _ _ _ h => h) (Or.inl ⟨by rfl, ?ay3⟩) (by assumption) ?ar3
      case ay3 => (intro w hSw; (try dsimp only at hSw); go_simp; try (with_reducible rfl))
      case ar3 =>
      try simp only [Act.put, List.setIfInBounds_toArray, List.set_cons_zero, List.set_cons_succ]
      refine wpAnyH_ready (rs := [4]) (by kernel_rfl) (by simp) ?_
      refine AllReadyH.cons (o := { dst := some 36, op := Go.Op.call { callee := Go.Callee.value (Go.Operand.func 33), args := #[Go.Operand.tmp 35], argTypes := #[39] }, type := 39, pos := "ripemd.go:24", after := #[{ on := 3, ground := Go.Ground.data }], guard := none }) rfl (fun K hK => ?_) (AllReadyH.nil)
      go_simp
      refine (RV.out _).mono ?_
      rintro e w10 ⟨rfl, rfl⟩
      go_simp
      refine hK.out _ _ ?_ (fun hHeld => ?_)
      · exact anyW _
      clear hK K
      try simp only [Act.put, List.setIfInBounds_toArray, List.set_cons_zero, List.set_cons_succ]
      refine wpAnyH_ready (rs := [5]) (by kernel_rfl) (by simp) ?_
      refine AllReadyH.cons (o := { dst := some 37, op := Go.Op.call { callee := Go.Callee.value (Go.Operand.func 32), args := #[Go.Operand.tmp 34, Go.Operand.tmp 36], argTypes := #[22, 39] }, type := 0, pos := "ripemd.go:24", after := #[{ on := 2, ground := Go.Ground.data }, { on := 4, ground := Go.Ground.data }, { on := 4, ground := Go.Ground.chain }], guard := none }) rfl (fun K hK => ?_) (AllReadyH.nil)
      go_simp
      refine C.out.mono ?_
      rintro e w11 ⟨rfl, hr11, hb11⟩
      rw [HNEXT.out] at hr11
      have R11 := Lib.hid hr11
      have Q11 := Lib.hid (show Below B9 w9 w11 from ⟨(hb11 B9 (Nat.le_refl _)).os, (hb11 B9 (Nat.le_refl _)).tape, (hb11 B9 (Nat.le_refl _)).output, (hb11 B9 (Nat.le_refl _)).size, (hb11 B9 (Nat.le_refl _)).block⟩)
      clear hr11 hb11
      go_simp
      refine hK.out _ _ ?_ (fun hHeld => ?_)
      · exact anyW _
      clear hK K
      try simp only [Act.put, List.setIfInBounds_toArray, List.set_cons_zero, List.set_cons_succ]
      refine wpAnyH_done (by kernel_rfl) ?_ _
      go_wp2_with fail
      exact ⟨⟨i + 1, by omega, by go_num, R11.out, HRES.out.below Q11.out h20.out, HBEL.out.trans (Q11.out.mono (by have := h20.out; omega))⟩, by simp [intOf]; omega⟩
    · obtain rfl : i = 5 := by omega
      have h5' : ((5 : Nat) : Int) = 5 := rfl
      rw [h5']
      have e5 : padZ 20 (nums (outR (s.list.take 5))) = nums (ripemd m) := by
        have e : s.list.take 5 = s.list := rfl
        rw [e, ← HRIP.out]
        exact padZ_full (by rw [nums_length, ripemd_length])
      rw [e5] at hrow
      have hsz : (nums (ripemd m)).length = 20 := by rw [nums_length, ripemd_length]
      have HI := Lib.hid (show (Tryd.prog.info? 33).map (·.size) = some (nums (ripemd m)).length by rw [hsz]; exact info_20)
      have HL := Lib.hid (show (List.replicate 20 (0 : Int)).length = (nums (ripemd m)).length by rw [hsz]; rfl)
      have HRW := Lib.hid hrow
      have HRS := Lib.hid hres
      have HFIN := Lib.hid (setRow_irow (ys := nums (ripemd m)) hres)
      have HBF := Lib.hid (below_setRow hbel (Nat.le_refl _) ((nums (ripemd m)).map (Value.int .u8)).toArray)
      clear h5' e5 hrow hres hbel hi h5 hsz
      go_wp2_with (first
        | (refine wpList_load_irow rfl 33 (.tmp 6) rfl (g := B9) (t := 33) (k := .u8) (xs := nums (ripemd m)) rfl HRW.out Tryd.underlying33 HI.out ?_)
        | (refine wpList_store_irow rfl 33 (.tmp 2) (.tmp 39) rfl (g := B0) (t := 33) (k := .u8) (xs := List.replicate 20 0) (ys := nums (ripemd m)) rfl rfl HRS.out HI.out HL.out ?_))
      refine bodyPost_ret (v := digV (ripemd m)) ?_ rfl ⟨rfl, by rw [← HB0.out]; exact HBF.out⟩
      obtain ⟨fr, hrw⟩ : ∃ fr, (w9.setRow B0 ((nums (ripemd m)).map (Value.int .u8)).toArray).heap[B0]? = some (.cells ((nums (ripemd m)).map (Value.int .u8)).toArray 33 fr) := ⟨_, HFIN.out⟩
      exact results_cell_row Tryd.results12 _ _ B0 33 ((nums (ripemd m)).map (Value.int .u8)).toArray fr _ rfl hrw Tryd.underlying33 rfl (by rw [List.size_toArray, List.length_map]; exact HI.out)
end Go.Proofs.YtpcopimbnbmkmaaDoor.Rm

/-
  hash.Sum512; arrays of bytes held against each other; all tables together. Conditions: the size stays below 2^59; the roots are laid.
-/
namespace Go.Proofs.YtpcopimbnbmkmaaDoor
open Go.RowKit

theorem eq_32 (xs ys : List UInt8) (hx : xs.length = 32) (hy : ys.length = 32) (w : World) :
    (Op.equalIn 10000 28 (digV xs) (digV ys)).run Tryd.prog w = .ok (xs == ys) w := by
  obtain ⟨i0, hi, hz0, hz1, hz2⟩ := info_parts info_u8
  unfold digV
  rw [nums_bv, nums_bv]
  exact run_equalIn_bytes w 9998 28 5 32 Tryd.underlying28 Tryd.underlying5 (fun w => by simp [sizeOf, typeInfo, hi, hz1]) xs ys hx hy
theorem eq_64 (xs ys : List UInt8) (hx : xs.length = 64) (hy : ys.length = 64) (w : World) :
    (Op.equalIn 10000 31 (digV xs) (digV ys)).run Tryd.prog w = .ok (xs == ys) w := by
  obtain ⟨i0, hi, hz0, hz1, hz2⟩ := info_parts info_u8
  unfold digV
  rw [nums_bv, nums_bv]
  exact run_equalIn_bytes w 9998 31 5 64 Tryd.underlying31 Tryd.underlying5 (fun w => by simp [sizeOf, typeInfo, hi, hz1]) xs ys hx hy
theorem eq_20 (xs ys : List UInt8) (hx : xs.length = 20) (hy : ys.length = 20) (w : World) :
    (Op.equalIn 10000 33 (digV xs) (digV ys)).run Tryd.prog w = .ok (xs == ys) w := by
  obtain ⟨i0, hi, hz0, hz1, hz2⟩ := info_parts info_u8
  unfold digV
  rw [nums_bv, nums_bv]
  exact run_equalIn_bytes w 9998 33 5 20 Tryd.underlying33 Tryd.underlying5 (fun w => by simp [sizeOf, typeInfo, hi, hz1]) xs ys hx hy
theorem joined_one (v : Value) (b : List UInt8) : joined [(v, b)] = b := by simp [joined]
theorem total_one (v : Value) (b : List UInt8) : total [(v, b)] = b.length := by simp [total]
set_option maxRecDepth 100000 in
set_option maxHeartbeats 3200000 in
theorem s512_any (B : Nat) (v : Value) (b : List UInt8) (W0 : World) (hb : Byt W0 B v b) (hB : B ≤ W0.heap.size) (hlen : b.length < 576460752303423488) (hroots : Roots W0) :
    Calls Tryd.prog 10 #[v] W0 fun e w' => e = .returned (digV (S5.sha512 b)) ∧ Below W0.heap.size W0 w' := by
  obtain ⟨A, c, rfl⟩ := hb.form
  have rA := IRow.new W0 31 .u8 (List.replicate 64 0)
  have bA : Below W0.heap.size W0 (W0.alloc (.cells ((List.replicate 64 (0 : Int)).map (Value.int .u8)).toArray 31)) := (Below.refl _ W0).alloc (Nat.le_refl _) _
  have HB := Lib.hid hb
  have HR := Lib.hid hroots
  have z64 := S5.zero_64
  clear hb hroots
  go_enter Tryd.func10, Tryd.ntmps10
  go_upto_region 1 with fail
  change Code.wp _ _ _ _ (W0.alloc (.cells ((List.replicate 64 (0 : Int)).map (Value.int .u8)).toArray 31))
  obtain ⟨wA, hwA⟩ : ∃ x, x = W0.alloc (.cells ((List.replicate 64 (0 : Int)).map (Value.int .u8)).toArray 31) := ⟨_, rfl⟩
  rw [← hwA] at rA bA ⊢
  obtain ⟨B0, hB0⟩ : ∃ B0, B0 = W0.heap.size := ⟨_, rfl⟩
  rw [← hB0] at rA bA ⊢
  have hbA := HB.out.below (bA.mono (by rw [hB0]; exact hB))
  have bag := BagR.made wA 22 [.slice A b.length c] [(.slice A b.length c, b)] rfl (by unfold maxLen; simp) (fun p hp => by rw [List.mem_singleton.1 hp]; exact hbA.more (by have := bA.size; omega))
  have bB : Below wA.heap.size wA (wA.alloc (.cells [Value.slice A b.length c].toArray 22)) := (Below.refl _ wA).alloc (Nat.le_refl _) _
  have h0A : B0 < wA.heap.size := rA.lt
  have b2 := bA.trans (bB.mono (by omega : B0 ≤ wA.heap.size))
  have C := Lib.hid (S5.sum512_any _ _ _ (wA.alloc (.cells [Value.slice A b.length c].toArray 22)) bag (by simp) (by rw [total_one]; exact hlen) (HR.out.below (by rw [← hB0]; exact b2)))
  rw [joined_one] at C
  have RA2 := Lib.hid (rA.below bB h0A)
  have B2 := Lib.hid b2
  have HB0 := Lib.hid hB0
  clear hwA rA bA hB0 hbA bag bB b2
  try dsimp only [Act.put]
  go_wp2_with fail
  refine C.out.mono ?_
  rintro e w4 ⟨rfl, hb4⟩
  obtain ⟨D, hD⟩ : ∃ D, D = S5.sha512 b := ⟨_, rfl⟩
  have hsz : (nums D).length = 64 := by rw [hD, nums_length, S5.sha512_length]
  rw [← hD]
  have HI := Lib.hid (show (Tryd.prog.info? 31).map (·.size) = some (nums D).length by rw [hsz]; exact S5.info_64)
  have HL := Lib.hid (show (List.replicate 64 (0 : Int)).length = (nums D).length by rw [hsz]; rfl)
  have ra4 := RA2.out.below hb4 RA2.out.lt
  have b4 := B2.out.trans (hb4.mono (by have := B2.out.size; have := HB0.out; omega))
  have HFIN := Lib.hid (setRow_irow (ys := nums D) ra4)
  have HBF := Lib.hid (below_setRow b4 (Nat.le_refl _) ((nums D).map (Value.int .u8)).toArray)
  have RA4 := Lib.hid ra4
  have HDD := Lib.hid hD
  clear ra4 b4 hb4 hsz hD C
  unfold digV
  go_wp2_with (refine wpList_store_irow rfl 31 (.tmp 2) (.tmp 5) rfl (g := B0) (t := 31) (k := .u8) (xs := List.replicate 64 0) (ys := nums D) rfl rfl RA4.out HI.out HL.out ?_)
  refine bodyPost_ret (v := digV D) ?_ rfl ⟨by rw [HDD.out], by rw [← HB0.out]; exact HBF.out⟩
  obtain ⟨fr, hrw⟩ : ∃ fr, ((w4.setRow B0 ((nums D).map (Value.int .u8)).toArray)).heap[B0]? = some (.cells ((nums D).map (Value.int .u8)).toArray 31 fr) := ⟨_, HFIN.out⟩
  exact results_cell_row Tryd.results10 _ _ B0 31 ((nums D).map (Value.int .u8)).toArray fr _ rfl hrw Tryd.underlying31 rfl (by rw [List.size_toArray, List.length_map]; exact HI.out)
end Go.Proofs.YtpcopimbnbmkmaaDoor

/-
  hash.Text: two digits for each byte, from the last. Conditions: none.
-/
namespace Go.Proofs.YtpcopimbnbmkmaaDoor
open Go.RowKit

def digN (v : Nat) : Nat := if v < 10 then 48 + v else 87 + v
theorem digN_lt {v : Nat} (h : v < 16) : digN v < 128 := by unfold digN; split <;> omega
def hexL (q : UInt8) : List UInt8 := [b8 (digN (q.toNat / 16) : Nat), b8 (digN (q.toNat % 16) : Nat)]
def textB (bs : List UInt8) : List UInt8 := bs.reverse.flatMap hexL
theorem textB_length (bs : List UInt8) : (textB bs).length = 2 * bs.length := by
  induction bs with
  | nil => rfl
  | cons c bs ih => unfold textB at ih ⊢; rw [List.reverse_cons, List.flatMap_append, List.length_append, ih, List.length_cons]; simp [hexL]; omega
theorem textB_more {bs : List UInt8} {i : Nat} {q : UInt8} (h : bs[i]? = some q) : textB (bs.drop i) = textB (bs.drop (i + 1)) ++ hexL q := by
  obtain ⟨hlt, rfl⟩ := List.getElem?_eq_some_iff.1 h
  unfold textB
  rw [List.drop_eq_getElem_cons hlt, List.reverse_cons, List.flatMap_append]
  simp
theorem dig_at : ∀ (v : Nat), v < 16 → ∀ w, (Instr.index 9 (.string ⟨#[48, 49, 50, 51, 52, 53, 54, 55, 56, 57, 97, 98, 99, 100, 101, 102]⟩) (.int .u8 (v : Int))).run Tryd.prog w = .ok (.int .u8 (digN v : Nat)) w
  | 0, _ => fun w => by kernel_rfl
  | 1, _ => fun w => by kernel_rfl
  | 2, _ => fun w => by kernel_rfl
  | 3, _ => fun w => by kernel_rfl
  | 4, _ => fun w => by kernel_rfl
  | 5, _ => fun w => by kernel_rfl
  | 6, _ => fun w => by kernel_rfl
  | 7, _ => fun w => by kernel_rfl
  | 8, _ => fun w => by kernel_rfl
  | 9, _ => fun w => by kernel_rfl
  | 10, _ => fun w => by kernel_rfl
  | 11, _ => fun w => by kernel_rfl
  | 12, _ => fun w => by kernel_rfl
  | 13, _ => fun w => by kernel_rfl
  | 14, _ => fun w => by kernel_rfl
  | 15, _ => fun w => by kernel_rfl
  | v + 16, h => absurd h (by omega)

set_option maxRecDepth 100000 in
set_option maxHeartbeats 1600000 in
theorem htext_any (bs : List UInt8) (W0 : World) (hl : bs.length = 32) :
    Calls Tryd.prog 21 #[.agg ((nums bs).map (Value.int .u8)).toArray] W0 fun e w' => e = .returned (.string ⟨(textB bs).toArray⟩) ∧ Below W0.heap.size W0 w' := by
  obtain ⟨i0, hi, hz0, hz1, hz2⟩ := info_parts info_u8
  have r0 := IRow.new W0 28 .u8 (nums bs)
  have b0 : Below W0.heap.size W0 (W0.alloc (.cells ((nums bs).map (Value.int .u8)).toArray 28)) := (Below.refl _ W0).alloc (Nat.le_refl _) _
  have s0 : (W0.alloc (.cells ((nums bs).map (Value.int .u8)).toArray 28)).heap.size = W0.heap.size + 1 := by simp
  obtain ⟨w1, hw1⟩ : ∃ x, x = (W0.alloc (.cells ((nums bs).map (Value.int .u8)).toArray 28)) := ⟨_, rfl⟩
  rw [← hw1] at r0 b0 s0
  obtain ⟨w0, hmk, hown0, hg0⟩ := run_make_own (P := Tryd.prog) w1 (W0.heap.size + 1) 22 5 i0 (.int .u8 0) 1 slice_u8 hi hz0 hz1 .i64 .i64 64 (by rw [hz2]; omega) (by unfold maxLen; omega) (by omega)
  have e64 : ((64 : Nat) : Int) = 64 := rfl
  rw [e64] at hmk
  clear e64
  have hb1 : Below (W0.heap.size + 1) w1 w0 := (Below.refl _ _).grown hg0 (by omega) (fun k hk => by cases hk)
  have R0 := Lib.hid (r0.below hb1 (Nat.lt_succ_self _))
  have B0 := Lib.hid (b0.trans (hb1.mono (Nat.le_succ _)))
  have S0 := Lib.hid (show W0.heap.size + 1 ≤ w0.heap.size by have := hb1.size; omega)
  rw [s0] at hmk hown0
  rw [hw1] at hmk
  clear r0 b0 s0 hg0 hb1 hw1
  go_enter Tryd.func21, Tryd.ntmps21
  go_wp2_with fail
  clear hmk
  go_loopw [4, 3] (fun j v wr => ∃ i : Nat, i ≤ 32 ∧ j = .int .i64 ((i : Int) - 1) ∧ wr.ownsRow (W0.heap.size + 1) 5 1 v (textB (bs.drop i)).length ((textB (bs.drop i)).map bv) ∧ IRow wr W0.heap.size 28 .u8 (nums bs) ∧ Below W0.heap.size W0 wr ∧ W0.heap.size + 1 ≤ wr.heap.size) (fun j _ _ => (intOf j + 1).toNat)
  case atStart => exact ⟨32, by omega, rfl, by rw [List.drop_eq_nil_of_le (by omega)]; exact hown0, R0.out, B0.out, S0.out⟩
  case round =>
    obtain ⟨i, hi2, rfl, hown, hrow, hbel, hsz⟩ := hrel
    by_cases hlt : 0 < i
    · obtain ⟨k, hk⟩ : ∃ k, i = k + 1 := ⟨i - 1, by omega⟩
      have ek : (i : Int) - 1 = (k : Int) := by omega
      obtain ⟨q, hq⟩ : ∃ q, bs[k]? = some q := ⟨_, List.getElem?_eq_getElem (by omega)⟩
      have hci : wr.cell? ⟨W0.heap.size, k, none⟩ = some (.int .u8 (q.toNat : Int)) := hrow.cell (by unfold nums; rw [List.getElem?_map, hq]; rfl)
      have k32 : (k : Int) < 32 := by omega
      have hsn := textB_more hq
      rw [← hk] at hsn
      obtain ⟨zs, hzs⟩ : ∃ zs, zs = textB (bs.drop i) := ⟨_, rfl⟩
      have hzl : zs.length ≤ 64 := by rw [hzs, textB_length, List.length_drop]; omega
      rw [← hzs] at hown hsn
      have hq256 := q.toNat_lt
      obtain ⟨v, hv⟩ : ∃ v, v = q.toNat / 16 := ⟨_, rfl⟩
      obtain ⟨u, hu⟩ : ∃ u, u = q.toNat % 16 := ⟨_, rfl⟩
      have ev : (q.toNat : Int) / 16 = (v : Int) := by omega
      have eu : (q.toNat : Int) % 16 = (u : Int) := by omega
      have eu2 : (q.toNat : Int).tmod 16 = (u : Int) := by rw [Int.tmod_eq_emod_of_nonneg (by omega)]; exact eu
      have eu3 : bits .and .u8 (q.toNat : Int) 15 = (u : Int) := by
        have h := bits_mask .u8 8 (by decide) (fun n h0 h1 => by rw [IntKind.wrap_u8]; omega) 4 (by decide) (q.toNat : Int) (by omega) (by omega)
        have e1 : ((2 : Int) ^ 4 - 1) = 15 := by decide
        rw [e1] at h
        rw [h, ← eu]
        rfl
      have I1 := dig_at v (by omega)
      have I2 := dig_at u (by omega)
      have hd1 := digN_lt (v := v) (by omega)
      have hd2 := digN_lt (v := u) (by omega)
      obtain ⟨y1, hy1⟩ : ∃ y1, y1 = digN v := ⟨_, rfl⟩
      obtain ⟨y2, hy2⟩ : ∃ y2, y2 = digN u := ⟨_, rfl⟩
      have hdq : hexL q = [b8 (y1 : Int), b8 (y2 : Int)] := by rw [hy1, hy2, hv, hu]; rfl
      rw [← hy1] at hd1 I1
      rw [← hy2] at hd2 I2
      rw [hdq] at hsn
      have hmade : Byt (wr.alloc (.cells #[.int .u8 (y1 : Int), .int .u8 (y2 : Int)] 5)).drew (wr.heap.size + 1) (.slice (some ⟨wr.heap.size, 0, none⟩) 2 2) [b8 (y1 : Int), b8 (y2 : Int)] :=
        (Byt.made wr _ [_, _] [b8 (y1 : Int), b8 (y2 : Int)] (by rw [List.map_cons, List.map_cons, List.map_nil, bv_b8_of (by omega) (by omega), bv_b8_of (by omega) (by omega)]) (by unfold maxLen; simp)).keep (fun _ _ _ => rfl)
      obtain ⟨As, cs, rfl⟩ := own_form hown
      have HS := Lib.hid hsn
      have HROW := Lib.hid hrow
      have hod : (wr.alloc (.cells #[.int .u8 (y1 : Int), .int .u8 (y2 : Int)] 5)).drew.ownsRow (W0.heap.size + 1) 5 1 (.slice As zs.length cs) zs.length (zs.map bv) := (hown.alloc _).drew
      have HOD := Lib.hid hod
      have HBB := Lib.hid hbel
      have HSZ := Lib.hid hsz
      have EK := Lib.hid ek
      rw [ek]
      clear hq hsn hzs hy1 hy2 hdq hod hv hu hk ek hrow hown hbel hsz
      go_wp2_with fail
      refine wp_region_held_drew (S := (fun w' => w'.cell? ⟨W0.heap.size, k, none⟩ = some (.int .u8 (q.toNat : Int)))) (by kernel_rfl) ?_ (fun hHeld => ?_)
      · exact hci
      refine wpAnyH_take (i := 0) (oi := { dst := some 10, op := Go.Op.move (Go.Operand.tmp 3), type := 22, pos := "text.go:15", after := #[], guard := none }) (v := ?av0) rfl (by kernel_rfl) (by kernel_rfl) (by kernel_rfl) (fun _ _ _ h => h) (Or.inl ⟨by rfl, ?ay0⟩) (by assumption) ?ar0
      case ay0 => (intro w hSw; (try dsimp only at hSw); go_simp; try (with_reducible rfl))
      case ar0 =>
      try simp only [Act.put, List.setIfInBounds_toArray, List.set_cons_zero, List.set_cons_succ]
      refine wpAnyH_take (i := 1) (oi := { dst := some 11, op := Go.Op.move (Go.Operand.tmp 4), type := 3, pos := "text.go:15", after := #[], guard := none }) (v := ?av1) rfl (by kernel_rfl) (by kernel_rfl) (by kernel_rfl) (fun _ _ _ h => h) (Or.inl ⟨by rfl, ?ay1⟩) (by assumption) ?ar1
      case ay1 => (intro w hSw; (try dsimp only at hSw); go_simp; try (with_reducible rfl))
      case ar1 =>
      try simp only [Act.put, List.setIfInBounds_toArray, List.set_cons_zero, List.set_cons_succ]
      refine wpAnyH_take (i := 2) (oi := { dst := some 12, op := Go.Op.indexAddr 28 (Go.Operand.tmp 1) (Go.Operand.tmp 11), type := 0, pos := "text.go:15", after := #[{ on := 1, ground := Go.Ground.data }], guard := none }) (v := ?av2) rfl (by kernel_rfl) (by kernel_rfl) (by kernel_rfl) (fun _ _ _ h => h) (Or.inl ⟨by rfl, ?ay2⟩) (by assumption) ?ar2
      case ay2 => (intro w hSw; (try dsimp only at hSw); go_simp; try (with_reducible rfl))
      case ar2 =>
      try simp only [Act.put, List.setIfInBounds_toArray, List.set_cons_zero, List.set_cons_succ]
      refine wpAnyH_take (i := 3) (oi := { dst := some 13, op := Go.Op.load 5 (Go.Operand.tmp 12), type := 5, pos := "text.go:15", after := #[{ on := 2, ground := Go.Ground.data }], guard := none }) (v := ?av3) rfl (by kernel_rfl) (by kernel_rfl) (by kernel_rfl) (fun _ _ _ h => h) (Or.inl ⟨by rfl, ?ay3⟩) (by assumption) ?ar3
      case ay3 => (intro w hSw; (try dsimp only at hSw); go_simp; try (with_reducible rfl))
      case ar3 =>
      try simp only [Act.put, List.setIfInBounds_toArray, List.set_cons_zero, List.set_cons_succ]
      refine wpAnyH_take (i := 4) (oi := { dst := some 14, op := Go.Op.binOp Go.BinOp.shr 5 (Go.Operand.tmp 13) (Go.Operand.const (Go.Value.int Go.IntKind.u64 4)) 52, type := 5, pos := "text.go:15", after := #[{ on := 3, ground := Go.Ground.data }], guard := none }) (v := ?av4) rfl (by kernel_rfl) (by kernel_rfl) (by kernel_rfl) (fun _ _ _ h => h) (Or.inl ⟨by rfl, ?ay4⟩) (by assumption) ?ar4
      case ay4 => (intro w hSw; (try dsimp only at hSw); go_simp; try (with_reducible rfl))
      case ar4 =>
      try simp only [Act.put, List.setIfInBounds_toArray, List.set_cons_zero, List.set_cons_succ]
      refine wpAnyH_take (i := 5) (oi := { dst := some 15, op := Go.Op.index 9 (Go.Operand.const (Go.Value.string { data := #[48, 49, 50, 51, 52, 53, 54, 55, 56, 57, 97, 98, 99, 100, 101, 102] })) (Go.Operand.tmp 14), type := 5, pos := "text.go:15", after := #[{ on := 4, ground := Go.Ground.data }], guard := none }) (v := ?av5) rfl (by kernel_rfl) (by kernel_rfl) (by kernel_rfl) (fun _ _ _ h => h) (Or.inl ⟨by rfl, ?ay5⟩) (by assumption) ?ar5
      case ay5 => (intro w hSw; (try dsimp only at hSw); go_simp; try (with_reducible rfl))
      case ar5 =>
      try simp only [Act.put, List.setIfInBounds_toArray, List.set_cons_zero, List.set_cons_succ]
      refine wpAnyH_take (i := 6) (oi := { dst := some 16, op := Go.Op.move (Go.Operand.tmp 4), type := 3, pos := "text.go:15", after := #[], guard := none }) (v := ?av6) rfl (by kernel_rfl) (by kernel_rfl) (by kernel_rfl) (fun _ _ _ h => h) (Or.inl ⟨by rfl, ?ay6⟩) (by assumption) ?ar6
      case ay6 => (intro w hSw; (try dsimp only at hSw); go_simp; try (with_reducible rfl))
      case ar6 =>
      try simp only [Act.put, List.setIfInBounds_toArray, List.set_cons_zero, List.set_cons_succ]
      refine wpAnyH_take (i := 7) (oi := { dst := some 17, op := Go.Op.indexAddr 28 (Go.Operand.tmp 1) (Go.Operand.tmp 16), type := 0, pos := "text.go:15", after := #[{ on := 6, ground := Go.Ground.data }], guard := none }) (v := ?av7) rfl (by kernel_rfl) (by kernel_rfl) (by kernel_rfl) (fun _ _ _ h => h) (Or.inl ⟨by rfl, ?ay7⟩) (by assumption) ?ar7
      case ay7 => (intro w hSw; (try dsimp only at hSw); go_simp; try (with_reducible rfl))
      case ar7 =>
      try simp only [Act.put, List.setIfInBounds_toArray, List.set_cons_zero, List.set_cons_succ]
      refine wpAnyH_take (i := 8) (oi := { dst := some 18, op := Go.Op.load 5 (Go.Operand.tmp 17), type := 5, pos := "text.go:15", after := #[{ on := 7, ground := Go.Ground.data }], guard := none }) (v := ?av8) rfl (by kernel_rfl) (by kernel_rfl) (by kernel_rfl) (fun _ _ _ h => h) (Or.inl ⟨by rfl, ?ay8⟩) (by assumption) ?ar8
      case ay8 => (intro w hSw; (try dsimp only at hSw); go_simp; try (with_reducible rfl))
      case ar8 =>
      try simp only [Act.put, List.setIfInBounds_toArray, List.set_cons_zero, List.set_cons_succ]
      refine wpAnyH_take (i := 9) (oi := { dst := some 19, op := Go.Op.binOp Go.BinOp.and 5 (Go.Operand.tmp 18) (Go.Operand.const (Go.Value.int Go.IntKind.u8 15)) 5, type := 5, pos := "text.go:15", after := #[{ on := 8, ground := Go.Ground.data }], guard := none }) (v := ?av9) rfl (by kernel_rfl) (by kernel_rfl) (by kernel_rfl) (fun _ _ _ h => h) (Or.inl ⟨by rfl, ?ay9⟩) (by assumption) ?ar9
      case ay9 => (intro w hSw; (try dsimp only at hSw); go_simp; try (with_reducible rfl))
      case ar9 =>
      try simp only [Act.put, List.setIfInBounds_toArray, List.set_cons_zero, List.set_cons_succ]
      refine wpAnyH_take (i := 10) (oi := { dst := some 20, op := Go.Op.index 9 (Go.Operand.const (Go.Value.string { data := #[48, 49, 50, 51, 52, 53, 54, 55, 56, 57, 97, 98, 99, 100, 101, 102] })) (Go.Operand.tmp 19), type := 5, pos := "text.go:15", after := #[{ on := 9, ground := Go.Ground.data }], guard := none }) (v := ?av10) rfl (by kernel_rfl) (by kernel_rfl) (by kernel_rfl) (fun _ _ _ h => h) (Or.inl ⟨by rfl, ?ay10⟩) (by assumption) ?ar10
      case ay10 => (intro w hSw; (try dsimp only at hSw); go_simp; try (with_reducible rfl))
      case ar10 =>
      try simp only [Act.put, List.setIfInBounds_toArray, List.set_cons_zero, List.set_cons_succ]
      refine wpAnyH_ready (rs := [11]) (by kernel_rfl) (by simp) ?_
      refine AllReadyH.cons (o := { dst := some 21, op := Go.Op.buildSlice 22 2 #[(0, Go.Operand.tmp 15), (1, Go.Operand.tmp 20)], type := 22, pos := "text.go:15", after := #[{ on := 5, ground := Go.Ground.data }, { on := 10, ground := Go.Ground.data }], guard := none }) rfl (fun K hK => ?_) (AllReadyH.nil)
      go_simp
      refine hK.out _ _ ?_ (fun hHeld => ?_)
      · exact (World.cell?_alloc_lt wr _ _ (by show W0.heap.size < _; have := HSZ.out; omega)).trans hci
      clear hK K
      try simp only [Act.put, List.setIfInBounds_toArray, List.set_cons_zero, List.set_cons_succ]
      refine wpAnyH_ready (rs := [12]) (by kernel_rfl) (by simp) ?_
      refine AllReadyH.cons (o := { dst := some 22, op := Go.Op.call { callee := Go.Callee.builtin Go.Builtin.append, args := #[Go.Operand.tmp 10, Go.Operand.tmp 21], argTypes := #[22, 22] }, type := 22, pos := "text.go:15", after := #[{ on := 0, ground := Go.Ground.data }, { on := 11, ground := Go.Ground.data }], guard := none }) rfl (fun K hK => ?_) (AllReadyH.nil)
      simp only [Region.wanted, if_true]
      refine op_append_bytes (.tmp 10) (.tmp 21) 22 rfl (W0.heap.size + 1) 5 i0 slice_u8 hi hz0 hz1 hz2 _ zs.length (zs.map bv) rfl HOD.out (wr.heap.size + 1) _ [b8 (y1 : Int), b8 (y2 : Int)] rfl hmade (by simp; omega) (by have := HSZ.out; simp; omega) ?_
      intro v1 w1 hown1 hg1 hat1
      have hbR : Below (W0.heap.size + 1) wr w1 := ((((Below.refl (W0.heap.size + 1) wr).alloc HSZ.out _).drew)).grown hg1 (by have := HSZ.out; simp; omega) (fun j hj => (HOD.out.lt j hj).1)
      have hcw1 : w1.cell? ⟨W0.heap.size, k, none⟩ = some (.int .u8 (q.toNat : Int)) := (hbR.cell (p := ⟨W0.heap.size, _, none⟩) (by show W0.heap.size < _; omega)).trans hci
      have HH := Lib.hid hown1
      have HBR := Lib.hid hbR
      clear hown1 hg1 hat1 hbR
      refine hK.out _ _ ?_ (fun hHeld => ?_)
      · exact hcw1
      clear hK K
      try simp only [Act.put, List.setIfInBounds_toArray, List.set_cons_zero, List.set_cons_succ]
      refine wpAnyH_take (i := 13) (oi := { dst := some 3, op := Go.Op.assign (Go.Operand.tmp 22), type := 22, pos := "text.go:15", after := #[{ on := 12, ground := Go.Ground.data }, { on := 12, ground := Go.Ground.chain }, { on := 0, ground := Go.Ground.phase }, { on := 1, ground := Go.Ground.phase }, { on := 2, ground := Go.Ground.phase }, { on := 3, ground := Go.Ground.phase }, { on := 4, ground := Go.Ground.phase }, { on := 5, ground := Go.Ground.phase }, { on := 6, ground := Go.Ground.phase }, { on := 7, ground := Go.Ground.phase }, { on := 8, ground := Go.Ground.phase }, { on := 9, ground := Go.Ground.phase }, { on := 10, ground := Go.Ground.phase }, { on := 11, ground := Go.Ground.phase }, { on := 12, ground := Go.Ground.phase }], guard := none }) (v := ?a_11_12v13) rfl (by kernel_rfl) (by kernel_rfl) (by kernel_rfl) (fun _ _ _ h => h) (Or.inl ⟨by rfl, ?a_11_12y13⟩) (by assumption) ?a_11_12r13
      case a_11_12y13 => (intro w hSw; (try dsimp only at hSw); go_simp; try (with_reducible rfl))
      case a_11_12r13 =>
      try simp only [Act.put, List.setIfInBounds_toArray, List.set_cons_zero, List.set_cons_succ]
      refine wpAnyH_done (by kernel_rfl) ?_ _
      go_wp2
      refine ⟨⟨k, by omega, by have := EK.out; go_num, ?_, HROW.out.below HBR.out (Nat.lt_succ_self _), HBB.out.trans (HBR.out.mono (Nat.le_succ _)), by have := HBR.out.size; have := HSZ.out; omega⟩, by have := EK.out; simp [intOf]⟩
      rw [HS.out, List.length_append, List.map_append]
      exact HH.out
    · obtain rfl : i = 0 := by omega
      rw [List.drop_zero] at hown
      have hby := Byt.of_own hown
      obtain ⟨As, cs, rfl⟩ := own_form hown
      have hrs := run_string_of (P := Tryd.prog) wr 22 9 5 slice_u8 Tryd.underlying5 Tryd.underlying9 _ _ (textB bs) hby
      have e0 : ((0 : Nat) : Int) - 1 = -1 := rfl
      rw [e0]
      clear hown hby e0
      go_wp2
      go_ret
      exact ⟨rfl, hbel⟩
end Go.Proofs.YtpcopimbnbmkmaaDoor
