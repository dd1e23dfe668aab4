/-
  Texts joined: TvN, ShaPure, Words. Conditions: those of each.
-/
import Derived.Test.YthelmclpmalofaaDoorK4
import Derived.Laws.Bits64
import Derived.Lib.EndianBits
import Derived.KernelRfl
import Derived.Test.YthelmclpmalofaaDoorK2
/-
  tx.Encode without witnesses. Conditions: sizes within the reach.
-/
namespace Go.Proofs.YthelmclpmalofaaDoor
open Go.RowKit

theorem ne_out : (54 : TypeId) ≠ 5 := by decide
theorem ne_tx : (26 : TypeId) ≠ 5 := by decide
theorem box_row (w : World) (t : TypeId) (Z V : List Value) : VRow ((w.alloc (.cells Z.toArray t)).setRow w.heap.size V.toArray) w.heap.size t V ∧ Below w.heap.size w ((w.alloc (.cells Z.toArray t)).setRow w.heap.size V.toArray) :=
  ⟨(VRow.new w t Z).setRow V, below_setRow ((Below.refl _ w).alloc (Nat.le_refl _) _) (Nat.le_refl _) _⟩
def zTin : List Value := List.replicate 32 (.int .u8 0) ++ [.int .u32 0, .slice none 0 0, .int .u32 0, .slice none 0 0]
theorem zero_tin (W : World) : (zeroValue 49).run Tryd.prog W = .ok (.agg zTin.toArray) W := by kernel_rfl
theorem zTin_len : zTin.length = 36 := rfl
theorem size_tin : (Tryd.prog.info? 49).map (·.size) = some 36 := by kernel_rfl
theorem size_tout : (Tryd.prog.info? 54).map (·.size) = some 2 := by kernel_rfl
theorem size_tx : (Tryd.prog.info? 26).map (·.size) = some 4 := by kernel_rfl
theorem zero_tout (W : World) : (zeroValue 54).run Tryd.prog W = .ok (.agg [Value.int .i64 0, Value.slice none 0 0].toArray) W := by kernel_rfl
theorem arr_one {l : List Value} (h : ∀ v ∈ l, v.oneCell' = true) : l.toArray.all (·.oneCell') = true := Array.all_eq_true_iff_forall_mem.2 (fun v hv => h v (by simpa using hv))
theorem WrT.new {w0 w : World} {B : Nat} (hb : Below B w0 w) (hB : B ≤ w0.heap.size) : WrT w0 (w.alloc (.cells #[.slice none 0 0] 81)) B w.heap.size [] :=
  ⟨⟨.slice none 0 0, heap_alloc_new w _, World.ownsRow_nil _ _ _ _⟩, hb.alloc (Nat.le_trans hB hb.size) _, Nat.le_trans hB hb.size, hB⟩
theorem out_t {w0 : World} {B g : Nat} (xs : List UInt8) (w : World) (h : WrT w0 w B g xs) (hl : xs.length ≤ 60000) :
    Calls Tryd.prog 54 #[.pointer (some ⟨g, 0, none⟩)] w (Fresh w xs) := by
  obtain ⟨v, hv⟩ := h.ex
  exact out_any g B v xs w hv hl
/-- What Encode's loops keep. -/
structure EncAt (w wr : World) (B g GT : Nat) (TC : List Value) (xs : List UInt8) : Prop where
  wt : WrT w wr B g xs
  row : VRow wr GT 26 TC
theorem meas_n {n i : Nat} (hi : i < n) : n - (intOf (.int .i64 ((i : Int) + 1))).toNat < n - (intOf (.int .i64 (i : Int))).toNat := by
  simp only [intOf]
  omega

set_option maxRecDepth 100000 in
set_option maxHeartbeats 6400000 in
theorem encode_any (B : Nat) (t : TxP) (iv ov : Value) (X : List InV) (Y : List OutV) (w : World) (ht : TxR w B t iv ov X Y) (hB : B ≤ w.heap.size) (hf : t.fit) :
    Calls Tryd.prog 32 #[.agg (txC t iv ov).toArray, .bool false] w (Fresh w (encB t)) := by
  have ht0 := ht.more hB
  obtain ⟨A1, cp1, hif, _, _⟩ := ht.ins.row.form
  obtain ⟨A2, cp2, hof, _, _⟩ := ht.outs.row.form
  have hni := hf.ni
  have hno := hf.no
  rw [← ht.nins] at hni
  rw [← ht.nouts] at hno
  have v0 := ht.ok.v0
  have v1 := ht.ok.v1
  have l0 := ht.ok.l0
  have l1 := ht.ok.l1
  have hhd : (headB t).length = 4 := by unfold headB; rw [low_length]
  have hzi := zero_tin
  have hzo := zero_tout
  obtain ⟨ZI, hZI⟩ : ∃ z, z = zTin := ⟨_, rfl⟩
  have hzil : ZI.length = 36 := by rw [hZI]; rfl
  rw [← hZI] at hzi
  obtain ⟨ZO, hZO⟩ : ∃ z, z = [Value.int .i64 0, Value.slice none 0 0] := ⟨_, rfl⟩
  have hzol : ZO.length = 2 := by rw [hZO]; rfl
  rw [← hZO] at hzo
  obtain ⟨TC, hTC⟩ : ∃ z, z = txC t iv ov := ⟨_, rfl⟩
  have t0 : TC[0]? = some (.int .i32 t.ver) := by rw [hTC]; rfl
  have t1 : TC[1]? = some iv := by rw [hTC]; rfl
  have t2 : TC[2]? = some ov := by rw [hTC]; rfl
  have t3 : TC[3]? = some (.int .u32 t.lock) := by rw [hTC]; rfl
  rw [← hTC]
  obtain ⟨nX, hnX⟩ : ∃ n, n = X.length := ⟨_, rfl⟩
  obtain ⟨nY, hnY⟩ : ∃ n, n = Y.length := ⟨_, rfl⟩
  rw [← hnX] at hif hni
  rw [← hnY] at hof hno
  obtain ⟨ver, hver⟩ : ∃ n, n = t.ver := ⟨_, rfl⟩
  obtain ⟨lk, hlk⟩ : ∃ n, n = t.lock := ⟨_, rfl⟩
  rw [← hver] at v0 v1 t0
  rw [← hlk] at l0 l1 t3
  have HX := Lib.hid hnX
  have HY := Lib.hid hnY
  have HVER := Lib.hid hver
  have HLK := Lib.hid hlk
  have HHD := Lib.hid hhd
  have HT := Lib.hid ht0
  have HF := Lib.hid hf
  have HZI := Lib.hid hzil
  have HZO := Lib.hid hzol
  subst hif hof
  have b0 : Below w.heap.size w (w.alloc (.cells TC.toArray 26)) := (Below.refl _ w).alloc (Nat.le_refl _) _
  have hs1 : (w.alloc (.cells TC.toArray 26)).heap.size = w.heap.size + 1 := by simp
  have hat : EncAt w ((w.alloc (.cells TC.toArray 26)).alloc (.cells #[.slice none 0 0] 81)) w.heap.size (w.heap.size + 1) w.heap.size TC [] := by
    refine ⟨?_, (Below.heap_alloc _ _ _ (VRow.new w 26 TC).lt).trans (VRow.new w 26 TC)⟩
    have q := WrT.new b0 (Nat.le_refl _)
    rw [hs1] at q
    exact q
  obtain ⟨w1, hw1⟩ : ∃ z, z = ((w.alloc (.cells TC.toArray 26)).alloc (.cells #[.slice none 0 0] 81)) := ⟨_, rfl⟩
  obtain ⟨GT, hGT⟩ : ∃ z, z = w.heap.size := ⟨_, rfl⟩
  obtain ⟨g, hg⟩ : ∃ z, z = w.heap.size + 1 := ⟨_, rfl⟩
  have hgne : GT ≠ g := by omega
  rw [← hw1, ← hg] at hat
  have hat' : EncAt w w1 w.heap.size g GT TC [] := by rw [hGT]; exact hat
  have HAT := Lib.hid hat'
  have HW1 := Lib.hid hw1
  have HGT := Lib.hid hGT
  have HG := Lib.hid hg
  have HNE := Lib.hid hgne
  have T0 := Lib.hid t0
  have T1 := Lib.hid t1
  have T2 := Lib.hid t2
  have T3 := Lib.hid t3
  clear hat hat' hw1 hGT hg hgne b0 hs1 t0 t1 t2 t3 ht ht0 hf hnX hnY hver hlk hhd hTC hZI hZO hzil hzol hB
  go_enter Tryd.func32, Tryd.ntmps32
  go_upto_region 2 with fail
  change Code.wp _ _ _ _ ((w.alloc (.cells TC.toArray 26)).alloc (.cells #[.slice none 0 0] 81))
  rw [← HW1.out, show w.heap.size + 1 = g from HG.out.symm, show w.heap.size = GT from HGT.out.symm]
  clear HW1 HG
  try dsimp only [Act.put]
  have q0 := HAT.out.row.cell T0.out
  go_wp2_with go_big_skip
  refine (u32_t (ver % 4294967296) _ w1 HAT.out.wt (by omega) (by omega) (by simp)).mono ?_
  rintro e w2 ⟨rfl, h2, k2⟩
  have H2 := Lib.hid (show EncAt w w2 w.heap.size g GT TC (headB t) from ⟨by unfold headB; rw [← HVER.out]; simpa using h2, k2 GT _ _ ne_tx HNE.out HAT.out.row⟩)
  clear h2 k2 q0
  have q1 := H2.out.row.cell T1.out
  go_wp2_with fail
  refine (size_t (nX : Int) _ w2 H2.out.wt (by omega) (by omega) (by rw [HHD.out]; omega)).mono ?_
  rintro e w3 ⟨rfl, h3, k3⟩
  obtain ⟨P, hP⟩ : ∃ P, P = headB t ++ sizeB (nX : Int) := ⟨_, rfl⟩
  rw [← hP] at h3
  have HPL := Lib.hid (show P.length ≤ 13 by rw [hP, List.length_append, HHD.out]; have := sizeB_le (nX : Int); omega)
  have HP := Lib.hid hP
  have H3 := Lib.hid (show EncAt w w3 w.heap.size g GT TC P from ⟨h3, k3 GT _ _ ne_tx HNE.out H2.out.row⟩)
  clear h3 k3 q1 hP
  have q1 := H3.out.row.cell T1.out
  go_wp2_with fail
  clear q1
  go_loopw [30] (fun s wr => ∃ k : Nat, k ≤ nX ∧ s = .int .i64 (k : Int) ∧ Hid (EncAt w wr w.heap.size g GT TC (P ++ (t.ins.take k).flatMap tiB))) (fun s _ => nX - (intOf s).toNat)
  case atStart => exact ⟨0, Nat.zero_le _, rfl, Lib.hid (by simpa using H3.out)⟩
  case round =>
    obtain ⟨k, hk, rfl, hat⟩ := hrel
    obtain ⟨w4, rfl⟩ : ∃ z : World, z = wr := ⟨_, rfl⟩
    by_cases hlt : k < nX
    · as_aux_lemma =>
      have dk : decide ((k : Int) < (nX : Int)) = true := decide_eq_true (by omega)
      obtain ⟨x, hx⟩ : ∃ x, X[k]? = some x := ⟨_, List.getElem?_eq_getElem (by rw [← HX.out]; exact hlt)⟩
      obtain ⟨b, o, c, ef, hnc, hcm, hbl, hrg, hin⟩ := (HT.out.ins.below hat.out.wt.bel).at hx
      injection ef with ef1 ef2 ef3
      subst ef1 ef3
      have hin0 := HT.out.ins.each x (List.mem_of_getElem? hx)
      have hpk : t.ins[k]? = some x.p := by rw [← HT.out.ei, List.getElem?_map, hx]; rfl
      have hsc := (HF.out.si x.p (List.mem_of_getElem? hpk)).2
      have hnx := flat_next tiB hpk
      have hlk := HF.out.ins_le k
      have hcl := inC_length hin.ok
      have hc1 := arr_one hin.one
      obtain ⟨C, hC⟩ : ∃ C, C = inC x := ⟨_, rfl⟩
      have hcall := fun W (h : WrT w W w.heap.size g (P ++ (t.ins.take k).flatMap tiB)) => writeInput_t x _ W h hin0 hsc (by rw [List.length_append]; have := HPL.out; omega)
      rw [← hC] at hrg hcl hc1
      simp only [← hC] at hcall
      obtain ⟨r1, r2⟩ := box_row w4 49 ZI C
      have HSZ := Lib.hid (show (Tryd.prog.info? 49).map (·.size) = some C.length by rw [hcl]; exact size_tin)
      have HLL := Lib.hid (show ZI.length = C.length by rw [HZI.out, hcl])
      have HC1 := Lib.hid hc1
      have HRG := Lib.hid hrg
      have HCALL := Lib.hid hcall
      have HNX := Lib.hid hnx
      have hcw : nX ≤ cp1 := by rw [HX.out]; exact hnc
      clear hcl hc1 hrg hcall hnx hC hx hin hin0 hpk hsc hlk hnc hcm hbl ef2
      go_upto_region 10 with (first
        | (refine wpList_load_mid rfl 49 _ rfl b (o + k * 36) rfl C _ HRG.out Tryd.underlying49 rfl HSZ.out ?_)
        | (refine wpList_store_vrow rfl 49 _ _ rfl rfl rfl (VRow.new _ _ ZI) HSZ.out HLL.out HC1.out ?_))
      change Code.wp _ _ _ _ ((w4.alloc (.cells ZI.toArray 49)).setRow w4.heap.size C.toArray)
      obtain ⟨w5, hw5⟩ : ∃ z, z = ((w4.alloc (.cells ZI.toArray 49)).setRow w4.heap.size C.toArray) := ⟨_, rfl⟩
      obtain ⟨GB, hGB⟩ : ∃ z, z = w4.heap.size := ⟨_, rfl⟩
      rw [← hw5] at r1 r2 ⊢
      rw [← hGB] at r1 ⊢
      have R1 := Lib.hid r1
      have H5 := Lib.hid (show EncAt w w5 w.heap.size g GT TC (P ++ (t.ins.take k).flatMap tiB) from ⟨hat.out.wt.below r2, hat.out.row.below r2 hat.out.row.lt⟩)
      clear r1 r2 hw5 hGB hat
      go_wp2_with (first
        | (refine wpList_load_vrow rfl 49 _ rfl rfl R1.out Tryd.underlying49 HSZ.out ?_))
      refine (HCALL.out _ H5.out.wt).mono ?_
      rintro e w6 ⟨rfl, h6, k6⟩
      have H6 := Lib.hid (show EncAt w w6 w.heap.size g GT TC (P ++ (t.ins.take (k + 1)).flatMap tiB) from ⟨by rw [HNX.out, ← List.append_assoc]; exact h6, k6 GT _ _ ne_tx HNE.out H5.out.row⟩)
      clear h6 k6
      go_wp2_with fail
      exact ⟨⟨k + 1, hlt, by first | rfl | (rw [wrap_small2 (by omega) (by omega)]; rfl), H6⟩, meas_n hlt⟩
    · as_aux_lemma =>
      have dk : decide ((k : Int) < (nX : Int)) = false := decide_eq_false (by omega)
      have hkn : k = t.ins.length := by rw [← HT.out.nins, ← HX.out]; omega
      have h4 := hat.out
      rw [hkn, List.take_length] at h4
      obtain ⟨P2, hP2⟩ : ∃ P2, P2 = headB t ++ insB t.ins := ⟨_, rfl⟩
      rw [show P ++ t.ins.flatMap tiB = P2 by rw [hP2, HP.out, HX.out, HT.out.nins, List.append_assoc]; rfl] at h4
      have HP2L := Lib.hid (show P2.length ≤ 20993 by rw [hP2, List.length_append, HHD.out]; have := insB_le HF.out; omega)
      have HP2 := Lib.hid hP2
      have H4 := Lib.hid h4
      clear hkn h4 hP2 hat hk
      have q2 := H4.out.row.cell T2.out
      go_wp2_with fail
      refine (size_t (nY : Int) _ w4 H4.out.wt (by omega) (by omega) (by have := HP2L.out; omega)).mono ?_
      rintro e w7 ⟨rfl, h7, k7⟩
      obtain ⟨P3, hP3⟩ : ∃ P, P = P2 ++ sizeB (nY : Int) := ⟨_, rfl⟩
      rw [← hP3] at h7
      have HP3L := Lib.hid (show P3.length ≤ 21002 by rw [hP3, List.length_append]; have := sizeB_le (nY : Int); have := HP2L.out; omega)
      have HP3 := Lib.hid hP3
      have H7 := Lib.hid (show EncAt w w7 w.heap.size g GT TC P3 from ⟨h7, k7 GT _ _ ne_tx HNE.out H4.out.row⟩)
      clear h7 k7 q2 hP3
      have q2 := H7.out.row.cell T2.out
      go_wp2_with fail
      clear q2
      go_loopw [45] (fun s wr => ∃ k : Nat, k ≤ nY ∧ s = .int .i64 (k : Int) ∧ Hid (EncAt w wr w.heap.size g GT TC (P3 ++ (t.outs.take k).flatMap toB))) (fun s _ => nY - (intOf s).toNat)
      case atStart => exact ⟨0, Nat.zero_le _, rfl, Lib.hid (by simpa using H7.out)⟩
      case round =>
        obtain ⟨j, hj, rfl, hat⟩ := hrel
        obtain ⟨w8, rfl⟩ : ∃ z : World, z = wr := ⟨_, rfl⟩
        by_cases hlt : j < nY
        · as_aux_lemma =>
          have dj : decide ((j : Int) < (nY : Int)) = true := decide_eq_true (by omega)
          obtain ⟨y, hy⟩ : ∃ y, Y[j]? = some y := ⟨_, List.getElem?_eq_getElem (by rw [← HY.out]; exact hlt)⟩
          obtain ⟨b, o, c, ef, hnc, hcm, hbl, hrg, hin⟩ := (HT.out.outs.below hat.out.wt.bel).at hy
          injection ef with ef1 ef2 ef3
          subst ef1 ef3
          have hin0 := HT.out.outs.each y (List.mem_of_getElem? hy)
          have hpk : t.outs[j]? = some y.p := by rw [← HT.out.eo, List.getElem?_map, hy]; rfl
          have hsc := (HF.out.so y.p (List.mem_of_getElem? hpk)).2
          have hnx := flat_next toB hpk
          have hlk := HF.out.outs_le j
          have hc1 := arr_one hin.one
          obtain ⟨C, hC⟩ : ∃ C, C = outC y := ⟨_, rfl⟩
          have hcl : C.length = 2 := by rw [hC]; rfl
          have c0 : C[0]? = some (.int .i64 y.p.v) := by rw [hC]; rfl
          have c1 : C[1]? = some y.sv := by rw [hC]; rfl
          rw [← hC] at hrg hc1
          obtain ⟨As, cs, hsf⟩ := hin0.sc.form
          have hby := hin0.sc
          rw [hsf] at c1 hby
          have hv0 := hin.ok.v0
          have hv1 := hin.ok.v1
          have htb : toB y.p = low (y.p.v % 18446744073709551616) 8 ++ (sizeB y.p.sc.length ++ y.p.sc) := rfl
          rw [htb] at hnx
          obtain ⟨yv, hyv⟩ : ∃ n, n = y.p.v := ⟨_, rfl⟩
          obtain ⟨SC, hSC⟩ : ∃ n, n = y.p.sc := ⟨_, rfl⟩
          rw [← hyv] at c0 hv0 hv1 hnx
          rw [← hSC] at c1 hby hsc hnx
          obtain ⟨r1, r2⟩ := box_row w8 54 ZO C
          have HSZ := Lib.hid (show (Tryd.prog.info? 54).map (·.size) = some C.length by rw [hcl]; exact size_tout)
          have HLL := Lib.hid (show ZO.length = C.length by rw [HZO.out, hcl])
          have HC1 := Lib.hid hc1
          have HRG := Lib.hid hrg
          have HNX := Lib.hid hnx
          have HBY := Lib.hid hby
          have HLK := Lib.hid hlk
          have HSC := Lib.hid hsc
          have C0 := Lib.hid c0
          have C1 := Lib.hid c1
          have hcw : nY ≤ cp2 := by rw [HY.out]; exact hnc
          clear hcl hc1 hrg hnx hC hy hin hin0 hpk hsc hlk hnc hcm hbl ef2 c0 c1 hby hyv hSC htb hsf
          go_upto_region 16 with (first
            | (refine wpList_load_mid rfl 54 _ rfl b (o + j * 2) rfl C _ HRG.out Tryd.underlying54 rfl HSZ.out ?_)
            | (refine wpList_store_vrow rfl 54 _ _ rfl rfl rfl (VRow.new _ _ ZO) HSZ.out HLL.out HC1.out ?_))
          change Code.wp _ _ _ _ ((w8.alloc (.cells ZO.toArray 54)).setRow w8.heap.size C.toArray)
          obtain ⟨w9, hw9⟩ : ∃ z, z = ((w8.alloc (.cells ZO.toArray 54)).setRow w8.heap.size C.toArray) := ⟨_, rfl⟩
          obtain ⟨GB, hGB⟩ : ∃ z, z = w8.heap.size := ⟨_, rfl⟩
          rw [← hw9] at r1 r2 ⊢
          rw [← hGB] at r1 ⊢
          have HNB := Lib.hid (show GB ≠ g from fun q => by have := hat.out.wt.lt; omega)
          have R1 := Lib.hid r1
          have H9 := Lib.hid (show EncAt w w9 w.heap.size g GT TC (P3 ++ (t.outs.take j).flatMap toB) from ⟨hat.out.wt.below r2, hat.out.row.below r2 hat.out.row.lt⟩)
          have d0 := r1.cell C0.out
          clear r1 r2 hw9 hGB hat
          go_wp2_with fail
          refine (u64_t (yv % 18446744073709551616) _ w9 H9.out.wt (by omega) (by omega) (by rw [List.length_append]; have := HP3L.out; have := HLK.out; omega)).mono ?_
          rintro e wa ⟨rfl, ha, ka⟩
          have HA := Lib.hid (show EncAt w wa w.heap.size g GT TC _ from ⟨ha, ka GT _ _ ne_tx HNE.out H9.out.row⟩)
          have ra := ka GB _ _ ne_out HNB.out R1.out
          have d1 := ra.cell C1.out
          clear ha ka ra d0
          go_wp2_with fail
          refine (bytes_t _ SC _ wa HA.out.wt HBY.out (by rw [List.length_append, List.length_append, low_length]; have := HP3L.out; have := HLK.out; omega) HSC.out).mono ?_
          rintro e wb ⟨rfl, hb, kb⟩
          have HB2 := Lib.hid (show EncAt w wb w.heap.size g GT TC (P3 ++ (t.outs.take (j + 1)).flatMap toB) from ⟨by rw [HNX.out]; simpa only [List.append_assoc] using hb, kb GT _ _ ne_tx HNE.out HA.out.row⟩)
          clear hb kb d1
          go_wp2_with fail
          exact ⟨⟨j + 1, hlt, by first | rfl | (rw [wrap_small2 (by omega) (by omega)]; rfl), HB2⟩, meas_n hlt⟩
        · as_aux_lemma =>
          have dj : decide ((j : Int) < (nY : Int)) = false := decide_eq_false (by omega)
          have hjn : j = t.outs.length := by rw [← HT.out.nouts, ← HY.out]; omega
          have h8 := hat.out
          rw [hjn, List.take_length] at h8
          obtain ⟨P4, hP4⟩ : ∃ P4, P4 = headB t ++ insB t.ins ++ outsB t.outs := ⟨_, rfl⟩
          rw [show P3 ++ t.outs.flatMap toB = P4 by rw [hP4, HP3.out, HP2.out, HY.out, HT.out.nouts, List.append_assoc]; rfl] at h8
          have HP4L := Lib.hid (show P4.length ≤ 41342 by rw [hP4, List.length_append, List.length_append, HHD.out]; have := insB_le HF.out; have := outsB_le HF.out; omega)
          have HP4 := Lib.hid hP4
          have H8 := Lib.hid h8
          clear hjn h8 hP4 hat hj
          have q3 := H8.out.row.cell T3.out
          go_wp2_with go_big_skip
          refine (u32_t lk _ w8 H8.out.wt l0 l1 (by have := HP4L.out; omega)).mono ?_
          rintro e wc ⟨rfl, hc, kc⟩
          have hle : encB t = P4 ++ low lk 4 := by rw [HP4.out, HLK.out]; rfl
          rw [← hle] at hc
          have hel := encB_le HF.out
          obtain ⟨ZS, hZS⟩ : ∃ z, z = encB t := ⟨_, rfl⟩
          rw [← hZS] at hc hel
          have HZS := Lib.hid hZS
          have HC := Lib.hid hc
          have HEL := Lib.hid hel
          clear hc kc q3 hle hZS hel
          go_wp2_with fail
          refine (out_t ZS wc HC.out (by have := HEL.out; omega)).mono ?_
          rintro e wd ⟨A, c, rfl, hown, hbd⟩
          have HO := Lib.hid hown
          have HD := Lib.hid hbd
          clear hown hbd
          go_wp2
          go_ret
          have hb0 : Below w.heap.size w wc := HC.out.bel
          rw [← HZS.out]
          exact ⟨A, c, rfl, own_le HO.out hb0.size, hb0.trans (HD.out.mono hb0.size)⟩
end Go.Proofs.YthelmclpmalofaaDoor

/-
  SHA-256 on plain numbers, in the words of the walks. Conditions: none (plain mathematics).
-/
namespace Go.Proofs.YthelmclpmalofaaDoor

/-- The sum of two words. -/
def add32 (a b : Int) : Int := (a + b) % 4294967296
def rot32 (n : Nat) (x : Int) : Int := bits .or .u32 (x * 2 ^ n % 4294967296) (x / 2 ^ (32 - n))
def not32 (x : Int) : Int := bits .xor .u32 IntKind.u32.max x
def big1 (e : Int) : Int := bits .xor .u32 (bits .xor .u32 (rot32 26 e) (rot32 21 e)) (rot32 7 e)
def big0 (a : Int) : Int := bits .xor .u32 (bits .xor .u32 (rot32 30 a) (rot32 19 a)) (rot32 10 a)
def ch32 (e f g : Int) : Int := bits .xor .u32 (bits .and .u32 e f) (bits .and .u32 (not32 e) g)
def maj32 (a b c : Int) : Int := bits .xor .u32 (bits .xor .u32 (bits .and .u32 a b) (bits .and .u32 a c)) (bits .and .u32 b c)
def small0 (x : Int) : Int := bits .xor .u32 (bits .xor .u32 (rot32 25 x) (rot32 14 x)) (x / 8)
def small1 (x : Int) : Int := bits .xor .u32 (bits .xor .u32 (rot32 15 x) (rot32 13 x)) (x / 1024)

structure S8 where
  a : Int
  b : Int
  c : Int
  d : Int
  e : Int
  f : Int
  g : Int
  h : Int
def rnd (k w : Int) (s : S8) : S8 :=
  let t1 := add32 (add32 (add32 (add32 s.h (big1 s.e)) (ch32 s.e s.f s.g)) k) w
  let t2 := add32 (big0 s.a) (maj32 s.a s.b s.c)
  ⟨add32 t1 t2, s.a, s.b, s.c, add32 s.d t1, s.e, s.f, s.g⟩

def U32 (x : Int) : Prop := 0 ≤ x ∧ x < 4294967296
theorem add32_u (a b : Int) : U32 (add32 a b) := by unfold add32 U32; omega
theorem bits32_u (op : BinOp) (a b : Int) : U32 (bits op .u32 a b) := by
  unfold bits
  have : ∀ n : Int, U32 (IntKind.u32.wrap n) := fun n => by unfold U32 IntKind.wrap; simp [IntKind.bits, IntKind.signed]; omega
  exact this _
structure S8.Ok (s : S8) : Prop where
  a : U32 s.a
  b : U32 s.b
  c : U32 s.c
  d : U32 s.d
  e : U32 s.e
  f : U32 s.f
  g : U32 s.g
  h : U32 s.h
theorem rnd_ok (k w : Int) {s : S8} (h : s.Ok) : (rnd k w s).Ok := ⟨add32_u _ _, h.a, h.b, h.c, add32_u _ _, h.e, h.f, h.g⟩

/-- The first 64 constants. -/
def k256 : List Int := [0x428a2f98, 0x71374491, 0xb5c0fbcf, 0xe9b5dba5, 0x3956c25b, 0x59f111f1, 0x923f82a4, 0xab1c5ed5, 0xd807aa98, 0x12835b01, 0x243185be, 0x550c7dc3, 0x72be5d74, 0x80deb1fe, 0x9bdc06a7, 0xc19bf174, 0xe49b69c1, 0xefbe4786, 0x0fc19dc6, 0x240ca1cc, 0x2de92c6f, 0x4a7484aa, 0x5cb0a9dc, 0x76f988da, 0x983e5152, 0xa831c66d, 0xb00327c8, 0xbf597fc7, 0xc6e00bf3, 0xd5a79147, 0x06ca6351, 0x14292967, 0x27b70a85, 0x2e1b2138, 0x4d2c6dfc, 0x53380d13, 0x650a7354, 0x766a0abb, 0x81c2c92e, 0x92722c85, 0xa2bfe8a1, 0xa81a664b, 0xc24b8b70, 0xc76c51a3, 0xd192e819, 0xd6990624, 0xf40e3585, 0x106aa070, 0x19a4c116, 0x1e376c08, 0x2748774c, 0x34b0bcb5, 0x391c0cb3, 0x4ed8aa4a, 0x5b9cca4f, 0x682e6ff3, 0x748f82ee, 0x78a5636f, 0x84c87814, 0x8cc70208, 0x90befffa, 0xa4506ceb, 0xbef9a3f7, 0xc67178f2]
def h256 : List Int := [0x6a09e667, 0xbb67ae85, 0x3c6ef372, 0xa54ff53a, 0x510e527f, 0x9b05688c, 0x1f83d9ab, 0x5be0cd19]

/-- Four bytes as a word, the greatest first. -/
def be32 (b0 b1 b2 b3 : UInt8) : Int := (b0.toNat : Int) * 16777216 + (b1.toNat : Int) * 65536 + (b2.toNat : Int) * 256 + (b3.toNat : Int)
theorem be32_u (b0 b1 b2 b3 : UInt8) : U32 (be32 b0 b1 b2 b3) := by
  have h0 := b0.toNat_lt
  have h1 := b1.toNat_lt
  have h2 := b2.toNat_lt
  have h3 := b3.toNat_lt
  unfold be32 U32
  omega
def wordAt (bs : List UInt8) (t : Nat) : Int := be32 (bs.getD (4 * t) 0) (bs.getD (4 * t + 1) 0) (bs.getD (4 * t + 2) 0) (bs.getD (4 * t + 3) 0)
def words16 (bs : List UInt8) : List Int := (List.range 16).map (wordAt bs)

/-- The next word of the schedule. -/
def nextW (ws : List Int) : Int :=
  add32 (add32 (add32 (small1 (ws.getD (ws.length - 2) 0)) (ws.getD (ws.length - 7) 0)) (small0 (ws.getD (ws.length - 15) 0))) (ws.getD (ws.length - 16) 0)
def schedN (ws : List Int) : Nat → List Int
  | 0 => ws
  | n + 1 => schedN ws n ++ [nextW (schedN ws n)]
theorem schedN_length (ws : List Int) : ∀ n, (schedN ws n).length = ws.length + n
  | 0 => rfl
  | n + 1 => by rw [schedN, List.length_append, schedN_length ws n]; rfl
def W64 (bs : List UInt8) : List Int := schedN (words16 bs) 48
theorem W64_length (bs : List UInt8) : (W64 bs).length = 64 := by
  unfold W64
  rw [schedN_length]
  simp [words16]

def rounds (ks ws : List Int) : Nat → S8 → S8
  | 0, s => s
  | t + 1, s => rnd (ks.getD t 0) (ws.getD t 0) (rounds ks ws t s)
theorem rounds_ok (ks ws : List Int) : ∀ (t : Nat) {s : S8}, s.Ok → (rounds ks ws t s).Ok
  | 0, _, h => h
  | t + 1, _, h => rnd_ok _ _ (rounds_ok ks ws t h)
def S8.list (s : S8) : List Int := [s.a, s.b, s.c, s.d, s.e, s.f, s.g, s.h]
/-- A block more. -/
def comp256 (s : S8) (bs : List UInt8) : S8 :=
  let v := rounds k256 (W64 bs) 64 s
  ⟨add32 s.a v.a, add32 s.b v.b, add32 s.c v.c, add32 s.d v.d, add32 s.e v.e, add32 s.f v.f, add32 s.g v.g, add32 s.h v.h⟩
theorem comp256_ok (s : S8) (bs : List UInt8) : (comp256 s bs).Ok := ⟨add32_u _ _, add32_u _ _, add32_u _ _, add32_u _ _, add32_u _ _, add32_u _ _, add32_u _ _, add32_u _ _⟩
def start256 : S8 := ⟨0x6a09e667, 0xbb67ae85, 0x3c6ef372, 0xa54ff53a, 0x510e527f, 0x9b05688c, 0x1f83d9ab, 0x5be0cd19⟩
theorem start256_ok : start256.Ok := ⟨by unfold U32; decide, by unfold U32; decide, by unfold U32; decide, by unfold U32; decide, by unfold U32; decide, by unfold U32; decide, by unfold U32; decide, by unfold U32; decide⟩
/-- Block by block. -/
def blocks256 (m : List UInt8) : Nat → S8
  | 0 => start256
  | n + 1 => comp256 (blocks256 m n) ((m.drop (64 * n)).take 64)
theorem blocks256_ok (m : List UInt8) : ∀ n, (blocks256 m n).Ok
  | 0 => start256_ok
  | _ + 1 => comp256_ok _ _
theorem blocks256_more {m : List UInt8} (x : List UInt8) : ∀ n, 64 * n ≤ m.length → blocks256 (m ++ x) n = blocks256 m n
  | 0, _ => rfl
  | n + 1, h => by
    unfold blocks256
    rw [blocks256_more x n (by omega), List.drop_append_of_le_length (by omega), List.take_append_of_le_length (by rw [List.length_drop]; omega)]

/-- What closes a message of n bytes. -/
def lenB (n : Nat) : List UInt8 := (List.range 8).map fun i => UInt8.ofNat (8 * n / 256 ^ (7 - i) % 256)
def padB (n : Nat) : List UInt8 := [128] ++ List.replicate ((119 - n % 64) % 64) 0 ++ lenB n
theorem padB_fits (n : Nat) : (n + (padB n).length) % 64 = 0 := by
  unfold padB lenB
  simp only [List.length_append, List.length_cons, List.length_nil, List.length_replicate, List.length_map, List.length_range]
  omega
def full (m : List UInt8) : List UInt8 := m ++ padB m.length
/-- The bytes of the words. -/
def outB (ws : List Int) : List UInt8 := ws.flatMap fun w => [UInt8.ofNat (w / 16777216 % 256).toNat, UInt8.ofNat (w / 65536 % 256).toNat, UInt8.ofNat (w / 256 % 256).toNat, UInt8.ofNat (w % 256).toNat]
def sha256 (m : List UInt8) : List UInt8 := outB (blocks256 (full m) ((full m).length / 64)).list
theorem outB_length (ws : List Int) : (outB ws).length = 4 * ws.length := by
  induction ws with
  | nil => rfl
  | cons w ws ih => unfold outB at ih ⊢; rw [List.flatMap_cons, List.length_append, ih, List.length_cons]; simp; omega
theorem sha256_length (m : List UInt8) : (sha256 m).length = 32 := by
  unfold sha256
  rw [outB_length]
  rfl

theorem sha_abc : sha256 [97, 98, 99] = [0xba, 0x78, 0x16, 0xbf, 0x8f, 0x01, 0xcf, 0xea, 0x41, 0x41, 0x40, 0xde, 0x5d, 0xae, 0x22, 0x23, 0xb0, 0x03, 0x61, 0xa3, 0x96, 0x17, 0x7a, 0x9c, 0xb4, 0x10, 0xff, 0x61, 0xf2, 0x00, 0x15, 0xad] := by decide +kernel
end Go.Proofs.YthelmclpmalofaaDoor

/-
  Rows of numbers that may be written. Conditions: none.
-/
namespace Go.Proofs.YthelmclpmalofaaDoor
open Go.RowKit

/-- Block g holds these numbers of kind k, and may be written. -/
def IRow (w : World) (g : Nat) (t : TypeId) (k : IntKind) (xs : List Int) : Prop := w.heap[g]? = some (.cells (xs.map (Value.int k)).toArray t (0, 0))
section
variable {w w' : World} {g : Nat} {t : TypeId} {k : IntKind} {xs : List Int}
theorem IRow.lt (h : IRow w g t k xs) : g < w.heap.size := (Array.getElem?_eq_some_iff.1 h).1
theorem IRow.cell (h : IRow w g t k xs) {i : Nat} {z : Int} (hi : xs[i]? = some z) : w.cell? ⟨g, i, none⟩ = some (.int k z) := by
  rw [cell_of_row w g i _ _ _ h]
  simp [hi]
theorem IRow.free (h : IRow w g t k xs) (i : Nat) : w.frozen? ⟨g, i, none⟩ = false := by
  unfold IRow at h
  simp [World.frozen?, h]
theorem IRow.set (h : IRow w g t k xs) (i : Nat) (z : Int) : IRow (w.setCell ⟨g, i, none⟩ (.int k z)) g t k (xs.set i z) := by
  unfold IRow at h ⊢
  simp [World.setCell, Array.getElem?_modify, h, List.map_set]
theorem IRow.turns {S : Nat → Prop} (h : IRow w g t k xs) (ht : Turns S w w') (hS : ¬ S g) : IRow w' g t k xs := (ht.block g h.lt hS).trans h
theorem IRow.below {B : Nat} (h : IRow w g t k xs) (hb : Below B w w') (hg : g < B) : IRow w' g t k xs := (hb.block g hg).trans h
theorem IRow.drew (h : IRow w g t k xs) : IRow w.drew g t k xs := h
theorem IRow.new (w : World) (t : TypeId) (k : IntKind) (xs : List Int) : IRow (w.alloc (.cells (xs.map (Value.int k)).toArray t)) w.heap.size t k xs := heap_alloc_new w _
end

/-- The first words as they will be, the rest zero. -/
def padZ (n : Nat) (l : List Int) : List Int := l ++ List.replicate (n - l.length) 0
theorem padZ_length {n : Nat} {l : List Int} (h : l.length ≤ n) : (padZ n l).length = n := by simp [padZ]; omega
theorem padZ_set {n : Nat} {l : List Int} {z : Int} (h : l.length < n) : (padZ n l).set l.length z = padZ n (l ++ [z]) := by
  unfold padZ
  rw [List.set_append_right _ _ (Nat.le_refl _), Nat.sub_self, List.length_append, List.append_assoc]
  obtain ⟨m, hm⟩ : ∃ m, n - l.length = m + 1 := ⟨n - l.length - 1, by omega⟩
  rw [hm, List.replicate_succ, List.set_cons_zero]
  have : n - (l.length + [z].length) = m := by simp; omega
  rw [this]
  rfl
theorem padZ_low {n i : Nat} {l : List Int} {z : Int} (h : l[i]? = some z) : (padZ n l)[i]? = some z := by
  unfold padZ
  rw [List.getElem?_append_left (List.getElem?_eq_some_iff.1 h).1]
  exact h
theorem padZ_next {n : Nat} {l : List Int} (h : l.length < n) : (padZ n l)[l.length]? = some 0 := by
  unfold padZ
  rw [List.getElem?_append_right (Nat.le_refl _), Nat.sub_self, List.getElem?_replicate, if_pos (by omega)]
theorem padZ_full {n : Nat} {l : List Int} (h : l.length = n) : padZ n l = l := by
  unfold padZ
  rw [h, Nat.sub_self, List.replicate_zero, List.append_nil]

theorem u32_wrap (n : Int) : IntKind.u32.wrap n = n % 4294967296 := by simp [IntKind.wrap, IntKind.bits, IntKind.signed]
end Go.Proofs.YthelmclpmalofaaDoor
