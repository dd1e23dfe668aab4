/-
  Texts joined: TvV, TvBag. Conditions: those of each.
-/
import Derived.Test.YthelmclpmalofaaDoorK15
/-
  sighash.Witness (not Single). Conditions: sizes within the reach.
-/
namespace Go.Proofs.YthelmclpmalofaaDoor
open Go.RowKit

def witD (t : TxP) (i : Int) (sc : List UInt8) (val k : Int) : List UInt8 := match (if 0 ≤ i then t.ins[i.toNat]? else none) with
  | some p => sha256 (sha256 (witM t p sc val k (prevsD t.ins k) (seqsD t.ins k) (outsD t.outs i k)))
  | none => oneB
theorem prevsD_len (l : List InP) (k : Int) : (prevsD l k).length = 32 := by unfold prevsD; split; rfl; exact sha256_length _
theorem seqsD_len (l : List InP) (k : Int) : (seqsD l k).length = 32 := by unfold seqsD; split; rfl; exact sha256_length _
theorem outsD_len (l : List OutP) (i k : Int) : (outsD l i k).length = 32 := by
  unfold outsD
  split
  · exact sha256_length _
  · split
    · exact sha256_length _
    · rfl
/-- What Witness keeps: its boxes. -/
structure WbAt (w wr : World) (GT GC GV GK GH : Nat) (TC : List Value) (sv : Value) (val k : Int) : Prop where
  t : VRow wr GT 26 TC
  c : VRow wr GC 27 [sv]
  v : VRow wr GV 2 [.int .i64 val]
  k : VRow wr GK 5 [.int .u8 k]
  h : VRow wr GH 36 ((List.replicate 32 (0 : Int)).map (Value.int .u8))
  bel : Below w.heap.size w wr
theorem WbAt.below {w wr w' : World} {GT GC GV GK GH : Nat} {TC : List Value} {sv : Value} {val k : Int} (h : WbAt w wr GT GC GV GK GH TC sv val k) (hb : Below wr.heap.size wr w') : WbAt w w' GT GC GV GK GH TC sv val k :=
  ⟨h.t.below hb h.t.lt, h.c.below hb h.c.lt, h.v.below hb h.v.lt, h.k.below hb h.k.lt, h.h.below hb h.h.lt, h.bel.trans (hb.mono h.bel.size)⟩
theorem WbAt.new (w : World) (TC : List Value) (sv : Value) (val k : Int) :
    WbAt w (((((w.alloc (.cells TC.toArray 26)).alloc (.cells #[sv] 27)).alloc (.cells #[.int .i64 val] 2)).alloc (.cells #[.int .u8 k] 5)).alloc (.cells ((List.replicate 32 (0 : Int)).map (Value.int .u8)).toArray 36))
      w.heap.size (w.heap.size + 1) (w.heap.size + 2) (w.heap.size + 3) (w.heap.size + 4) TC sv val k := by
  obtain ⟨w1, hw1⟩ : ∃ z, z = w.alloc (.cells TC.toArray 26) := ⟨_, rfl⟩
  have s1 : w1.heap.size = w.heap.size + 1 := by rw [hw1]; simp
  have a1 : VRow w1 w.heap.size 26 TC := by rw [hw1]; exact VRow.new _ _ _
  have b1 : Below w.heap.size w w1 := by rw [hw1]; exact (Below.refl _ w).alloc (Nat.le_refl _) _
  rw [← hw1]
  obtain ⟨w2, hw2⟩ : ∃ z, z = w1.alloc (.cells #[sv] 27) := ⟨_, rfl⟩
  have s2 : w2.heap.size = w.heap.size + 2 := by rw [hw2]; simp [s1]
  have c2 : Below w1.heap.size w1 w2 := by rw [hw2]; exact (Below.refl _ w1).alloc (Nat.le_refl _) _
  have a2 : VRow w2 (w.heap.size + 1) 27 [sv] := by rw [hw2, ← s1]; exact VRow.new _ 27 [sv]
  rw [← hw2]
  obtain ⟨w3, hw3⟩ : ∃ z, z = w2.alloc (.cells #[.int .i64 val] 2) := ⟨_, rfl⟩
  have s3 : w3.heap.size = w.heap.size + 3 := by rw [hw3]; simp [s2]
  have c3 : Below w2.heap.size w2 w3 := by rw [hw3]; exact (Below.refl _ w2).alloc (Nat.le_refl _) _
  have a3 : VRow w3 (w.heap.size + 2) 2 [.int .i64 val] := by rw [hw3, ← s2]; exact VRow.new _ 2 [.int .i64 val]
  rw [← hw3]
  obtain ⟨w4, hw4⟩ : ∃ z, z = w3.alloc (.cells #[.int .u8 k] 5) := ⟨_, rfl⟩
  have s4 : w4.heap.size = w.heap.size + 4 := by rw [hw4]; simp [s3]
  have c4 : Below w3.heap.size w3 w4 := by rw [hw4]; exact (Below.refl _ w3).alloc (Nat.le_refl _) _
  have a4 : VRow w4 (w.heap.size + 3) 5 [.int .u8 k] := by rw [hw4, ← s3]; exact VRow.new _ 5 [.int .u8 k]
  rw [← hw4]
  obtain ⟨w5, hw5⟩ : ∃ z, z = w4.alloc (.cells ((List.replicate 32 (0 : Int)).map (Value.int .u8)).toArray 36) := ⟨_, rfl⟩
  have c5 : Below w4.heap.size w4 w5 := by rw [hw5]; exact (Below.refl _ w4).alloc (Nat.le_refl _) _
  have a5 : VRow w5 (w.heap.size + 4) 36 ((List.replicate 32 (0 : Int)).map (Value.int .u8)) := by rw [hw5, ← s4]; exact VRow.new _ _ _
  rw [← hw5]
  exact ⟨(((a1.below c2 (by omega)).below c3 (by omega)).below c4 (by omega)).below c5 (by omega), ((a2.below c3 (by omega)).below c4 (by omega)).below c5 (by omega), (a3.below c4 (by omega)).below c5 (by omega), a4.below c5 (by omega), a5,
    b1.trans ((c2.mono b1.size).trans ((c3.mono (by omega)).trans ((c4.mono (by omega)).trans (c5.mono (by omega)))))⟩
theorem hash3 {DS : List UInt8} (h : DS.length = 32) : Hash3 ((nums DS).map (Value.int .u8)) := by
  have hl : ((nums DS).map (Value.int .u8)).length = 32 := by rw [List.length_map, nums_length, h]
  refine ⟨by rw [hl]; exact info_h, by rw [hl]; rfl, arr_one (fun v hv => ?_)⟩
  obtain ⟨n, _, rfl⟩ := List.mem_map.1 hv
  rfl
theorem witM_le {t : TxP} {p : InP} {sc P S O : List UInt8} {val k : Int} (hp : p.ok) (hs : sc.length ≤ 1000) (hP : P.length = 32) (hS : S.length = 32) (hO : O.length = 32) : (witM t p sc val k P S O).length ≤ 60000 := by
  have := sizeB_le sc.length
  unfold witM headB prevB seqB
  simp only [List.length_append, low_length, hp.hl, hP, hS, hO]
  omega

set_option maxRecDepth 100000 in
set_option maxHeartbeats 6400000 in
theorem witness_any (B : Nat) (t : TxP) (iv ov sv : Value) (X : List InV) (Y : List OutV) (i : Int) (sc : List UInt8) (val k : Int) (w : World) (ht : TxR w B t iv ov X Y) (hsv : Byt w B sv sc) (hB : B ≤ w.heap.size)
    (hf : t.fit) (hs : sc.length ≤ 1000) (hv0 : -9223372036854775808 ≤ val) (hv1 : val ≤ 9223372036854775807) (h0 : 0 ≤ k) (h1 : k < 256) (h3 : chosenF k ≠ 3) (hroots : Roots w) :
    Calls Tryd.prog 18 #[.agg (txC t iv ov).toArray, .int .i64 i, sv, .int .i64 val, .int .u8 k] w fun e w' => e = .returned (digV (witD t i sc val k)) ∧ Below w.heap.size w w' := by
  obtain ⟨A1, cp1, hif, _, _⟩ := ht.ins.row.form
  obtain ⟨A2, cp2, hof, _, _⟩ := ht.outs.row.form
  subst hif hof
  obtain ⟨As, cs, hsf⟩ := hsv.form
  subst hsf
  have hnX := ht.nins
  have hxc : (X.length : Int) ≤ 20 := by have := hf.ni; omega
  have hyc : Y.length ≤ 20 := by have := hf.no; have := ht.nouts; omega
  obtain ⟨TC, hTC⟩ : ∃ z, z = txC t (.slice A1 X.length cp1) (.slice A2 Y.length cp2) := ⟨_, rfl⟩
  have t1 : TC[1]? = some (.slice A1 X.length cp1) := by rw [hTC]; rfl
  have t2 : TC[2]? = some (.slice A2 Y.length cp2) := by rw [hTC]; rfl
  rw [← hTC]
  obtain ⟨nX, hnX2⟩ : ∃ n, n = X.length := ⟨_, rfl⟩
  obtain ⟨nY, hnY2⟩ : ∃ n, n = Y.length := ⟨_, rfl⟩
  obtain ⟨nS, hnS2⟩ : ∃ n, n = sc.length := ⟨_, rfl⟩
  rw [← hnX2] at hxc t1 ht hTC hnX
  rw [← hnY2] at t2 ht hTC
  rw [← hnS2] at hsv
  rw [← hnS2]
  have at1 := WbAt.new w TC (.slice As nS cs) val k
  obtain ⟨w1, hw1⟩ : ∃ z, z = (((((w.alloc (.cells TC.toArray 26)).alloc (.cells #[.slice As nS cs] 27)).alloc (.cells #[.int .i64 val] 2)).alloc (.cells #[.int .u8 k] 5)).alloc (.cells ((List.replicate 32 (0 : Int)).map (Value.int .u8)).toArray 36)) := ⟨_, rfl⟩
  rw [← hw1] at at1
  obtain ⟨GT, hGT⟩ : ∃ z, z = w.heap.size := ⟨_, rfl⟩
  obtain ⟨GC, hGC⟩ : ∃ z, z = w.heap.size + 1 := ⟨_, rfl⟩
  obtain ⟨GV, hGV⟩ : ∃ z, z = w.heap.size + 2 := ⟨_, rfl⟩
  obtain ⟨GK, hGK⟩ : ∃ z, z = w.heap.size + 3 := ⟨_, rfl⟩
  obtain ⟨GH, hGH⟩ : ∃ z, z = w.heap.size + 4 := ⟨_, rfl⟩
  have at1' : WbAt w w1 GT GC GV GK GH TC (.slice As nS cs) val k := by rw [hGT, hGC, hGV, hGK, hGH]; exact at1
  have A1' := Lib.hid at1'
  have HW1 := Lib.hid hw1
  have HGT := Lib.hid hGT
  have HGC := Lib.hid hGC
  have HGV := Lib.hid hGV
  have HGK := Lib.hid hGK
  have HGH := Lib.hid hGH
  have HT := Lib.hid ht
  have HS := Lib.hid hsv
  have HB := Lib.hid hB
  have HF := Lib.hid hf
  have HSL := Lib.hid hs
  have HRO := Lib.hid hroots
  have H3 := Lib.hid h3
  have T1 := Lib.hid t1
  have T2 := Lib.hid t2
  have HTC := Lib.hid hTC
  have HNX := Lib.hid hnX
  have HNX2 := Lib.hid hnX2
  have HNY2 := Lib.hid hnY2
  have HYC := Lib.hid hyc
  clear at1 at1' hw1 hGT hGC hGV hGK hGH ht hsv hB hf hs hroots h3 t1 t2 hTC hnX hnX2 hnY2 hnS2 hyc
  by_cases hin : 0 ≤ i ∧ i < (nX : Int)
  · as_aux_lemma =>
    obtain ⟨n, rfl⟩ : ∃ n : Nat, i = n := ⟨i.toNat, by omega⟩
    have hnl : n < nX := by omega
    obtain ⟨x, hx⟩ : ∃ x, X[n]? = some x := ⟨_, List.getElem?_eq_getElem (by rw [← HNX2.out]; exact hnl)⟩
    have hpx : t.ins[n]? = some x.p := by rw [← HT.out.ei, List.getElem?_map, hx]; rfl
    have hd : witD t (n : Int) sc val k = sha256 (sha256 (witM t x.p sc val k (prevsD t.ins k) (seqsD t.ins k) (outsD t.outs (n : Int) k))) := by unfold witD; rw [if_pos (by omega), Int.toNat_natCast, hpx]
    have hha := hasIn_any A1 nX cp1 (n : Int) w1
    rw [decide_eq_true hin] at hha
    rw [hd]
    have hso := fun y hy => (HF.out.so y hy).2
    obtain ⟨PD, hPD⟩ : ∃ z, z = prevsD t.ins k := ⟨_, rfl⟩
    obtain ⟨SD, hSD⟩ : ∃ z, z = seqsD t.ins k := ⟨_, rfl⟩
    obtain ⟨OD, hOD⟩ : ∃ z, z = outsD t.outs (n : Int) k := ⟨_, rfl⟩
    have lP : PD.length = 32 := by rw [hPD]; exact prevsD_len _ _
    have lS : SD.length = 32 := by rw [hSD]; exact seqsD_len _ _
    have lO : OD.length = 32 := by rw [hOD]; exact outsD_len _ _ _
    have hcP : ∀ W, Below w1.heap.size w1 W → Calls Tryd.prog 39 #[.slice A1 nX cp1, .int .u8 k] W fun e w' => e = .returned (.agg ((nums PD).map (Value.int .u8)).toArray) ∧ Below W.heap.size W w' := fun W hW => by
      have b := A1'.out.bel.trans (hW.mono A1'.out.bel.size)
      have q := prevs_any B _ X k W (HT.out.ins.below (b.mono HB.out)) (Nat.le_trans HB.out b.size) (by have := HNX2.out; omega) h0 h1 (HRO.out.below b)
      rw [HT.out.ei, ← hPD] at q
      exact q
    have hcS : ∀ W, Below w1.heap.size w1 W → Calls Tryd.prog 40 #[.slice A1 nX cp1, .int .u8 k] W fun e w' => e = .returned (.agg ((nums SD).map (Value.int .u8)).toArray) ∧ Below W.heap.size W w' := fun W hW => by
      have b := A1'.out.bel.trans (hW.mono A1'.out.bel.size)
      have q := seqs_any B _ X k W (HT.out.ins.below (b.mono HB.out)) (Nat.le_trans HB.out b.size) (by have := HNX2.out; omega) h0 h1 (HRO.out.below b)
      rw [HT.out.ei, ← hSD] at q
      exact q
    have hcO : ∀ W, Below w1.heap.size w1 W → Calls Tryd.prog 41 #[.slice A2 nY cp2, .int .i64 (n : Int), .int .u8 k] W fun e w' => e = .returned (.agg ((nums OD).map (Value.int .u8)).toArray) ∧ Below W.heap.size W w' := fun W hW => by
      have b := A1'.out.bel.trans (hW.mono A1'.out.bel.size)
      have q := outs_any B _ Y (n : Int) k W (HT.out.outs.below (b.mono HB.out)) (Nat.le_trans HB.out b.size) HYC.out (fun y hy => hso y.p (by rw [← HT.out.eo]; exact List.mem_map_of_mem hy)) h0 h1 H3.out (HRO.out.below b)
      rw [HT.out.eo, ← hOD] at q
      exact q
    obtain ⟨b, o, cp', ef, hnc, hcm, hbl, hrg, hiy⟩ := (HT.out.ins.below (A1'.out.bel.mono HB.out)).at hx
    injection ef with ef1 ef2 ef3
    subst ef1 ef3
    have hok := hiy.ok
    have hcl := inC_length hok
    have hc1 := arr_one hiy.one
    obtain ⟨C, hC⟩ : ∃ C, C = inC x := ⟨_, rfl⟩
    rw [← hC] at hrg hcl hc1
    have hz := zero_tin
    obtain ⟨ZI, hZI⟩ : ∃ z, z = zTin := ⟨_, rfl⟩
    have hzl : ZI.length = 36 := by rw [hZI]; rfl
    rw [← hZI] at hz
    obtain ⟨r1, r2⟩ := box_row w1 49 ZI C
    have HSC := Lib.hid (show (Tryd.prog.info? 49).map (·.size) = some C.length by rw [hcl]; exact size_tin)
    have HLC := Lib.hid (show ZI.length = C.length by rw [hzl, hcl])
    have HC1 := Lib.hid hc1
    have HRG := Lib.hid hrg
    have HC := Lib.hid hC
    have HHA := Lib.hid hha
    have HCP := Lib.hid hcP
    have HCS := Lib.hid hcS
    have HCO := Lib.hid hcO
    have LP := Lib.hid lP
    have LS := Lib.hid lS
    have LO := Lib.hid lO
    have HOK := Lib.hid hok
    have HPD := Lib.hid hPD
    have HSD := Lib.hid hSD
    have HOD := Lib.hid hOD
    have hnc' : nX ≤ cp1 := by rw [HNX2.out]; exact hnc
    clear hcl hc1 hrg hC hha hcP hcS hcO lP lS lO hok hd hpx hx hin hiy hZI hzl hnc hcm hbl ef2 hPD hSD hOD hso H3
    go_enter Tryd.func18, Tryd.ntmps18
    go_upto_region 1 with fail
    change Code.wp _ _ _ _ (((((w.alloc (.cells TC.toArray 26)).alloc (.cells #[.slice As nS cs] 27)).alloc (.cells #[.int .i64 val] 2)).alloc (.cells #[.int .u8 k] 5)).alloc (.cells ((List.replicate 32 (0 : Int)).map (Value.int .u8)).toArray 36))
    rw [← HW1.out, show w.heap.size + 1 + 1 + 1 + 1 = GH from HGH.out.symm, show w.heap.size + 1 + 1 + 1 = GK from HGK.out.symm, show w.heap.size + 1 + 1 = GV from HGV.out.symm, show w.heap.size + 1 = GC from HGC.out.symm, show w.heap.size = GT from HGT.out.symm]
    clear HW1
    try dsimp only [Act.put]
    have c1 := A1'.out.t.cell T1.out
    go_wp2_with fail
    refine HHA.out.mono ?_
    rintro e w2 ⟨rfl, rfl⟩
    go_upto_region 4 with (first
      | (refine wpList_load_mid rfl 49 _ rfl b (o + n * 36) rfl C _ HRG.out Tryd.underlying49 rfl HSC.out ?_)
      | (refine wpList_store_vrow rfl 49 _ _ rfl rfl rfl (VRow.new _ _ ZI) HSC.out HLC.out HC1.out ?_))
    change Code.wp _ _ _ _ ((w1.alloc (.cells ZI.toArray 49)).setRow w1.heap.size C.toArray)
    obtain ⟨w4, hw4⟩ : ∃ z, z = ((w1.alloc (.cells ZI.toArray 49)).setRow w1.heap.size C.toArray) := ⟨_, rfl⟩
    obtain ⟨GI, hGI⟩ : ∃ z, z = w1.heap.size := ⟨_, rfl⟩
    rw [← hw4] at r1 r2 ⊢
    rw [← hGI] at r1 ⊢
    have R1 := Lib.hid r1
    have R2 := Lib.hid r2
    have A4 := Lib.hid (A1'.out.below r2)
    clear r1 r2 hw4 hGI c1
    have hS0 : w4.drew.cell? ⟨GT, 1, none⟩ = some (.slice (some ⟨b, o, none⟩) nX cp1) ∧ w4.drew.cell? ⟨GT, 2, none⟩ = some (.slice A2 nY cp2) ∧ w4.drew.cell? ⟨GK, 0, none⟩ = some (.int .u8 k) := ⟨A4.out.t.cell T1.out, A4.out.t.cell T2.out, A4.out.k.cell (show [Value.int .u8 k][0]? = some (.int .u8 k) from rfl)⟩
    have hSB : ∀ W, Below w4.drew.heap.size w4.drew W → (W.cell? ⟨GT, 1, none⟩ = some (.slice (some ⟨b, o, none⟩) nX cp1) ∧ W.cell? ⟨GT, 2, none⟩ = some (.slice A2 nY cp2) ∧ W.cell? ⟨GK, 0, none⟩ = some (.int .u8 k)) := fun W h =>
      ⟨(h.cell (p := ⟨GT, 1, none⟩) A4.out.t.lt).trans hS0.1, (h.cell (p := ⟨GT, 2, none⟩) A4.out.t.lt).trans hS0.2.1, (h.cell (p := ⟨GK, 0, none⟩) A4.out.k.lt).trans hS0.2.2⟩
    have HS0 := Lib.hid hS0
    have HSB := Lib.hid hSB
    have HCP4 := Lib.hid (fun W (h : Below w4.drew.heap.size w4.drew W) => HCP.out W (R2.out.trans (((Below.refl _ w4).drew.trans h).mono R2.out.size)))
    have HCS4 := Lib.hid (fun W (h : Below w4.drew.heap.size w4.drew W) => HCS.out W (R2.out.trans (((Below.refl _ w4).drew.trans h).mono R2.out.size)))
    have HCO4 := Lib.hid (fun W (h : Below w4.drew.heap.size w4.drew W) => HCO.out W (R2.out.trans (((Below.refl _ w4).drew.trans h).mono R2.out.size)))
    clear hS0 hSB HCP HCS HCO
    refine wp_region_held_drew (S := (fun w' => w'.cell? ⟨GT, 1, none⟩ = some (.slice (some ⟨b, o, none⟩) nX cp1) ∧ w'.cell? ⟨GT, 2, none⟩ = some (.slice A2 nY cp2) ∧ w'.cell? ⟨GK, 0, none⟩ = some (.int .u8 k))) (by kernel_rfl) ?_ (fun hHeld => ?_)
    · exact HS0.out
    refine wpAnyH_take (i := 0) (oi := { dst := some 26, op := Go.Op.fieldAddr 26 (Go.Operand.tmp 5) 1, type := 0, pos := "witness.go:14", after := #[], guard := none }) (v := ?av0) rfl (by kernel_rfl) (by kernel_rfl) (by kernel_rfl) (fun _ _ _ h => h) (Or.inl ⟨by rfl, ?ay0⟩) (by assumption) ?ar0
    case ay0 => (intro w hSw; (try dsimp only at hSw); go_simp; try (with_reducible rfl))
    case ar0 =>
    try simp only [Act.put, List.setIfInBounds_toArray, List.set_cons_zero, List.set_cons_succ]
    refine wpAnyH_take (i := 1) (oi := { dst := some 27, op := Go.Op.load 22 (Go.Operand.tmp 26), type := 22, pos := "witness.go:14", after := #[{ on := 0, ground := Go.Ground.data }], guard := none }) (v := (.slice (some ⟨b, o, none⟩) nX cp1)) rfl (by kernel_rfl) (by kernel_rfl) (by kernel_rfl) (fun _ _ _ h => h) (Or.inl ⟨by rfl, ?ay1⟩) (by assumption) ?ar1
    case ay1 => (intro w hSw; (try dsimp only at hSw); go_simp; try (simp [hSw.1]))
    case ar1 =>
    try simp only [Act.put, List.setIfInBounds_toArray, List.set_cons_zero, List.set_cons_succ]
    refine wpAnyH_take (i := 2) (oi := { dst := some 28, op := Go.Op.load 5 (Go.Operand.tmp 9), type := 5, pos := "witness.go:14", after := #[], guard := none }) (v := (.int .u8 k)) rfl (by kernel_rfl) (by kernel_rfl) (by kernel_rfl) (fun _ _ _ h => h) (Or.inl ⟨by rfl, ?ay2⟩) (by assumption) ?ar2
    case ay2 => (intro w hSw; (try dsimp only at hSw); go_simp; try (simp [hSw.2.2]))
    case ar2 =>
    try simp only [Act.put, List.setIfInBounds_toArray, List.set_cons_zero, List.set_cons_succ]
    refine wpAnyH_take (i := 4) (oi := { dst := some 30, op := Go.Op.fieldAddr 26 (Go.Operand.tmp 5) 1, type := 0, pos := "witness.go:14", after := #[], guard := none }) (v := ?av4) rfl (by kernel_rfl) (by kernel_rfl) (by kernel_rfl) (fun _ _ _ h => h) (Or.inl ⟨by rfl, ?ay4⟩) (by assumption) ?ar4
    case ay4 => (intro w hSw; (try dsimp only at hSw); go_simp; try (with_reducible rfl))
    case ar4 =>
    try simp only [Act.put, List.setIfInBounds_toArray, List.set_cons_zero, List.set_cons_succ]
    refine wpAnyH_take (i := 5) (oi := { dst := some 31, op := Go.Op.load 22 (Go.Operand.tmp 30), type := 22, pos := "witness.go:14", after := #[{ on := 4, ground := Go.Ground.data }], guard := none }) (v := (.slice (some ⟨b, o, none⟩) nX cp1)) rfl (by kernel_rfl) (by kernel_rfl) (by kernel_rfl) (fun _ _ _ h => h) (Or.inl ⟨by rfl, ?ay5⟩) (by assumption) ?ar5
    case ay5 => (intro w hSw; (try dsimp only at hSw); go_simp; try (simp [hSw.1]))
    case ar5 =>
    try simp only [Act.put, List.setIfInBounds_toArray, List.set_cons_zero, List.set_cons_succ]
    refine wpAnyH_take (i := 6) (oi := { dst := some 32, op := Go.Op.load 5 (Go.Operand.tmp 9), type := 5, pos := "witness.go:14", after := #[], guard := none }) (v := (.int .u8 k)) rfl (by kernel_rfl) (by kernel_rfl) (by kernel_rfl) (fun _ _ _ h => h) (Or.inl ⟨by rfl, ?ay6⟩) (by assumption) ?ar6
    case ay6 => (intro w hSw; (try dsimp only at hSw); go_simp; try (simp [hSw.2.2]))
    case ar6 =>
    try simp only [Act.put, List.setIfInBounds_toArray, List.set_cons_zero, List.set_cons_succ]
    refine wpAnyH_take (i := 8) (oi := { dst := some 34, op := Go.Op.fieldAddr 26 (Go.Operand.tmp 5) 2, type := 0, pos := "witness.go:14", after := #[], guard := none }) (v := ?av8) rfl (by kernel_rfl) (by kernel_rfl) (by kernel_rfl) (fun _ _ _ h => h) (Or.inl ⟨by rfl, ?ay8⟩) (by assumption) ?ar8
    case ay8 => (intro w hSw; (try dsimp only at hSw); go_simp; try (with_reducible rfl))
    case ar8 =>
    try simp only [Act.put, List.setIfInBounds_toArray, List.set_cons_zero, List.set_cons_succ]
    refine wpAnyH_take (i := 9) (oi := { dst := some 35, op := Go.Op.load 23 (Go.Operand.tmp 34), type := 23, pos := "witness.go:14", after := #[{ on := 8, ground := Go.Ground.data }], guard := none }) (v := (.slice A2 nY cp2)) rfl (by kernel_rfl) (by kernel_rfl) (by kernel_rfl) (fun _ _ _ h => h) (Or.inl ⟨by rfl, ?ay9⟩) (by assumption) ?ar9
    case ay9 => (intro w hSw; (try dsimp only at hSw); go_simp; try (simp [hSw.2.1]))
    case ar9 =>
    try simp only [Act.put, List.setIfInBounds_toArray, List.set_cons_zero, List.set_cons_succ]
    refine wpAnyH_take (i := 10) (oi := { dst := some 36, op := Go.Op.move (Go.Operand.tmp 1), type := 3, pos := "witness.go:14", after := #[], guard := none }) (v := ?av10) rfl (by kernel_rfl) (by kernel_rfl) (by kernel_rfl) (fun _ _ _ h => h) (Or.inl ⟨by rfl, ?ay10⟩) (by assumption) ?ar10
    case ay10 => (intro w hSw; (try dsimp only at hSw); go_simp; try (with_reducible rfl))
    case ar10 =>
    try simp only [Act.put, List.setIfInBounds_toArray, List.set_cons_zero, List.set_cons_succ]
    refine wpAnyH_take (i := 11) (oi := { dst := some 37, op := Go.Op.load 5 (Go.Operand.tmp 9), type := 5, pos := "witness.go:14", after := #[], guard := none }) (v := (.int .u8 k)) rfl (by kernel_rfl) (by kernel_rfl) (by kernel_rfl) (fun _ _ _ h => h) (Or.inl ⟨by rfl, ?ay11⟩) (by assumption) ?ar11
    case ay11 => (intro w hSw; (try dsimp only at hSw); go_simp; try (simp [hSw.2.2]))
    case ar11 =>
    try simp only [Act.put, List.setIfInBounds_toArray, List.set_cons_zero, List.set_cons_succ]
    refine wst_0_000 (w0 := w4.drew) HSB.out HCP4.out HCS4.out HCO4.out (hash3 LP.out) (hash3 LS.out) (hash3 LO.out) (fun w5 px py pz hb5 fP fQ fO => ?_) _ (by kernel_rfl) _ (Below.refl _ _)
    have hb45 : Below w4.heap.size w4 w5 := (Below.refl _ w4).drew.trans hb5
    have A5 := Lib.hid (A4.out.below hb45)
    have I5 := Lib.hid (R1.out.below hb45 R1.out.lt)
    have FP := Lib.hid fP
    have FQ := Lib.hid fQ
    have FO := Lib.hid fO
    have hcl : ∀ g W, WrT w5 W w5.heap.size g [] → Calls Tryd.prog 42 (#[.pointer (some ⟨g, 0, none⟩)] ++ #[.pointer (some ⟨GT, 0, none⟩), .pointer (some ⟨px, 0, none⟩), .pointer (some ⟨py, 0, none⟩), .pointer (some ⟨GI, 0, none⟩), .pointer (some ⟨GC, 0, none⟩), .pointer (some ⟨GV, 0, none⟩), .pointer (some ⟨pz, 0, none⟩), .pointer (some ⟨GK, 0, none⟩)]) W
        (WrD w5 w5.heap.size g W (witM t x.p sc val k PD SD OD)) := fun g W h =>
      witClo_any GT px py GI GC GV pz GK t _ _ _ x PD SD OD sc val k W h ⟨by rw [← HTC.out]; exact A5.out.t, FP.out.2, FQ.out.2, by rw [← HC.out]; exact I5.out, A5.out.c, A5.out.v, FO.out.2, A5.out.k, A5.out.t.lt, FP.out.2.lt, FQ.out.2.lt, I5.out.lt, A5.out.c.lt, A5.out.v.lt, FO.out.2.lt, A5.out.k.lt⟩
        HT.out.ok HOK.out ((HS.out.below (A5.out.bel.mono HB.out)).more (Nat.le_trans HB.out A5.out.bel.size)) HSL.out LP.out LS.out LO.out hv0 hv1 h0 h1
    have HDG := Lib.hid (digest_any 42 #[.pointer (some ⟨GT, 0, none⟩), .pointer (some ⟨px, 0, none⟩), .pointer (some ⟨py, 0, none⟩), .pointer (some ⟨GI, 0, none⟩), .pointer (some ⟨GC, 0, none⟩), .pointer (some ⟨GV, 0, none⟩), .pointer (some ⟨pz, 0, none⟩), .pointer (some ⟨GK, 0, none⟩)]
      (witM t x.p sc val k PD SD OD) w5 (HRO.out.below A5.out.bel) (witM_le HOK.out HSL.out LP.out LS.out LO.out) (fun args W => rfl) hcl)
    clear hcl hb5 hb45 fP fQ fO HCP4 HCS4 HCO4 HS0 HSB
    obtain ⟨DS, hDS⟩ : ∃ z, z = sha256 (sha256 (witM t x.p sc val k PD SD OD)) := ⟨_, rfl⟩
    rw [← hDS] at HDG
    have HDS := Lib.hid hDS
    have hdl : DS.length = 32 := by rw [hDS, sha256_length]
    have HI := Lib.hid (hash3 hdl)
    clear hDS hdl
    go_wp2_with fail
    refine HDG.out.mono ?_
    rintro e w7 ⟨rfl, hb7⟩
    have A7 := Lib.hid (A5.out.below hb7)
    clear hb7
    unfold digV
    obtain ⟨NS, hNS⟩ : ∃ z, z = (nums DS).map (Value.int .u8) := ⟨_, rfl⟩
    rw [← hNS] at HI ⊢
    have HNS := Lib.hid hNS
    clear hNS
    have r7 : IRow w7 GH 36 .u8 (List.replicate 32 0) := A7.out.h
    have R7 := Lib.hid r7
    clear r7
    go_wp2_with (first
      | (refine wpList_store_vrow rfl 36 (.tmp 10) (.tmp 40) rfl (g := GH) (t := 36) (vs := (List.replicate 32 (0 : Int)).map (Value.int .u8)) (us := NS) rfl rfl A7.out.h HI.out.1 HI.out.2.1 HI.out.2.2 ?_))
    refine bodyPost_ret (v := digV DS) ?_ rfl ⟨by rw [HDS.out, HPD.out, HSD.out, HOD.out], below_setRow A7.out.bel (by have := HGH.out; omega) _⟩
    unfold digV
    rw [← HNS.out]
    obtain ⟨fr, hrw⟩ : ∃ fr, (w7.setRow GH NS.toArray).heap[GH]? = some (.cells NS.toArray 36 fr) := ⟨_, A7.out.h.setRow NS⟩
    exact results_cell_row Tryd.results18 _ _ GH 36 NS.toArray fr _ rfl hrw Tryd.underlying36 rfl (by rw [List.size_toArray]; exact HI.out.1)
  · as_aux_lemma =>
    have hd : witD t i sc val k = oneB := by
      unfold witD
      by_cases hi0 : 0 ≤ i
      · rw [if_pos hi0, List.getElem?_eq_none (by rw [← HNX.out]; omega)]
      · rw [if_neg hi0]
    have hha := hasIn_any A1 nX cp1 i w1
    rw [decide_eq_false hin] at hha
    rw [hd]
    have HHA := Lib.hid hha
    clear hha hd hin H3
    go_enter Tryd.func18, Tryd.ntmps18
    go_upto_region 1 with fail
    change Code.wp _ _ _ _ (((((w.alloc (.cells TC.toArray 26)).alloc (.cells #[.slice As nS cs] 27)).alloc (.cells #[.int .i64 val] 2)).alloc (.cells #[.int .u8 k] 5)).alloc (.cells ((List.replicate 32 (0 : Int)).map (Value.int .u8)).toArray 36))
    rw [← HW1.out, show w.heap.size + 1 + 1 + 1 + 1 = GH from HGH.out.symm, show w.heap.size + 1 + 1 + 1 = GK from HGK.out.symm, show w.heap.size + 1 + 1 = GV from HGV.out.symm, show w.heap.size + 1 = GC from HGC.out.symm, show w.heap.size = GT from HGT.out.symm]
    clear HW1
    try dsimp only [Act.put]
    have c1 := A1'.out.t.cell T1.out
    go_wp2_with fail
    refine HHA.out.mono ?_
    rintro e w2 ⟨rfl, rfl⟩
    go_wp2_with fail
    refine (nothing_any w1).mono ?_
    rintro e w3 ⟨rfl, hb3⟩
    have A3 := Lib.hid (A1'.out.below hb3)
    have HI := Lib.hid (hash3 (DS := oneB) rfl)
    clear hb3 c1
    unfold digV
    obtain ⟨NS, hNS⟩ : ∃ z, z = (nums oneB).map (Value.int .u8) := ⟨_, rfl⟩
    rw [← hNS] at HI ⊢
    have HNS := Lib.hid hNS
    clear hNS
    go_wp2_with (first
      | (refine wpList_store_vrow rfl 36 (.tmp 10) (.tmp 20) rfl (g := GH) (t := 36) (vs := (List.replicate 32 (0 : Int)).map (Value.int .u8)) (us := NS) rfl rfl A3.out.h HI.out.1 HI.out.2.1 HI.out.2.2 ?_))
    refine bodyPost_ret (v := digV oneB) ?_ rfl ⟨rfl, below_setRow A3.out.bel (by have := HGH.out; omega) _⟩
    unfold digV
    rw [← HNS.out]
    obtain ⟨fr, hrw⟩ : ∃ fr, (w3.setRow GH NS.toArray).heap[GH]? = some (.cells NS.toArray 36 fr) := ⟨_, A3.out.h.setRow NS⟩
    exact results_cell_row Tryd.results18 _ _ GH 36 NS.toArray fr _ rfl hrw Tryd.underlying36 rfl (by rw [List.size_toArray]; exact HI.out.1)
end Go.Proofs.YthelmclpmalofaaDoor

/-
  Slices of slices of the call's own; the references' Copy and Copies. Conditions: sizes within the reach.
-/
namespace Go.Proofs.YthelmclpmalofaaDoor
open Go.RowKit

theorem own_types {w : World} {b b' : Nat} {e e' : TypeId} {s s' n n' : Nat} {v v' : Value} {xs xs' : List Value} (h : w.ownsRow b e s v n xs) (h' : w.ownsRow b' e' s' v' n' xs') (hne : e ≠ e') {g : Nat} (hg : v.ownBlock = some g) : v'.ownBlock ≠ some g := by
  rcases h.2 with ⟨rfl, _⟩ | ⟨g1, cap, cur, rfl, _, hh, _⟩
  · simp [Value.ownBlock] at hg
  · have : g1 = g := by simpa [Value.ownBlock] using hg
    subst this
    rcases h'.2 with ⟨rfl, _⟩ | ⟨g', cap', cur', rfl, _, hh', _⟩
    · simp [Value.ownBlock]
    · intro he
      have e1 : g' = g1 := by simpa [Value.ownBlock] using he
      subst e1
      rw [hh] at hh'
      injection hh' with hh'
      injection hh' with _ ht
      exact hne ht
/-- Rows of bytes in a row of the call's own. -/
def BagAt (w : World) (base : Nat) (v : Value) (L : List (Value × List UInt8)) : Prop :=
  w.ownsRow base 27 1 v L.length (L.map (·.1)) ∧ ∀ p ∈ L, OwnB w base p.1 p.2
theorem BagAt.nil (w : World) (base : Nat) : BagAt w base (.slice none 0 0) [] := ⟨World.ownsRow_nil _ _ _ _, fun _ h => by cases h⟩
theorem BagAt.form {w : World} {base : Nat} {v : Value} {L : List (Value × List UInt8)} (h : BagAt w base v L) : ∃ A c, v = .slice A L.length c := own_form h.1
theorem BagAt.base {w : World} {b b' : Nat} {v : Value} {L : List (Value × List UInt8)} (h : BagAt w b v L) (hb : b' ≤ b) : BagAt w b' v L := ⟨own_le h.1 hb, fun p hp => own_le (h.2 p hp) hb⟩
theorem BagAt.turns {S : Nat → Prop} {w w' : World} {base : Nat} {v : Value} {L : List (Value × List UInt8)} (h : BagAt w base v L) (ht : Turns S w w') (hv : ∀ k, v.ownBlock = some k → ¬ S k) (hL : ∀ p ∈ L, ∀ k, p.1.ownBlock = some k → ¬ S k) : BagAt w' base v L :=
  ⟨own_turns h.1 ht hv, fun p hp => own_turns (h.2 p hp) ht (hL p hp)⟩
theorem BagAt.below {w w' : World} {base : Nat} {v : Value} {L : List (Value × List UInt8)} (h : BagAt w base v L) (hb : Below w.heap.size w w') : BagAt w' base v L :=
  h.turns (Turns.of_below (S := fun _ => False) hb) (fun _ _ h => h) (fun _ _ _ _ h => h)
theorem BagAt.toR {w : World} {base : Nat} {v : Value} {L : List (Value × List UInt8)} (h : BagAt w base v L) : BagR w w.heap.size v L := by
  refine ⟨?_, fun p hp => Byt.of_own (h.2 p hp)⟩
  rcases h.1.2 with ⟨rfl, hn⟩ | ⟨g, cap, cur, rfl, hb, hg, hnc, hcm, hcs, ht⟩
  · obtain rfl : L = [] := List.eq_nil_of_length_eq_zero hn
    exact ⟨none, 0, rfl, Nat.le_refl _, by unfold maxLen; omega, fun h => absurd rfl h⟩
  · refine ⟨some ⟨g, 0, none⟩, cap, rfl, hnc, hcm, fun hne => ⟨g, 0, rfl, (h.1.lt g rfl).2, fun i p hp => ?_⟩⟩
    have hi := (List.getElem?_eq_some_iff.1 hp).1
    rw [Nat.zero_add]
    refine (World.ownsRow.cellAt h.1 i (by omega)).trans ?_
    rw [List.getElem?_map, hp]
    rfl
theorem BagAt.snoc {w w' : World} {base n : Nat} {v v' : Value} {L : List (Value × List UInt8)} {p : Value × List UInt8} (h : BagAt w base v L) (hd : OwnB w base p.1 p.2)
    (hown : w'.ownsRow base 27 1 v' n (L.map (·.1) ++ [p.1])) (he : n = L.length + 1) (hg : w.grownBy w' v.ownBlock) : BagAt w' base v' (L ++ [p]) := by
  have ht : Turns (fun k => v.ownBlock = some k) w w' := (Turns.refl _ w).grown hg (fun k hk _ => hk)
  subst he
  refine ⟨by rw [List.map_append, List.length_append]; exact hown, fun q hq => ?_⟩
  rcases List.mem_append.1 hq with hq | hq
  · exact own_turns (h.2 q hq) ht (fun k hk hv => own_types h.1 (h.2 q hq) (by decide) hv hk)
  · obtain rfl : q = p := by simpa using hq
    exact own_turns hd ht (fun k hk hv => own_types h.1 hd (by decide) hv hk)

theorem info_bag : (Tryd.prog.info? 27).map (fun i => (i.zero, i.size, i.bytes)) = some (some (.slice none 0 0), 1, 24) := by kernel_rfl
theorem slice_bag : Tryd.prog.underlying 47 = some (.slice 27) := Tryd.underlying47

/-- append of one slice of bytes. -/
theorem wpList_append_bag {w : World} {ops : Array Oper} {rest : List Oper} {o : Oper} {a : Act} {Q : Exit → Act → World → Prop} (hgd : o.guard = none) (s x : Operand)
    (ho : o.op = .call { callee := .builtin .append, args := #[s, x], argTypes := #[47, 47] })
    (base : Nat) (v : Value) (n : Nat) (xs : List Value) (hs : a.eval s = v) (hown : w.ownsRow base 27 1 v n xs)
    (g : Nat) (u0 : Value) (hx : a.eval x = .slice (some ⟨g, 0, none⟩) 1 1) (h0 : w.cell? ⟨g, 0, none⟩ = some u0) (k0 : u0.oneCell' = true)
    (hb : (n + 1) * 24 ≤ 140737488355328) (hbase : base ≤ w.heap.size)
    (h : ∀ v' w', w'.ownsRow base 27 1 v' (n + 1) (xs ++ [u0]) → w.grownBy w' v.ownBlock → wpList Tryd.prog ops Q rest (a.put o.dst v') w') :
    wpList Tryd.prog ops Q (o :: rest) a w := by
  obtain ⟨i, hi, hz, hsz, hby⟩ := info_parts info_bag
  refine wpList_plain hgd fun K hK => ?_
  obtain ⟨v', w', hrun, h2, h3, _, _⟩ := run_append_own_at (P := Tryd.prog) w base 47 o.type 27 i _ 1 24 slice_bag hi hz hsz hby rfl (by decide) v n xs hown ⟨g, 0, none⟩ 1 1 [u0] rfl
    (by
      intro j u hu
      match j, hu with
      | 0, hu => exact Option.some.inj hu ▸ h0)
    (by intro u hu; simp at hu; rcases hu with rfl; exact k0) (by unfold maxLen; omega) hb hbase
  unfold Oper.wp execOp
  simp only [ho, resolve, invoke, builtin, Sem.run_bind, Sem.run_pure, Result.andThen_ok, List.map_toArray, List.map_cons, List.map_nil, hs, hx, hrun]
  exact hK _ _ (h v' w' h2 h3)

theorem byt_later {w : World} {B : Nat} {v : Value} {xs : List UInt8} (h : Byt w B v xs) (o : Obj) : Byt (w.alloc o) B v xs := by
  obtain ⟨A, c, hv, hl, hm, hA, hx⟩ := h
  exact ⟨A, c, hv, hl, hm, hA, fun hne => by obtain ⟨b, o', e, hb, hc⟩ := hx hne; exact ⟨b, o', e, hb, fun j u hu => cell_later (Below.alloc (Below.refl _ _) (Nat.le_refl _) _) (hc j u hu)⟩⟩
set_option maxRecDepth 100000 in
set_option maxHeartbeats 400000 in
theorem rcopy_any (B : Nat) (x : Value) (xs : List UInt8) (w : World) (hr : Byt w B x xs) (hlen : xs.length ≤ 140737488355328) :
    Calls Tryd.prog 21 #[x] w (Fresh w xs) := by
  obtain ⟨i0, hi, hz0, hz1, hz2⟩ := info_parts info_u8
  obtain ⟨A, c, rfl⟩ := hr.form
  have HR : Hid (Byt (w.alloc (.cells #[] 5)) B (.slice A xs.length c) xs) := Lib.hid (byt_later hr _)
  have hown : (w.alloc (.cells #[] 5)).ownsRow w.heap.size 5 1 (.slice (some ⟨w.heap.size, 0, none⟩) 0 0) 0 [] := World.ownsRow_made w #[] 0 (Nat.le_refl _) (by unfold maxLen; omega) rfl
  have HO := Lib.hid hown
  clear hr hown
  go_enter Tryd.func21, Tryd.ntmps21
  go_wp2_with (at_builtin; refine wpList_append_bytes rfl (.tmp 3) (.tmp 4) 27 rfl w.heap.size 5 i0 slice_u8 hi hz0 hz1 hz2 _ 0 [] rfl HO.out B _ xs rfl HR.out (by omega) (by simp) ?_; intro v1 w1 hown1 hg1 hat1)
  go_ret
  rw [Nat.zero_add, List.nil_append] at hown1
  exact fresh_of hown1 (((Below.refl _ _).alloc (Nat.le_refl _) _).grown hg1 (by simp) (fun k hk => by cases hk; exact Nat.le_refl _))


set_option maxRecDepth 100000 in
set_option maxHeartbeats 1600000 in
theorem rcopies_any (B : Nat) (x : Value) (L : List (Value × List UInt8)) (w : World) (hx : BagR w B x L) (hB : B ≤ w.heap.size) (hl : L.length * 24 < 140737488355328) (hi : ∀ p ∈ L, p.2.length < 140737488355328) :
    Calls Tryd.prog 22 #[x] w fun e w' => ∃ v L', e = .returned v ∧ BagAt w' w.heap.size v L' ∧ L'.map (·.2) = L.map (·.2) ∧ Below w.heap.size w w' := by
  obtain ⟨A, c, rfl⟩ := hx.form
  have HX := Lib.hid hx
  have HI := Lib.hid hi
  have HB := Lib.hid hB
  have hlI : (L.length : Int) ≤ 9223372036854775807 := by omega
  obtain ⟨n, hn⟩ : ∃ n, n = L.length := ⟨_, rfl⟩
  rw [← hn] at hl hlI HX ⊢
  have HN := Lib.hid hn
  have HL := Lib.hid hl
  clear hx hi hB hn hl
  go_enter Tryd.func22, Tryd.ntmps22
  go_wp2_with fail
  go_loopw [3, 4] (fun s t wr => ∃ (j : Nat) (u : Value) (L' : List (Value × List UInt8)), u = s ∧ j ≤ n ∧ t = .int .i64 (j : Int) ∧ Hid (BagAt wr w.heap.size u L') ∧ Hid (L'.map (·.2) = (L.take j).map (·.2)) ∧ Hid (Below w.heap.size w wr)) (fun _ t _ => n - (intOf t).toNat)
  case atStart => exact ⟨0, _, [], rfl, Nat.zero_le _, rfl, Lib.hid (BagAt.nil _ _), Lib.hid rfl, Lib.hid (Below.refl _ _)⟩
  case round =>
    obtain ⟨j, u, L', hu, hj, rfl, hBA, hM, hBW⟩ := hrel
    subst hu
    obtain ⟨w3, rfl⟩ : ∃ z : World, z = wr := ⟨_, rfl⟩
    by_cases hlt : j < n
    · as_aux_lemma =>
      have dj : decide ((j : Int) < (n : Int)) = true := decide_eq_true (by omega)
      obtain ⟨p, hp⟩ : ∃ p, L[j]? = some p := ⟨_, List.getElem?_eq_getElem (by rw [← HN.out]; exact hlt)⟩
      have hx1 := HX.out.below (hBW.out.mono HB.out)
      obtain ⟨⟨A', c', e0, hnc, _, h4⟩, h5⟩ := hx1
      obtain ⟨e1, e2, e3⟩ := Value.slice.inj e0
      subst e1 e3
      obtain ⟨b, o, rfl, hb, hc⟩ := h4 (by rintro rfl; simp at hp)
      have hc0 := hc j p hp
      have hpm := List.mem_of_getElem? hp
      have hby := h5 p hpm
      have hnx : (L.take (j + 1)).map (·.2) = L'.map (·.2) ++ [p.2] := by rw [List.take_add_one, hp, List.map_append, ← hM.out]; rfl
      have hLl : L'.length = j := by
        have q := congrArg List.length hM.out
        rw [List.length_map, List.length_map, List.length_take, ← HN.out] at q
        omega
      have hpl := HI.out p hpm
      obtain ⟨v, zs⟩ := p
      dsimp only at hc0 hby hnx hpl
      obtain ⟨Ad, cd, rfl⟩ := hby.form
      have HRC := Lib.hid (rcopy_any B _ zs w3 hby (by omega))
      have HNX := Lib.hid hnx
      have HLL := Lib.hid hLl
      have hcw : n ≤ c := by rw [HN.out]; exact hnc
      clear hc h4 h5 hp hpm hnx hLl hby e0 e2 hnc hb hpl
      go_wp2_with fail
      refine HRC.out.mono ?_
      rintro e w4 ⟨A1, c1, rfl, hown, hb4⟩
      have hE : OwnB w4 w3.heap.size (.slice A1 zs.length c1) zs := hown
      have hBA4 := hBA.out.below hb4
      obtain ⟨Au, cu, hform⟩ := hBA4.form
      subst hform
      have s7 : Below w4.heap.size w4 (w4.alloc (.cells #[.slice A1 zs.length c1] 27)) := (Below.refl _ w4).alloc (Nat.le_refl _) _
      have HE := Lib.hid (show OwnB (w4.alloc (.cells #[.slice A1 zs.length c1] 27)) w.heap.size (.slice A1 zs.length c1) zs from own_le (own_turns hE (Turns.of_below (S := fun _ => False) s7) (fun _ _ q => q)) hBW.out.size)
      have HBA := Lib.hid (hBA4.below s7)
      have HBW := Lib.hid (hBW.out.trans ((hb4.trans (s7.mono hb4.size)).mono hBW.out.size))
      have hcell : (w4.alloc (.cells #[.slice A1 zs.length c1] 27)).cell? ⟨w4.heap.size, 0, none⟩ = some (.slice A1 zs.length c1) := (VRow.new w4 27 [.slice A1 zs.length c1]).cell rfl
      have HCE := Lib.hid hcell
      have HSZ := Lib.hid (show w.heap.size ≤ (w4.alloc (.cells #[.slice A1 zs.length c1] 27)).heap.size from HBW.out.size)
      have HBD := Lib.hid (show (L'.length + 1) * 24 ≤ 140737488355328 by have := HL.out; rw [HLL.out]; omega)
      clear hown hb4 hE hBA4 s7 hcell hBA hBW
      go_wp2_with (at_builtin; refine wpList_append_bag rfl (.tmp 11) (.tmp 17) rfl w.heap.size _ L'.length _ rfl HBA.out.1 w4.heap.size _ rfl HCE.out rfl HBD.out HSZ.out ?_; intro v1 w8 hown1 hg1; obtain ⟨A2, c2, rfl⟩ := own_form hown1)
      have hsn := BagAt.snoc (p := (Value.slice A1 zs.length c1, zs)) HBA.out HE.out hown1 rfl hg1
      refine ⟨⟨j + 1, _, _, rfl, hlt, by first | rfl | (rw [wrap_small2 (by omega) (by omega)]; rfl), Lib.hid hsn, Lib.hid (by rw [HNX.out, List.map_append]; rfl), Lib.hid (HBW.out.grown hg1 HBW.out.size (fun q hq => (HBA.out.1.lt q hq).1))⟩, meas_n hlt⟩
    · as_aux_lemma =>
      have dj : decide ((j : Int) < (n : Int)) = false := decide_eq_false (by omega)
      have hjn : j = L.length := by rw [← HN.out]; omega
      have hm := hM.out
      rw [hjn, List.take_length] at hm
      have HM := Lib.hid hm
      clear hM hm hjn
      obtain ⟨Au, cu, hform⟩ := hBA.out.form
      subst hform
      go_wp2_with fail
      refine bodyPost_ret (results_tmp rfl _ _ _) rfl ?_
      exact ⟨_, rfl, L', hBA.out, HM.out, hBW.out⟩
end Go.Proofs.YthelmclpmalofaaDoor
