/-
  Texts joined: TvG, TvH, TvQ. Conditions: those of each.
-/
import Derived.Test.YthelmclpmalofaaDoorK12
/-
  sighash.Legacy (not Single). Conditions: sizes within the reach.
-/
namespace Go.Proofs.YthelmclpmalofaaDoor
open Go.RowKit

def legD (t : TxP) (i : Int) (sc : List UInt8) (k : Int) : List UInt8 := if (0 ≤ i ∧ i < t.ins.length) ∧ (chosenF k = 3 → i < t.outs.length) then sha256 (sha256 (legB t i.toNat sc k)) else oneB
/-- What Legacy keeps: its boxes. -/
structure LegAt (w wr : World) (GT GK GH : Nat) (TC : List Value) (k : Int) : Prop where
  t : VRow wr GT 26 TC
  k : VRow wr GK 5 [.int .u8 k]
  h : IRow wr GH 36 .u8 (List.replicate 32 0)
  bel : Below w.heap.size w wr
theorem LegAt.below {w wr w' : World} {GT GK GH : Nat} {TC : List Value} {k : Int} (h : LegAt w wr GT GK GH TC k) (hb : Below wr.heap.size wr w') : LegAt w w' GT GK GH TC k :=
  ⟨h.t.below hb h.t.lt, h.k.below hb h.k.lt, IRow.below h.h hb (VRow.lt (vs := (List.replicate 32 (0 : Int)).map (Value.int .u8)) h.h), h.bel.trans (hb.mono h.bel.size)⟩
theorem LegAt.set {w wr : World} {GT GK GH : Nat} {TC : List Value} {k : Int} (h : LegAt w wr GT GK GH TC k) (hT : w.heap.size ≤ GT) (h1 : GT ≠ GK) (h2 : GT ≠ GH) (i : Nat) (v : Value) : LegAt w (wr.setCell ⟨GT, i, none⟩ v) GT GK GH (TC.set i v) k := by
  have tt : Turns (fun q => q = GT) wr (wr.setCell ⟨GT, i, none⟩ v) := Turns.setCell (S := fun q => q = GT) (Turns.refl _ wr) (p := ⟨GT, i, none⟩) (fun _ => rfl) _
  exact ⟨h.t.set i v, h.k.turns tt (fun q => h1 q.symm), VRow.turns (vs := (List.replicate 32 (0 : Int)).map (Value.int .u8)) h.h tt (fun q => h2 q.symm), h.bel.setCell hT v⟩

set_option maxRecDepth 100000 in
set_option maxHeartbeats 6400000 in
theorem legacy_any (B : Nat) (t : TxP) (iv ov sv : Value) (X : List InV) (Y : List OutV) (i : Int) (sc : List UInt8) (k : Int) (w : World) (ht : TxR w B t iv ov X Y) (hsv : Byt w B sv sc) (hB : B ≤ w.heap.size)
    (hf : t.fit) (hs : sc.length ≤ 1000) (h0 : 0 ≤ k) (h1 : k < 256) (h3 : chosenF k ≠ 3 ∨ ¬ (0 ≤ i ∧ i < t.ins.length)) (hroots : Roots w) :
    Calls Tryd.prog 12 #[.agg (txC t iv ov).toArray, .int .i64 i, sv, .int .u8 k] w fun e w' => e = .returned (digV (legD t i sc k)) ∧ Below w.heap.size w w' := by
  obtain ⟨A1, cp1, hif, _, _⟩ := ht.ins.row.form
  obtain ⟨A2, cp2, hof, _, _⟩ := ht.outs.row.form
  subst hif hof
  have hnX := ht.nins
  have hxc : (X.length : Int) ≤ 20 := by have := hf.ni; omega
  obtain ⟨TC, hTC⟩ : ∃ z, z = txC t (.slice A1 X.length cp1) (.slice A2 Y.length cp2) := ⟨_, rfl⟩
  have t1 : TC[1]? = some (.slice A1 X.length cp1) := by rw [hTC]; rfl
  have t2 : TC[2]? = some (.slice A2 Y.length cp2) := by rw [hTC]; rfl
  have hTCl : TC.length = 4 := by rw [hTC]; rfl
  rw [← hTC]
  have s1 : (w.alloc (.cells TC.toArray 26)).heap.size = w.heap.size + 1 := by simp
  have s2 : ((w.alloc (.cells TC.toArray 26)).alloc (.cells #[.int .u8 k] 5)).heap.size = w.heap.size + 2 := by simp
  have at1 : LegAt w (((w.alloc (.cells TC.toArray 26)).alloc (.cells #[.int .u8 k] 5)).alloc (.cells ((List.replicate 32 (0 : Int)).map (Value.int .u8)).toArray 36)) w.heap.size (w.heap.size + 1) (w.heap.size + 2) TC k := by
    have r1 := VRow.new w 26 TC
    have b1 : Below w.heap.size w (w.alloc (.cells TC.toArray 26)) := (Below.refl _ w).alloc (Nat.le_refl _) _
    have r2 := VRow.new (w.alloc (.cells TC.toArray 26)) 5 [.int .u8 k]
    rw [s1] at r2
    have r3 := IRow.new ((w.alloc (.cells TC.toArray 26)).alloc (.cells #[.int .u8 k] 5)) 36 .u8 (List.replicate 32 0)
    rw [s2] at r3
    have r1' := (r1.below ((Below.refl _ _).alloc (Nat.le_refl _) (.cells #[.int .u8 k] 5)) r1.lt)
    exact ⟨r1'.below ((Below.refl _ _).alloc (Nat.le_refl _) _) r1'.lt, r2.below ((Below.refl _ _).alloc (Nat.le_refl _) _) (by rw [s2]; omega), r3, (b1.alloc (by rw [s1]; omega) _).alloc (by rw [s2]; omega) _⟩
  obtain ⟨w1, hw1⟩ : ∃ z, z = (((w.alloc (.cells TC.toArray 26)).alloc (.cells #[.int .u8 k] 5)).alloc (.cells ((List.replicate 32 (0 : Int)).map (Value.int .u8)).toArray 36)) := ⟨_, rfl⟩
  obtain ⟨GT, hGT⟩ : ∃ z, z = w.heap.size := ⟨_, rfl⟩
  obtain ⟨GK, hGK⟩ : ∃ z, z = w.heap.size + 1 := ⟨_, rfl⟩
  obtain ⟨GH, hGH⟩ : ∃ z, z = w.heap.size + 2 := ⟨_, rfl⟩
  have n1 : GT ≠ GK := by omega
  have n2 : GT ≠ GH := by omega
  have at1' : LegAt w w1 GT GK GH TC k := by rw [hw1, hGT, hGK, hGH]; exact at1
  have A1' := Lib.hid at1'
  have HW1 := Lib.hid hw1
  have HGT := Lib.hid hGT
  have HGK := Lib.hid hGK
  have HGH := Lib.hid hGH
  have N1 := Lib.hid n1
  have N2 := Lib.hid n2
  have HT := Lib.hid ht
  have HS := Lib.hid hsv
  have HB := Lib.hid hB
  have HF := Lib.hid hf
  have HSL := Lib.hid hs
  have HRO := Lib.hid hroots
  have H3 := Lib.hid h3
  have T1 := Lib.hid t1
  have T2 := Lib.hid t2
  have HTC := Lib.hid hTC
  have HNX := Lib.hid hnX
  have HTL := Lib.hid hTCl
  obtain ⟨nX, hnX2⟩ : ∃ n, n = X.length := ⟨_, rfl⟩
  obtain ⟨nY, hnY2⟩ : ∃ n, n = Y.length := ⟨_, rfl⟩
  rw [← hnX2] at hxc T1 HT HTC HNX
  rw [← hnY2] at T2 HT HTC
  have HNX2 := Lib.hid hnX2
  obtain ⟨As, cs, hsf⟩ := hsv.form
  have HSF := Lib.hid hsf
  clear s1 s2 at1 at1' hw1 hGT hGK hGH n1 n2 ht hsv hB hf hs hroots h3 t1 t2 hTC hnX hnX2 hnY2 hTCl
  have hIB : ∀ DS : List UInt8, DS.length = 32 → (Tryd.prog.info? 36).map (·.size) = some (nums DS).length ∧ (List.replicate 32 (0 : Int)).length = (nums DS).length := fun DS h => ⟨by rw [nums_length, h]; exact info_h, by rw [nums_length, h]; rfl⟩
  have HIB := Lib.hid hIB
  clear hIB
  subst hsf
  by_cases hin : 0 ≤ i ∧ i < (nX : Int)
  · as_aux_lemma =>
    obtain ⟨n, rfl⟩ : ∃ n : Nat, i = n := ⟨i.toNat, by omega⟩
    have hnl : n < nX := by omega
    obtain ⟨x, hx⟩ : ∃ x, X[n]? = some x := ⟨_, List.getElem?_eq_getElem (by rw [← HNX2.out]; exact hnl)⟩
    have h3' : chosenF k ≠ 3 := H3.out.resolve_right (fun q => q (by rw [← HNX.out]; exact hin))
    have hd : legD t (n : Int) sc k = sha256 (sha256 (legB t n sc k)) := by unfold legD; rw [if_pos ⟨by rw [← HNX.out]; exact hin, fun q => absurd q h3'⟩, Int.toNat_natCast]
    have hha := hasIn_any A1 nX cp1 (n : Int) w1
    rw [decide_eq_true hin] at hha
    have hca := chosen_any k w1 h0 h1
    have hne : (chosenF k == 3) = false := by rw [beq_eq_false_iff_ne]; exact h3'
    obtain ⟨cf, hcf⟩ : ∃ c, c = chosenF k := ⟨_, rfl⟩
    rw [← hcf] at hca hne
    have hfit := legTx_fit (i := n) (k := k) HF.out HSL.out (by omega)
    have hinp := inputs_any B _ _ X sc n x k w1 (HT.out.ins.below (A1'.out.bel.mono HB.out)) (HS.out.below (A1'.out.bel.mono HB.out)) (Nat.le_trans HB.out A1'.out.bel.size) hx h0 h1 (by have := HNX2.out; omega)
    rw [hd]
    have HHA := Lib.hid hha
    have HCA := Lib.hid hca
    have HFIT := Lib.hid hfit
    have HINP := Lib.hid hinp
    have H3' := Lib.hid h3'
    clear hha hca hfit hinp h3' hd hcf H3 hx hin
    go_enter Tryd.func12, Tryd.ntmps12
    go_upto_region 1 with fail
    change Code.wp _ _ _ _ (((w.alloc (.cells TC.toArray 26)).alloc (.cells #[.int .u8 k] 5)).alloc (.cells ((List.replicate 32 (0 : Int)).map (Value.int .u8)).toArray 36))
    rw [← HW1.out, show w.heap.size + 1 + 1 = GH from HGH.out.symm, show w.heap.size + 1 = GK from HGK.out.symm, show w.heap.size = GT from HGT.out.symm]
    clear HW1
    try dsimp only [Act.put]
    have c1 := A1'.out.t.cell T1.out
    have ck := A1'.out.k.cell (show [Value.int .u8 k][0]? = some (.int .u8 k) from rfl)
    go_wp2_with fail
    refine HHA.out.mono ?_
    rintro e w2 ⟨rfl, rfl⟩
    go_wp2_with fail
    refine HCA.out.mono ?_
    rintro e w2 ⟨rfl, rfl⟩
    go_wp2_with go_big_skip
    refine HINP.out.mono ?_
    rintro e w3 ⟨v, X', rfl, hR, hm, hb⟩
    have A3 := Lib.hid (A1'.out.below hb)
    have hR0 := hR w3 (Turns.refl _ _)
    obtain ⟨Av, cv, hvf, _, _⟩ := hR0.row.form
    subst hvf
    have HR := Lib.hid hR
    have HM := Lib.hid hm
    have HB3 := Lib.hid hb
    obtain ⟨nV, hnV⟩ : ∃ n, n = X'.length := ⟨_, rfl⟩
    rw [← hnV] at HR ⊢
    have d1 := A3.out.t.cell T1.out
    have f1 := A3.out.t.free 1
    clear hR hR0 hm hb c1 ck hne hnV
    go_upto_region 4 with fail
    change Code.wp _ _ _ _ (w3.setCell ⟨GT, 1, none⟩ (.slice Av nV cv))
    have A4 := Lib.hid (A3.out.set (by have := HGT.out; omega) N1.out N2.out 1 (.slice Av nV cv))
    have tt4 : Turns (fun q => q = GT) w3 (w3.setCell ⟨GT, 1, none⟩ (.slice Av nV cv)) := Turns.setCell (S := fun q => q = GT) (Turns.refl _ w3) (p := ⟨GT, 1, none⟩) (fun _ => rfl) _
    have TT4 := Lib.hid tt4
    clear tt4 d1 f1
    obtain ⟨w4, hw4⟩ : ∃ z, z = w3.setCell ⟨GT, 1, none⟩ (.slice Av nV cv) := ⟨_, rfl⟩
    rw [← hw4] at A4 TT4 ⊢
    clear hw4
    have hT4 : (TC.set 1 (Value.slice Av nV cv))[2]? = some (.slice A2 nY cp2) := by rw [List.getElem?_set_ne (by decide)]; exact T2.out
    have e2 := A4.out.t.cell hT4
    have ek := A4.out.k.cell (show [Value.int .u8 k][0]? = some (.int .u8 k) from rfl)
    have HOUT := Lib.hid (outputs_any B _ Y (n : Int) k n w4 (HT.out.outs.below (A4.out.bel.mono HB.out)) (Nat.le_trans HB.out A4.out.bel.size) h0 h1 H3'.out)
    go_wp2_with fail
    refine HOUT.out.mono ?_
    rintro e w5 ⟨u, Y', rfl, hQ, hq, hb5⟩
    have A5 := Lib.hid (A4.out.below hb5)
    have hQ0 := hQ w5 (Turns.refl _ _)
    obtain ⟨Au, cu, huf, _, _⟩ := hQ0.row.form
    subst huf
    have HQ := Lib.hid hQ
    have HQM := Lib.hid hq
    have HB5 := Lib.hid hb5
    obtain ⟨nU, hnU⟩ : ∃ n, n = Y'.length := ⟨_, rfl⟩
    rw [← hnU] at HQ ⊢
    have g2 := A5.out.t.cell hT4
    have f2 := A5.out.t.free 2
    clear hQ hQ0 hq hb5 e2 ek hnU HOUT hT4
    go_upto_region 5 with fail
    change Code.wp _ _ _ _ (w5.setCell ⟨GT, 2, none⟩ (.slice Au nU cu))
    have A6 := Lib.hid (A5.out.set (by have := HGT.out; omega) N1.out N2.out 2 (.slice Au nU cu))
    have tt6 : Turns (fun q => q = GT) w5 (w5.setCell ⟨GT, 2, none⟩ (.slice Au nU cu)) := Turns.setCell (S := fun q => q = GT) (Turns.refl _ w5) (p := ⟨GT, 2, none⟩) (fun _ => rfl) _
    have TT6 := Lib.hid tt6
    clear tt6 g2 f2
    obtain ⟨w6, hw6⟩ : ∃ z, z = w5.setCell ⟨GT, 2, none⟩ (.slice Au nU cu) := ⟨_, rfl⟩
    rw [← hw6] at A6 TT6 ⊢
    clear hw6
    have hBT : B ≤ GT := by have := HGT.out; have := HB.out; omega
    have hTC6 : (TC.set 1 (Value.slice Av nV cv)).set 2 (Value.slice Au nU cu) = txC (legTx t n sc k) (.slice Av nV cv) (.slice Au nU cu) := by rw [HTC.out]; rfl
    have hTX : TxR w6 w6.heap.size (legTx t n sc k) (.slice Av nV cv) (.slice Au nU cu) X' Y' := by
      refine ⟨⟨HT.out.ok.v0, HT.out.ok.v1, HT.out.ok.l0, HT.out.ok.l1⟩, HR.out w6 ?_, HQ.out w6 ?_, ?_, ?_⟩
      · have a1 : Turns (fun q => B ≤ q ∧ q < w1.heap.size) w3 w4 := TT4.out.mono (fun q _ e => by rw [e]; exact ⟨hBT, A1'.out.t.lt⟩)
        have a2 : Turns (fun q => B ≤ q ∧ q < w1.heap.size) w3 w5 := a1.trans (Turns.of_below (S := fun _ => False) HB5.out) (fun _ _ q => q.elim)
        exact a2.trans TT6.out (fun q _ e => by rw [e]; exact ⟨hBT, A1'.out.t.lt⟩)
      · exact TT6.out.mono (fun q _ e => by rw [e]; exact ⟨hBT, A4.out.t.lt⟩)
      · rw [HM.out, HT.out.ei]; rfl
      · rw [HQM.out, HT.out.eo]; rfl
    have hroot6 := HRO.out.below A6.out.bel
    have hcl : ∀ g W, WrT w6 W w6.heap.size g [] → Calls Tryd.prog 30 (#[.pointer (some ⟨g, 0, none⟩)] ++ #[.pointer (some ⟨GT, 0, none⟩), .pointer (some ⟨GK, 0, none⟩)]) W (WrD w6 w6.heap.size g W (legB t n sc k)) := fun g W h =>
      legClo_any GT GK (legTx t n sc k) _ _ X' Y' k W h hTX HFIT.out (by rw [← hTC6]; exact A6.out.t) A6.out.t.lt A6.out.k A6.out.k.lt h0 h1
    have hlb : (legB t n sc k).length ≤ 60000 := by have := encB_le HFIT.out; unfold legB; rw [List.length_append, low_length]; omega
    have HDG := Lib.hid (digest_any 30 #[.pointer (some ⟨GT, 0, none⟩), .pointer (some ⟨GK, 0, none⟩)] (legB t n sc k) w6 hroot6 hlb (fun args W => rfl) hcl)
    clear hBT hTC6 hTX hroot6 hcl hlb
    obtain ⟨DS, hDS⟩ : ∃ z, z = sha256 (sha256 (legB t n sc k)) := ⟨_, rfl⟩
    rw [← hDS] at HDG
    have HDS := Lib.hid hDS
    have hdl : DS.length = 32 := by rw [hDS, sha256_length]
    have HI := Lib.hid (HIB.out DS hdl)
    clear hDS hdl
    go_wp2_with fail
    refine HDG.out.mono ?_
    rintro e w7 ⟨rfl, hb7⟩
    have A7 := Lib.hid (A6.out.below hb7)
    clear hb7
    unfold digV
    obtain ⟨NS, hNS⟩ : ∃ z, z = nums DS := ⟨_, rfl⟩
    rw [← hNS] at HI ⊢
    have HNS := Lib.hid hNS
    clear hNS
    go_wp2_with (first
      | (refine wpList_store_irow rfl 36 (.tmp 8) (.tmp 41) rfl (g := GH) (t := 36) (k := .u8) (xs := List.replicate 32 0) (ys := NS) rfl rfl A7.out.h HI.out.1 HI.out.2 ?_))
    refine bodyPost_ret (v := digV DS) ?_ rfl ⟨by rw [HDS.out], below_setRow A7.out.bel (by have := HGH.out; omega) _⟩
    unfold digV
    rw [← HNS.out]
    obtain ⟨fr, hrw⟩ : ∃ fr, (w7.setRow GH (NS.map (Value.int .u8)).toArray).heap[GH]? = some (.cells (NS.map (Value.int .u8)).toArray 36 fr) := ⟨_, setRow_irow A7.out.h⟩
    exact results_cell_row Tryd.results12 _ _ GH 36 (NS.map (Value.int .u8)).toArray fr _ rfl hrw Tryd.underlying36 rfl (by rw [List.size_toArray, List.length_map]; exact HI.out.1)
  · as_aux_lemma =>
    have hd : legD t i sc k = oneB := by unfold legD; rw [if_neg (fun q => hin (by rw [HNX.out]; exact q.1))]
    have hha := hasIn_any A1 nX cp1 i w1
    rw [decide_eq_false hin] at hha
    rw [hd]
    have HHA := Lib.hid hha
    clear hha hd hin H3
    go_enter Tryd.func12, Tryd.ntmps12
    go_upto_region 1 with fail
    change Code.wp _ _ _ _ (((w.alloc (.cells TC.toArray 26)).alloc (.cells #[.int .u8 k] 5)).alloc (.cells ((List.replicate 32 (0 : Int)).map (Value.int .u8)).toArray 36))
    rw [← HW1.out, show w.heap.size + 1 + 1 = GH from HGH.out.symm, show w.heap.size + 1 = GK from HGK.out.symm, show w.heap.size = GT from HGT.out.symm]
    clear HW1
    try dsimp only [Act.put]
    have c1 := A1'.out.t.cell T1.out
    go_wp2_with fail
    refine HHA.out.mono ?_
    rintro e w2 ⟨rfl, rfl⟩
    go_wp2_with go_big_skip
    refine (nothing_any w1).mono ?_
    rintro e w3 ⟨rfl, hb3⟩
    have A3 := Lib.hid (A1'.out.below hb3)
    have HI := Lib.hid (HIB.out oneB rfl)
    clear hb3 c1
    unfold digV
    obtain ⟨NS, hNS⟩ : ∃ z, z = nums oneB := ⟨_, rfl⟩
    rw [← hNS] at HI ⊢
    have HNS := Lib.hid hNS
    clear hNS
    go_wp2_with (first
      | (refine wpList_store_irow rfl 36 (.tmp 8) (.tmp 26) rfl (g := GH) (t := 36) (k := .u8) (xs := List.replicate 32 0) (ys := NS) rfl rfl A3.out.h HI.out.1 HI.out.2 ?_))
    refine bodyPost_ret (v := digV oneB) ?_ rfl ⟨rfl, below_setRow A3.out.bel (by have := HGH.out; omega) _⟩
    unfold digV
    rw [← HNS.out]
    obtain ⟨fr, hrw⟩ : ∃ fr, (w3.setRow GH (NS.map (Value.int .u8)).toArray).heap[GH]? = some (.cells (NS.map (Value.int .u8)).toArray 36 fr) := ⟨_, setRow_irow A3.out.h⟩
    exact results_cell_row Tryd.results12 _ _ GH 36 (NS.map (Value.int .u8)).toArray fr _ rfl hrw Tryd.underlying36 rfl (by rw [List.size_toArray, List.length_map]; exact HI.out.1)
end Go.Proofs.YthelmclpmalofaaDoor

/-
  sighash: places, numbers and outputs written one behind the other, and the digest of all. Conditions: sizes within the reach.
-/
namespace Go.Proofs.YthelmclpmalofaaDoor
open Go.RowKit

def prevB (p : InP) : List UInt8 := p.h ++ low p.ix 4
def seqB (p : InP) : List UInt8 := low p.sq 4
set_option maxRecDepth 100000 in
set_option maxHeartbeats 1600000 in
theorem writePrev_t {w0 : World} {B g : Nat} (x : InV) (xs : List UInt8) (w : World) (h : WrT w0 w B g xs) (hok : x.p.ok) (hl : xs.length ≤ 44000) :
    Calls Tryd.prog 43 #[.pointer (some ⟨g, 0, none⟩), .agg (inC x).toArray] w (WrD w0 B g w (xs ++ prevB x.p)) := by
  obtain ⟨C, hC⟩ : ∃ C, C = inC x := ⟨_, rfl⟩
  have c32 : C[32]? = some (.int .u32 x.p.ix) := by rw [hC]; exact inC_ix hok
  have hch : ∀ (j : Nat) (v : Value), (x.p.h.map bv)[j]? = some v → C[j]? = some v := fun j v hv => by rw [hC]; exact inC_hash hv
  have hbl := low_length x.p.ix 4
  rw [← hC]
  have hG : VRow (w.alloc (.cells C.toArray 49)) w.heap.size 49 C := VRow.new _ _ _
  have hgG : w.heap.size ≠ g := by have := h.lt; omega
  have h1 := h.alloc (.cells C.toArray 49)
  have hk1 : KeepT g w (w.alloc (.cells C.toArray 49)) := KeepT.below ((Below.refl _ w).alloc (Nat.le_refl _) _)
  obtain ⟨w1, hw1⟩ : ∃ z, z = w.alloc (.cells C.toArray 49) := ⟨_, rfl⟩
  obtain ⟨G, hGG⟩ : ∃ G, G = w.heap.size := ⟨_, rfl⟩
  rw [← hw1, ← hGG] at hG
  rw [← hw1] at h1 hk1
  rw [← hGG] at hgG
  have HG := Lib.hid hG
  have H1 := Lib.hid h1
  have HK := Lib.hid hk1
  have HGG := Lib.hid hGG
  have HW1 := Lib.hid hw1
  have C32 := Lib.hid c32
  have HCH := Lib.hid hch
  have HBL := Lib.hid hbl
  have HNG := Lib.hid hgG
  have HH := Lib.hid hok.hl
  have i0 := hok.ix0
  have i1 := hok.ix1
  obtain ⟨ix, hix⟩ : ∃ n, n = x.p.ix := ⟨_, rfl⟩
  rw [← hix] at i0 i1 C32 HBL
  have HIX := Lib.hid hix
  obtain ⟨HB, hHB⟩ : ∃ s, s = x.p.h := ⟨_, rfl⟩
  rw [← hHB] at HCH HH
  have HHB := Lib.hid hHB
  clear hC c32 hch hbl hG h1 hk1 hGG hw1 hgG hok h hix hHB
  go_enter Tryd.func43, Tryd.ntmps43
  go_upto_region 1 with fail
  change Code.wp _ _ _ _ (w.alloc (.cells C.toArray 49))
  rw [← HW1.out, show w.heap.size = G from HGG.out.symm]
  clear HW1 HGG
  try dsimp only [Act.put]
  go_wp2_with fail
  refine (raw_t _ HB xs w1 H1.out (hash_byt HG.out HH.out HCH.out) (by rw [HH.out]; omega)).mono ?_
  rintro e w2 ⟨rfl, h2, k2⟩
  have H2 := Lib.hid h2
  have K2 := Lib.hid (HK.out.trans k2)
  have g2 := k2 G _ _ ne_in HNG.out HG.out
  have q32 := g2.cell C32.out
  have G2 := Lib.hid g2
  clear h2 k2 g2
  go_wp2_with fail
  refine (u32_t ix _ w2 H2.out i0 i1 (by rw [List.length_append, HH.out]; omega)).mono ?_
  rintro e w3 ⟨rfl, h3, k3⟩
  have H3 := Lib.hid h3
  have K3 := Lib.hid (K2.out.trans k3)
  clear h3 k3 q32
  go_wp2
  go_end0
  refine ⟨rfl, ?_, K3.out⟩
  have q := H3.out
  rw [List.append_assoc] at q
  rw [show prevB x.p = HB ++ low ix 4 by unfold prevB; rw [HHB.out, HIX.out]]
  exact q
set_option maxRecDepth 100000 in
set_option maxHeartbeats 1600000 in
theorem writeSeq_t {w0 : World} {B g : Nat} (x : InV) (xs : List UInt8) (w : World) (h : WrT w0 w B g xs) (hok : x.p.ok) (hl : xs.length ≤ 44000) :
    Calls Tryd.prog 46 #[.pointer (some ⟨g, 0, none⟩), .agg (inC x).toArray] w (WrD w0 B g w (xs ++ seqB x.p)) := by
  have s0 := hok.sq0
  have s1 := hok.sq1
  obtain ⟨C, hC⟩ : ∃ C, C = inC x := ⟨_, rfl⟩
  have c34 : C[34]? = some (.int .u32 x.p.sq) := by rw [hC]; exact inC_sq hok
  rw [← hC]
  have hG : VRow (w.alloc (.cells C.toArray 49)) w.heap.size 49 C := VRow.new _ _ _
  have d34 := hG.cell c34
  have h1 := h.alloc (.cells C.toArray 49)
  have hk1 : KeepT g w (w.alloc (.cells C.toArray 49)) := KeepT.below ((Below.refl _ w).alloc (Nat.le_refl _) _)
  obtain ⟨w1, hw1⟩ : ∃ z, z = w.alloc (.cells C.toArray 49) := ⟨_, rfl⟩
  obtain ⟨G, hGG⟩ : ∃ G, G = w.heap.size := ⟨_, rfl⟩
  rw [← hw1] at h1 hk1 d34
  rw [← hGG] at d34
  have H1 := Lib.hid h1
  have HK := Lib.hid hk1
  have HGG := Lib.hid hGG
  have HW1 := Lib.hid hw1
  unfold seqB
  obtain ⟨sq, hsq⟩ : ∃ n, n = x.p.sq := ⟨_, rfl⟩
  rw [← hsq] at s0 s1 d34 ⊢
  clear hC c34 hG h1 hk1 hGG hw1 hok h hsq
  go_enter Tryd.func46, Tryd.ntmps46
  go_upto_region 1 with fail
  change Code.wp _ _ _ _ (w.alloc (.cells C.toArray 49))
  rw [← HW1.out, show w.heap.size = G from HGG.out.symm]
  clear HW1 HGG
  try dsimp only [Act.put]
  go_wp2_with fail
  refine (u32_t sq xs w1 H1.out s0 s1 (by omega)).mono ?_
  rintro e w3 ⟨rfl, h3, k3⟩
  have H3 := Lib.hid h3
  have K3 := Lib.hid (HK.out.trans k3)
  clear h3 k3 d34
  go_wp2
  go_end0
  exact ⟨rfl, H3.out, K3.out⟩
set_option maxRecDepth 100000 in
set_option maxHeartbeats 1600000 in
theorem writeOut_t {w0 : World} {B g : Nat} (y : OutV) (xs : List UInt8) (w : World) (h : WrT w0 w B g xs) (hy : OutIs w0 B y) (hs : y.p.sc.length ≤ 1000) (hl : xs.length ≤ 44000) :
    Calls Tryd.prog 66 #[.pointer (some ⟨g, 0, none⟩), .agg (outC y).toArray] w (WrD w0 B g w (xs ++ toB y.p)) := by
  have v0 := hy.ok.v0
  have v1 := hy.ok.v1
  have hby := hy.sc
  obtain ⟨As, cs, hsf⟩ := hy.sc.form
  have htb : toB y.p = low (y.p.v % 18446744073709551616) 8 ++ (sizeB y.p.sc.length ++ y.p.sc) := rfl
  obtain ⟨C, hC⟩ : ∃ C, C = outC y := ⟨_, rfl⟩
  have c0 : C[0]? = some (.int .i64 y.p.v) := by rw [hC]; rfl
  have c1 : C[1]? = some y.sv := by rw [hC]; rfl
  rw [hsf] at c1 hby
  rw [← hC, htb]
  have hG : VRow (w.alloc (.cells C.toArray 54)) w.heap.size 54 C := VRow.new _ _ _
  have h1 := h.alloc (.cells C.toArray 54)
  have hk1 : KeepT g w (w.alloc (.cells C.toArray 54)) := KeepT.below ((Below.refl _ w).alloc (Nat.le_refl _) _)
  have hgG : w.heap.size ≠ g := by have := h.lt; omega
  obtain ⟨w1, hw1⟩ : ∃ z, z = w.alloc (.cells C.toArray 54) := ⟨_, rfl⟩
  obtain ⟨G, hGG⟩ : ∃ G, G = w.heap.size := ⟨_, rfl⟩
  rw [← hw1] at h1 hk1 hG
  rw [← hGG] at hG hgG
  have HG := Lib.hid hG
  have HNG := Lib.hid hgG
  have H1 := Lib.hid h1
  have HK := Lib.hid hk1
  have HGG := Lib.hid hGG
  have HW1 := Lib.hid hw1
  have HBY := Lib.hid hby
  have C1 := Lib.hid c1
  have d0 := hG.cell c0
  obtain ⟨yv, hyv⟩ : ∃ n, n = y.p.v := ⟨_, rfl⟩
  obtain ⟨SC, hSC⟩ : ∃ n, n = y.p.sc := ⟨_, rfl⟩
  rw [← hyv] at v0 v1 d0 ⊢
  rw [← hSC] at hs C1 HBY ⊢
  clear hC c0 c1 hG h1 hk1 hGG hw1 hy h hyv hSC hby hsf htb hgG
  go_enter Tryd.func66, Tryd.ntmps66
  go_upto_region 1 with fail
  change Code.wp _ _ _ _ (w.alloc (.cells C.toArray 54))
  rw [← HW1.out, show w.heap.size = G from HGG.out.symm]
  clear HW1 HGG
  try dsimp only [Act.put]
  go_wp2_with fail
  refine (u64_t (yv % 18446744073709551616) xs w1 H1.out (by omega) (by omega) (by omega)).mono ?_
  rintro e w3 ⟨rfl, h3, k3⟩
  have H3 := Lib.hid h3
  have K3 := Lib.hid (HK.out.trans k3)
  have g3 := k3 G _ _ ne_out HNG.out HG.out
  have d1 := g3.cell C1.out
  clear h3 k3 d0 g3
  go_wp2_with fail
  refine (bytes_t _ SC _ w3 H3.out HBY.out (by rw [List.length_append, low_length]; omega) hs).mono ?_
  rintro e w4 ⟨rfl, h4, k4⟩
  have H4 := Lib.hid h4
  have K4 := Lib.hid (K3.out.trans k4)
  clear h4 k4 d1
  go_wp2
  go_end0
  refine ⟨rfl, ?_, K4.out⟩
  have q := H4.out
  rw [List.append_assoc] at q
  exact q

set_option maxRecDepth 100000 in
set_option maxHeartbeats 3200000 in
theorem dInClo_any {w0 : World} {B g : Nat} (GS GF : Nat) (one : FuncId) (f : InP → List UInt8) (v : Value) (X : List InV) (w : World) (h : WrT w0 w B g []) (hX : InsR w0 B v X) (hn : X.length ≤ 20)
    (hS : VRow w0 GS 22 [v]) (hSB : GS < B) (hF : VRow w0 GF 72 [.func (.func one) #[] #[]]) (hFB : GF < B) (hfl : ∀ x ∈ X, (f x.p).length ≤ 1049)
    (eg : ∀ args W, (callFunc one args).run Tryd.prog W = .ok (.enter one args) W)
    (hone : ∀ x ∈ X, ∀ xs W, WrT w0 W B g xs → xs.length ≤ 44000 → Calls Tryd.prog one #[.pointer (some ⟨g, 0, none⟩), .agg (inC x).toArray] W (WrD w0 B g W (xs ++ f x.p))) :
    Calls Tryd.prog 77 #[.pointer (some ⟨g, 0, none⟩), .pointer (some ⟨GS, 0, none⟩), .pointer (some ⟨GF, 0, none⟩)] w (WrD w0 B g w ((X.map (·.p)).flatMap f)) := by
  obtain ⟨A, cp, hvf, _, _⟩ := hX.row.form
  subst hvf
  have hSw := (hS.below h.bel hSB).cell (show [Value.slice A X.length cp][0]? = some (.slice A X.length cp) from rfl)
  have hz := zero_tin
  obtain ⟨ZI, hZI⟩ : ∃ z, z = zTin := ⟨_, rfl⟩
  have hzl : ZI.length = 36 := by rw [hZI]; rfl
  rw [← hZI] at hz
  have HX := Lib.hid hX
  have HH := Lib.hid h
  have HF := Lib.hid hF
  have HFB := Lib.hid hFB
  have HFL := Lib.hid hfl
  have HONE := Lib.hid hone
  have HZL := Lib.hid hzl
  obtain ⟨nX, hnX⟩ : ∃ n, n = X.length := ⟨_, rfl⟩
  rw [← hnX] at HX hSw hn
  have HNX := Lib.hid hnX
  have HLE := Lib.hid (show ∀ j, (((X.take j).map (·.p)).flatMap f).length ≤ 20980 from fun j => by
    have h1 := flat_le f 1049 ((X.take j).map (·.p)) (fun p hp => by obtain ⟨x, hx, rfl⟩ := List.mem_map.1 hp; exact hfl x (List.mem_of_mem_take hx))
    have h2 : ((X.take j).map (·.p)).length ≤ 20 := by rw [List.length_map, List.length_take]; omega
    have := Nat.mul_le_mul_right 1049 h2
    omega)
  clear hX h hS hSB hF hFB hfl hone hZI hzl hnX
  go_enter Tryd.func77, Tryd.ntmps77
  go_wp2_with fail
  clear hSw
  go_loopw [8] (fun s wr => ∃ j : Nat, j ≤ nX ∧ s = .int .i64 (j : Int) ∧ Hid (WrT w0 wr B g (((X.take j).map (·.p)).flatMap f)) ∧ Hid (KeepT g w wr)) (fun s _ => nX - (intOf s).toNat)
  case atStart => exact ⟨0, Nat.zero_le _, rfl, Lib.hid (by simpa using HH.out), Lib.hid (KeepT.refl _ _)⟩
  case round =>
    obtain ⟨j, hj, rfl, hwt, hkt⟩ := hrel
    obtain ⟨w3, rfl⟩ : ∃ z : World, z = wr := ⟨_, rfl⟩
    by_cases hlt : j < nX
    · as_aux_lemma =>
      have dj : decide ((j : Int) < (nX : Int)) = true := decide_eq_true (by omega)
      obtain ⟨y, hy⟩ : ∃ y, X[j]? = some y := ⟨_, List.getElem?_eq_getElem (by rw [← HNX.out]; exact hlt)⟩
      obtain ⟨b, o, c', ef, hnc, _, _, hrg, hiy⟩ := (HX.out.below hwt.out.bel).at hy
      injection ef with ef1 ef2 ef3
      subst ef1 ef3
      have hym := List.mem_of_getElem? hy
      have hcl : (inC y).length = 36 := inC_length hiy.ok
      have hc1 := hiy.one
      have hcall := fun W h => HONE.out y hym (((X.take j).map (·.p)).flatMap f) W h (by have := HLE.out j; omega)
      have hnx : ((X.take (j + 1)).map (·.p)).flatMap f = ((X.take j).map (·.p)).flatMap f ++ f y.p := by rw [List.take_add_one, hy, List.map_append, List.flatMap_append]; simp
      obtain ⟨C, hC⟩ : ∃ C, C = inC y := ⟨_, rfl⟩
      rw [← hC] at hrg hcl hc1
      simp only [← hC] at hcall
      rw [← hnx] at hcall
      have cf := (HF.out.below hwt.out.bel HFB.out).cell (show [Value.func (.func one) #[] #[]][0]? = some (.func (.func one) #[] #[]) from rfl)
      obtain ⟨r1, r2⟩ := box_row w3 49 ZI C
      have cf5 := (r2.cell (p := ⟨GF, 0, none⟩) (Nat.lt_of_lt_of_le HFB.out hwt.out.le)).trans cf
      have HSC := Lib.hid (show (Tryd.prog.info? 49).map (·.size) = some C.length by rw [hcl]; exact size_tin)
      have HLC := Lib.hid (show ZI.length = C.length by rw [HZL.out, hcl])
      have HC1 := Lib.hid (arr_one hc1)
      have HRG := Lib.hid hrg
      have HCALL := Lib.hid hcall
      have hcw : nX ≤ cp := by rw [HNX.out]; exact hnc
      clear hcl hc1 hrg hcall hC hy hiy ef2 hnc hym hnx cf
      go_upto_region 3 with (first
        | (refine wpList_load_mid rfl 49 _ rfl b (o + j * 36) rfl C _ HRG.out Tryd.underlying49 rfl HSC.out ?_)
        | (refine wpList_store_vrow rfl 49 _ _ rfl rfl rfl (VRow.new _ _ ZI) HSC.out HLC.out HC1.out ?_))
      change Code.wp _ _ _ _ ((w3.alloc (.cells ZI.toArray 49)).setRow w3.heap.size C.toArray)
      obtain ⟨w5, hw5⟩ : ∃ z, z = ((w3.alloc (.cells ZI.toArray 49)).setRow w3.heap.size C.toArray) := ⟨_, rfl⟩
      obtain ⟨GB, hGB⟩ : ∃ z, z = w3.heap.size := ⟨_, rfl⟩
      rw [← hw5] at r1 r2 cf5 ⊢
      rw [← hGB] at r1 ⊢
      have R1 := Lib.hid r1
      have W5 := Lib.hid (hwt.out.below r2)
      have K5 := Lib.hid (hkt.out.trans (KeepT.below r2))
      clear r1 r2 hw5 hGB hwt hkt
      go_wp2_with (first
        | (refine wpList_load_vrow rfl 49 _ rfl rfl R1.out Tryd.underlying49 HSC.out ?_))
      refine (HCALL.out _ W5.out).mono ?_
      rintro e w6 ⟨rfl, h6, k6⟩
      have H6 := Lib.hid h6
      have K6 := Lib.hid (K5.out.trans k6)
      clear h6 k6 cf5
      go_wp2_with fail
      exact ⟨⟨j + 1, hlt, by first | rfl | (rw [wrap_small2 (by omega) (by omega)]; rfl), H6, K6⟩, meas_n hlt⟩
    · as_aux_lemma =>
      have dj : decide ((j : Int) < (nX : Int)) = false := decide_eq_false (by omega)
      have hjn : j = X.length := by rw [← HNX.out]; omega
      have h3 := hwt.out
      rw [hjn, List.take_length] at h3
      have H3 := Lib.hid h3
      clear h3 hjn hwt
      go_wp2
      go_end0
      exact ⟨rfl, H3.out, hkt.out⟩

set_option maxRecDepth 100000 in
set_option maxHeartbeats 3200000 in
theorem dInAll_any (one : FuncId) (f : InP → List UInt8) (B : Nat) (v : Value) (X : List InV) (w : World) (hX : InsR w B v X) (hB : B ≤ w.heap.size) (hn : X.length ≤ 20) (hfl : ∀ x ∈ X, (f x.p).length ≤ 1049) (hroots : Roots w)
    (eg : ∀ args W, (callFunc one args).run Tryd.prog W = .ok (.enter one args) W)
    (hone : ∀ (w0 : World) (B0 g : Nat), ∀ x ∈ X, InIs w0 B0 x → ∀ xs W, WrT w0 W B0 g xs → xs.length ≤ 44000 → Calls Tryd.prog one #[.pointer (some ⟨g, 0, none⟩), .agg (inC x).toArray] W (WrD w0 B0 g W (xs ++ f x.p))) :
    Calls Tryd.prog 64 #[v, .func (.func one) #[] #[]] w fun e w' => e = .returned (digV (sha256 (sha256 ((X.map (·.p)).flatMap f)))) ∧ Below w.heap.size w w' := by
  have hX0 := hX.more hB
  have b1 : Below w.heap.size w (w.alloc (.cells #[v] 22)) := (Below.refl _ w).alloc (Nat.le_refl _) _
  have s1 : (w.alloc (.cells #[v] 22)).heap.size = w.heap.size + 1 := by simp
  have s2 : ((w.alloc (.cells #[v] 22)).alloc (.cells #[.func (.func one) #[] #[]] 72)).heap.size = w.heap.size + 2 := by simp
  have r1 : VRow (w.alloc (.cells #[v] 22)) w.heap.size 22 [v] := VRow.new w 22 [v]
  have r2 : VRow ((w.alloc (.cells #[v] 22)).alloc (.cells #[.func (.func one) #[] #[]] 72)) (w.heap.size + 1) 72 [.func (.func one) #[] #[]] := by rw [← s1]; exact VRow.new _ 72 [.func (.func one) #[] #[]]
  have b2 : Below w.heap.size w ((w.alloc (.cells #[v] 22)).alloc (.cells #[.func (.func one) #[] #[]] 72)) := b1.alloc (by rw [s1]; omega) _
  have r1' := r1.below ((Below.refl _ _).alloc (Nat.le_refl _) (.cells #[.func (.func one) #[] #[]] 72)) r1.lt
  have r3 : IRow (((w.alloc (.cells #[v] 22)).alloc (.cells #[.func (.func one) #[] #[]] 72)).alloc (.cells ((List.replicate 32 (0 : Int)).map (Value.int .u8)).toArray 36)) (w.heap.size + 2) 36 .u8 (List.replicate 32 0) := by rw [← s2]; exact IRow.new _ _ _ _
  have b3 : Below w.heap.size w (((w.alloc (.cells #[v] 22)).alloc (.cells #[.func (.func one) #[] #[]] 72)).alloc (.cells ((List.replicate 32 (0 : Int)).map (Value.int .u8)).toArray 36)) := b2.alloc (by rw [s2]; omega) _
  have r1'' := r1'.below ((Below.refl _ _).alloc (Nat.le_refl _) (.cells ((List.replicate 32 (0 : Int)).map (Value.int .u8)).toArray 36)) r1'.lt
  have r2' := r2.below ((Below.refl _ _).alloc (Nat.le_refl _) (.cells ((List.replicate 32 (0 : Int)).map (Value.int .u8)).toArray 36)) r2.lt
  obtain ⟨w1, hw1⟩ : ∃ z, z = (((w.alloc (.cells #[v] 22)).alloc (.cells #[.func (.func one) #[] #[]] 72)).alloc (.cells ((List.replicate 32 (0 : Int)).map (Value.int .u8)).toArray 36)) := ⟨_, rfl⟩
  obtain ⟨GS, hGS⟩ : ∃ z, z = w.heap.size := ⟨_, rfl⟩
  obtain ⟨GF, hGF⟩ : ∃ z, z = w.heap.size + 1 := ⟨_, rfl⟩
  obtain ⟨GH, hGH⟩ : ∃ z, z = w.heap.size + 2 := ⟨_, rfl⟩
  rw [← hw1] at r1'' r2' r3 b3
  rw [← hGS] at r1''
  rw [← hGF] at r2'
  rw [← hGH] at r3
  have hX1 := (hX0.below b3).more b3.size
  have hcl : ∀ g W, WrT w1 W w1.heap.size g [] → Calls Tryd.prog 77 (#[.pointer (some ⟨g, 0, none⟩)] ++ #[.pointer (some ⟨GS, 0, none⟩), .pointer (some ⟨GF, 0, none⟩)]) W (WrD w1 w1.heap.size g W ((X.map (·.p)).flatMap f)) := fun g W h =>
    dInClo_any GS GF one f v X W h hX1 hn r1'' r1''.lt r2' r2'.lt hfl eg (fun x hx xs W' hW hl => hone w1 w1.heap.size g x hx (hX1.each x hx) xs W' hW hl)
  have hle : ((X.map (·.p)).flatMap f).length ≤ 60000 := by
    have h1 := flat_le f 1049 (X.map (·.p)) (fun p hp => by obtain ⟨x, hx, rfl⟩ := List.mem_map.1 hp; exact hfl x hx)
    have h2 : (X.map (·.p)).length ≤ 20 := by rw [List.length_map]; exact hn
    have := Nat.mul_le_mul_right 1049 h2
    omega
  have HDG := Lib.hid (digest_any 77 #[.pointer (some ⟨GS, 0, none⟩), .pointer (some ⟨GF, 0, none⟩)] ((X.map (·.p)).flatMap f) w1 (hroots.below b3) hle (fun args W => rfl) hcl)
  have HR3 := Lib.hid r3
  have HB3 := Lib.hid b3
  have HW1 := Lib.hid hw1
  have HGS := Lib.hid hGS
  have HGF := Lib.hid hGF
  have HGH := Lib.hid hGH
  obtain ⟨DS, hDS⟩ : ∃ z, z = sha256 (sha256 ((X.map (·.p)).flatMap f)) := ⟨_, rfl⟩
  rw [← hDS] at HDG ⊢
  have hdl : DS.length = 32 := by rw [hDS, sha256_length]
  have HI := Lib.hid (show (Tryd.prog.info? 36).map (·.size) = some (nums DS).length by rw [nums_length, hdl]; exact info_h)
  have HL := Lib.hid (show (List.replicate 32 (0 : Int)).length = (nums DS).length by rw [nums_length, hdl]; rfl)
  obtain ⟨A, cp, hvf, _, _⟩ := hX.row.form
  subst hvf
  clear hX hX0 b1 s1 s2 r1 r2 b2 r1' r3 b3 r1'' r2' hw1 hGS hGF hGH hX1 hcl hle hDS hdl hfl hone hroots eg
  go_enter Tryd.func64, Tryd.ntmps64
  go_upto_region 1 with fail
  change Code.wp _ _ _ _ (((w.alloc (.cells #[.slice A X.length cp] 22)).alloc (.cells #[.func (.func one) #[] #[]] 72)).alloc (.cells ((List.replicate 32 (0 : Int)).map (Value.int .u8)).toArray 36))
  rw [← HW1.out, show w.heap.size + 1 + 1 = GH from HGH.out.symm, show w.heap.size + 1 = GF from HGF.out.symm, show w.heap.size = GS from HGS.out.symm]
  clear HW1
  try dsimp only [Act.put]
  go_wp2_with fail
  refine HDG.out.mono ?_
  rintro e w7 ⟨rfl, hb7⟩
  have R7 := Lib.hid (IRow.below HR3.out hb7 (VRow.lt (vs := (List.replicate 32 (0 : Int)).map (Value.int .u8)) HR3.out))
  have B7 := Lib.hid (HB3.out.trans (hb7.mono HB3.out.size))
  clear hb7
  unfold digV
  obtain ⟨NS, hNS⟩ : ∃ z, z = nums DS := ⟨_, rfl⟩
  rw [← hNS] at HI HL ⊢
  have HNS := Lib.hid hNS
  clear hNS
  go_wp2_with (first
    | (refine wpList_store_irow rfl 36 (.tmp 4) (.tmp 6) rfl (g := GH) (t := 36) (k := .u8) (xs := List.replicate 32 0) (ys := NS) rfl rfl R7.out HI.out HL.out ?_))
  refine bodyPost_ret (v := digV DS) ?_ rfl ⟨rfl, below_setRow B7.out (by have := HGH.out; omega) _⟩
  unfold digV
  rw [← HNS.out]
  obtain ⟨fr, hrw⟩ : ∃ fr, (w7.setRow GH (NS.map (Value.int .u8)).toArray).heap[GH]? = some (.cells (NS.map (Value.int .u8)).toArray 36 fr) := ⟨_, setRow_irow R7.out⟩
  exact results_cell_row Tryd.results64 _ _ GH 36 (NS.map (Value.int .u8)).toArray fr _ rfl hrw Tryd.underlying36 rfl (by rw [List.size_toArray, List.length_map]; exact HI.out)

set_option maxRecDepth 100000 in
set_option maxHeartbeats 3200000 in
theorem dOutClo_any {w0 : World} {B g : Nat} (GS GF : Nat) (one : FuncId) (f : OutP → List UInt8) (v : Value) (X : List OutV) (w : World) (h : WrT w0 w B g []) (hX : OutsR w0 B v X) (hn : X.length ≤ 20)
    (hS : VRow w0 GS 23 [v]) (hSB : GS < B) (hF : VRow w0 GF 91 [.func (.func one) #[] #[]]) (hFB : GF < B) (hfl : ∀ x ∈ X, (f x.p).length ≤ 1049)
    (eg : ∀ args W, (callFunc one args).run Tryd.prog W = .ok (.enter one args) W)
    (hone : ∀ x ∈ X, ∀ xs W, WrT w0 W B g xs → xs.length ≤ 44000 → Calls Tryd.prog one #[.pointer (some ⟨g, 0, none⟩), .agg (outC x).toArray] W (WrD w0 B g W (xs ++ f x.p))) :
    Calls Tryd.prog 78 #[.pointer (some ⟨g, 0, none⟩), .pointer (some ⟨GS, 0, none⟩), .pointer (some ⟨GF, 0, none⟩)] w (WrD w0 B g w ((X.map (·.p)).flatMap f)) := by
  obtain ⟨A, cp, hvf, _, _⟩ := hX.row.form
  subst hvf
  have hSw := (hS.below h.bel hSB).cell (show [Value.slice A X.length cp][0]? = some (.slice A X.length cp) from rfl)
  have hz := zero_tout
  obtain ⟨ZI, hZI⟩ : ∃ z, z = [Value.int .i64 0, Value.slice none 0 0] := ⟨_, rfl⟩
  have hzl : ZI.length = 2 := by rw [hZI]; rfl
  rw [← hZI] at hz
  have HX := Lib.hid hX
  have HH := Lib.hid h
  have HF := Lib.hid hF
  have HFB := Lib.hid hFB
  have HFL := Lib.hid hfl
  have HONE := Lib.hid hone
  have HZL := Lib.hid hzl
  obtain ⟨nX, hnX⟩ : ∃ n, n = X.length := ⟨_, rfl⟩
  rw [← hnX] at HX hSw hn
  have HNX := Lib.hid hnX
  have HLE := Lib.hid (show ∀ j, (((X.take j).map (·.p)).flatMap f).length ≤ 20980 from fun j => by
    have h1 := flat_le f 1049 ((X.take j).map (·.p)) (fun p hp => by obtain ⟨x, hx, rfl⟩ := List.mem_map.1 hp; exact hfl x (List.mem_of_mem_take hx))
    have h2 : ((X.take j).map (·.p)).length ≤ 20 := by rw [List.length_map, List.length_take]; omega
    have := Nat.mul_le_mul_right 1049 h2
    omega)
  clear hX h hS hSB hF hFB hfl hone hZI hzl hnX
  go_enter Tryd.func78, Tryd.ntmps78
  go_wp2_with fail
  clear hSw
  go_loopw [8] (fun s wr => ∃ j : Nat, j ≤ nX ∧ s = .int .i64 (j : Int) ∧ Hid (WrT w0 wr B g (((X.take j).map (·.p)).flatMap f)) ∧ Hid (KeepT g w wr)) (fun s _ => nX - (intOf s).toNat)
  case atStart => exact ⟨0, Nat.zero_le _, rfl, Lib.hid (by simpa using HH.out), Lib.hid (KeepT.refl _ _)⟩
  case round =>
    obtain ⟨j, hj, rfl, hwt, hkt⟩ := hrel
    obtain ⟨w3, rfl⟩ : ∃ z : World, z = wr := ⟨_, rfl⟩
    by_cases hlt : j < nX
    · as_aux_lemma =>
      have dj : decide ((j : Int) < (nX : Int)) = true := decide_eq_true (by omega)
      obtain ⟨y, hy⟩ : ∃ y, X[j]? = some y := ⟨_, List.getElem?_eq_getElem (by rw [← HNX.out]; exact hlt)⟩
      obtain ⟨b, o, c', ef, hnc, _, _, hrg, hiy⟩ := (HX.out.below hwt.out.bel).at hy
      injection ef with ef1 ef2 ef3
      subst ef1 ef3
      have hym := List.mem_of_getElem? hy
      have hcl : (outC y).length = 2 := outC_length y
      have hc1 := hiy.one
      have hcall := fun W h => HONE.out y hym (((X.take j).map (·.p)).flatMap f) W h (by have := HLE.out j; omega)
      have hnx : ((X.take (j + 1)).map (·.p)).flatMap f = ((X.take j).map (·.p)).flatMap f ++ f y.p := by rw [List.take_add_one, hy, List.map_append, List.flatMap_append]; simp
      obtain ⟨C, hC⟩ : ∃ C, C = outC y := ⟨_, rfl⟩
      rw [← hC] at hrg hcl hc1
      simp only [← hC] at hcall
      rw [← hnx] at hcall
      have cf := (HF.out.below hwt.out.bel HFB.out).cell (show [Value.func (.func one) #[] #[]][0]? = some (.func (.func one) #[] #[]) from rfl)
      obtain ⟨r1, r2⟩ := box_row w3 54 ZI C
      have cf5 := (r2.cell (p := ⟨GF, 0, none⟩) (Nat.lt_of_lt_of_le HFB.out hwt.out.le)).trans cf
      have HSC := Lib.hid (show (Tryd.prog.info? 54).map (·.size) = some C.length by rw [hcl]; exact size_tout)
      have HLC := Lib.hid (show ZI.length = C.length by rw [HZL.out, hcl])
      have HC1 := Lib.hid (arr_one hc1)
      have HRG := Lib.hid hrg
      have HCALL := Lib.hid hcall
      have hcw : nX ≤ cp := by rw [HNX.out]; exact hnc
      clear hcl hc1 hrg hcall hC hy hiy ef2 hnc hym hnx cf
      go_upto_region 3 with (first
        | (refine wpList_load_mid rfl 54 _ rfl b (o + j * 2) rfl C _ HRG.out Tryd.underlying54 rfl HSC.out ?_)
        | (refine wpList_store_vrow rfl 54 _ _ rfl rfl rfl (VRow.new _ _ ZI) HSC.out HLC.out HC1.out ?_))
      change Code.wp _ _ _ _ ((w3.alloc (.cells ZI.toArray 54)).setRow w3.heap.size C.toArray)
      obtain ⟨w5, hw5⟩ : ∃ z, z = ((w3.alloc (.cells ZI.toArray 54)).setRow w3.heap.size C.toArray) := ⟨_, rfl⟩
      obtain ⟨GB, hGB⟩ : ∃ z, z = w3.heap.size := ⟨_, rfl⟩
      rw [← hw5] at r1 r2 cf5 ⊢
      rw [← hGB] at r1 ⊢
      have R1 := Lib.hid r1
      have W5 := Lib.hid (hwt.out.below r2)
      have K5 := Lib.hid (hkt.out.trans (KeepT.below r2))
      clear r1 r2 hw5 hGB hwt hkt
      go_wp2_with (first
        | (refine wpList_load_vrow rfl 54 _ rfl rfl R1.out Tryd.underlying54 HSC.out ?_))
      refine (HCALL.out _ W5.out).mono ?_
      rintro e w6 ⟨rfl, h6, k6⟩
      have H6 := Lib.hid h6
      have K6 := Lib.hid (K5.out.trans k6)
      clear h6 k6 cf5
      go_wp2_with fail
      exact ⟨⟨j + 1, hlt, by first | rfl | (rw [wrap_small2 (by omega) (by omega)]; rfl), H6, K6⟩, meas_n hlt⟩
    · as_aux_lemma =>
      have dj : decide ((j : Int) < (nX : Int)) = false := decide_eq_false (by omega)
      have hjn : j = X.length := by rw [← HNX.out]; omega
      have h3 := hwt.out
      rw [hjn, List.take_length] at h3
      have H3 := Lib.hid h3
      clear h3 hjn hwt
      go_wp2
      go_end0
      exact ⟨rfl, H3.out, hkt.out⟩

set_option maxRecDepth 100000 in
set_option maxHeartbeats 3200000 in
theorem dOutAll_any (one : FuncId) (f : OutP → List UInt8) (B : Nat) (v : Value) (X : List OutV) (w : World) (hX : OutsR w B v X) (hB : B ≤ w.heap.size) (hn : X.length ≤ 20) (hfl : ∀ x ∈ X, (f x.p).length ≤ 1049) (hroots : Roots w)
    (eg : ∀ args W, (callFunc one args).run Tryd.prog W = .ok (.enter one args) W)
    (hone : ∀ (w0 : World) (B0 g : Nat), ∀ x ∈ X, OutIs w0 B0 x → ∀ xs W, WrT w0 W B0 g xs → xs.length ≤ 44000 → Calls Tryd.prog one #[.pointer (some ⟨g, 0, none⟩), .agg (outC x).toArray] W (WrD w0 B0 g W (xs ++ f x.p))) :
    Calls Tryd.prog 65 #[v, .func (.func one) #[] #[]] w fun e w' => e = .returned (digV (sha256 (sha256 ((X.map (·.p)).flatMap f)))) ∧ Below w.heap.size w w' := by
  have hX0 := hX.more hB
  have b1 : Below w.heap.size w (w.alloc (.cells #[v] 23)) := (Below.refl _ w).alloc (Nat.le_refl _) _
  have s1 : (w.alloc (.cells #[v] 23)).heap.size = w.heap.size + 1 := by simp
  have s2 : ((w.alloc (.cells #[v] 23)).alloc (.cells #[.func (.func one) #[] #[]] 91)).heap.size = w.heap.size + 2 := by simp
  have r1 : VRow (w.alloc (.cells #[v] 23)) w.heap.size 23 [v] := VRow.new w 23 [v]
  have r2 : VRow ((w.alloc (.cells #[v] 23)).alloc (.cells #[.func (.func one) #[] #[]] 91)) (w.heap.size + 1) 91 [.func (.func one) #[] #[]] := by rw [← s1]; exact VRow.new _ 91 [.func (.func one) #[] #[]]
  have b2 : Below w.heap.size w ((w.alloc (.cells #[v] 23)).alloc (.cells #[.func (.func one) #[] #[]] 91)) := b1.alloc (by rw [s1]; omega) _
  have r1' := r1.below ((Below.refl _ _).alloc (Nat.le_refl _) (.cells #[.func (.func one) #[] #[]] 91)) r1.lt
  have r3 : IRow (((w.alloc (.cells #[v] 23)).alloc (.cells #[.func (.func one) #[] #[]] 91)).alloc (.cells ((List.replicate 32 (0 : Int)).map (Value.int .u8)).toArray 36)) (w.heap.size + 2) 36 .u8 (List.replicate 32 0) := by rw [← s2]; exact IRow.new _ _ _ _
  have b3 : Below w.heap.size w (((w.alloc (.cells #[v] 23)).alloc (.cells #[.func (.func one) #[] #[]] 91)).alloc (.cells ((List.replicate 32 (0 : Int)).map (Value.int .u8)).toArray 36)) := b2.alloc (by rw [s2]; omega) _
  have r1'' := r1'.below ((Below.refl _ _).alloc (Nat.le_refl _) (.cells ((List.replicate 32 (0 : Int)).map (Value.int .u8)).toArray 36)) r1'.lt
  have r2' := r2.below ((Below.refl _ _).alloc (Nat.le_refl _) (.cells ((List.replicate 32 (0 : Int)).map (Value.int .u8)).toArray 36)) r2.lt
  obtain ⟨w1, hw1⟩ : ∃ z, z = (((w.alloc (.cells #[v] 23)).alloc (.cells #[.func (.func one) #[] #[]] 91)).alloc (.cells ((List.replicate 32 (0 : Int)).map (Value.int .u8)).toArray 36)) := ⟨_, rfl⟩
  obtain ⟨GS, hGS⟩ : ∃ z, z = w.heap.size := ⟨_, rfl⟩
  obtain ⟨GF, hGF⟩ : ∃ z, z = w.heap.size + 1 := ⟨_, rfl⟩
  obtain ⟨GH, hGH⟩ : ∃ z, z = w.heap.size + 2 := ⟨_, rfl⟩
  rw [← hw1] at r1'' r2' r3 b3
  rw [← hGS] at r1''
  rw [← hGF] at r2'
  rw [← hGH] at r3
  have hX1 := (hX0.below b3).more b3.size
  have hcl : ∀ g W, WrT w1 W w1.heap.size g [] → Calls Tryd.prog 78 (#[.pointer (some ⟨g, 0, none⟩)] ++ #[.pointer (some ⟨GS, 0, none⟩), .pointer (some ⟨GF, 0, none⟩)]) W (WrD w1 w1.heap.size g W ((X.map (·.p)).flatMap f)) := fun g W h =>
    dOutClo_any GS GF one f v X W h hX1 hn r1'' r1''.lt r2' r2'.lt hfl eg (fun x hx xs W' hW hl => hone w1 w1.heap.size g x hx (hX1.each x hx) xs W' hW hl)
  have hle : ((X.map (·.p)).flatMap f).length ≤ 60000 := by
    have h1 := flat_le f 1049 (X.map (·.p)) (fun p hp => by obtain ⟨x, hx, rfl⟩ := List.mem_map.1 hp; exact hfl x hx)
    have h2 : (X.map (·.p)).length ≤ 20 := by rw [List.length_map]; exact hn
    have := Nat.mul_le_mul_right 1049 h2
    omega
  have HDG := Lib.hid (digest_any 78 #[.pointer (some ⟨GS, 0, none⟩), .pointer (some ⟨GF, 0, none⟩)] ((X.map (·.p)).flatMap f) w1 (hroots.below b3) hle (fun args W => rfl) hcl)
  have HR3 := Lib.hid r3
  have HB3 := Lib.hid b3
  have HW1 := Lib.hid hw1
  have HGS := Lib.hid hGS
  have HGF := Lib.hid hGF
  have HGH := Lib.hid hGH
  obtain ⟨DS, hDS⟩ : ∃ z, z = sha256 (sha256 ((X.map (·.p)).flatMap f)) := ⟨_, rfl⟩
  rw [← hDS] at HDG ⊢
  have hdl : DS.length = 32 := by rw [hDS, sha256_length]
  have HI := Lib.hid (show (Tryd.prog.info? 36).map (·.size) = some (nums DS).length by rw [nums_length, hdl]; exact info_h)
  have HL := Lib.hid (show (List.replicate 32 (0 : Int)).length = (nums DS).length by rw [nums_length, hdl]; rfl)
  obtain ⟨A, cp, hvf, _, _⟩ := hX.row.form
  subst hvf
  clear hX hX0 b1 s1 s2 r1 r2 b2 r1' r3 b3 r1'' r2' hw1 hGS hGF hGH hX1 hcl hle hDS hdl hfl hone hroots eg
  go_enter Tryd.func65, Tryd.ntmps65
  go_upto_region 1 with fail
  change Code.wp _ _ _ _ (((w.alloc (.cells #[.slice A X.length cp] 23)).alloc (.cells #[.func (.func one) #[] #[]] 91)).alloc (.cells ((List.replicate 32 (0 : Int)).map (Value.int .u8)).toArray 36))
  rw [← HW1.out, show w.heap.size + 1 + 1 = GH from HGH.out.symm, show w.heap.size + 1 = GF from HGF.out.symm, show w.heap.size = GS from HGS.out.symm]
  clear HW1
  try dsimp only [Act.put]
  go_wp2_with fail
  refine HDG.out.mono ?_
  rintro e w7 ⟨rfl, hb7⟩
  have R7 := Lib.hid (IRow.below HR3.out hb7 (VRow.lt (vs := (List.replicate 32 (0 : Int)).map (Value.int .u8)) HR3.out))
  have B7 := Lib.hid (HB3.out.trans (hb7.mono HB3.out.size))
  clear hb7
  unfold digV
  obtain ⟨NS, hNS⟩ : ∃ z, z = nums DS := ⟨_, rfl⟩
  rw [← hNS] at HI HL ⊢
  have HNS := Lib.hid hNS
  clear hNS
  go_wp2_with (first
    | (refine wpList_store_irow rfl 36 (.tmp 4) (.tmp 6) rfl (g := GH) (t := 36) (k := .u8) (xs := List.replicate 32 0) (ys := NS) rfl rfl R7.out HI.out HL.out ?_))
  refine bodyPost_ret (v := digV DS) ?_ rfl ⟨rfl, below_setRow B7.out (by have := HGH.out; omega) _⟩
  unfold digV
  rw [← HNS.out]
  obtain ⟨fr, hrw⟩ : ∃ fr, (w7.setRow GH (NS.map (Value.int .u8)).toArray).heap[GH]? = some (.cells (NS.map (Value.int .u8)).toArray 36 fr) := ⟨_, setRow_irow R7.out⟩
  exact results_cell_row Tryd.results65 _ _ GH 36 (NS.map (Value.int .u8)).toArray fr _ rfl hrw Tryd.underlying36 rfl (by rw [List.size_toArray, List.length_map]; exact HI.out)
end Go.Proofs.YthelmclpmalofaaDoor

/-
  sighash: the three digests that Witness signs. Conditions: sizes within the reach; not Single.
-/
namespace Go.Proofs.YthelmclpmalofaaDoor
open Go.RowKit

def zeroB : List UInt8 := List.replicate 32 0
def prevsD (l : List InP) (k : Int) : List UInt8 := if aloneF k = true then zeroB else sha256 (sha256 (l.flatMap prevB))
def seqsD (l : List InP) (k : Int) : List UInt8 := if aloneF k = true ∨ chosenF k ≠ 1 then zeroB else sha256 (sha256 (l.flatMap seqB))
def outsD (l : List OutP) (i k : Int) : List UInt8 := if chosenF k = 1 then sha256 (sha256 (l.flatMap toB)) else match (if chosenF k = 3 ∧ 0 ≤ i then l[i.toNat]? else none) with
  | some o => sha256 (sha256 (toB o))
  | none => zeroB
theorem build_zh (W : World) : (Instr.build 36 #[]).run Tryd.prog W = .ok (digV zeroB) W := by kernel_rfl
theorem prevB_le {p : InP} (h : p.ok) : (prevB p).length ≤ 1049 := by unfold prevB; rw [List.length_append, low_length, h.hl]; omega
theorem seqB_le (p : InP) : (seqB p).length ≤ 1049 := by unfold seqB; rw [low_length]; omega
set_option maxRecDepth 100000 in
set_option maxHeartbeats 1600000 in
theorem prevs_any (B : Nat) (v : Value) (X : List InV) (k : Int) (w : World) (hX : InsR w B v X) (hB : B ≤ w.heap.size) (hn : X.length ≤ 20) (h0 : 0 ≤ k) (h1 : k < 256) (hroots : Roots w) :
    Calls Tryd.prog 39 #[v, .int .u8 k] w fun e w' => e = .returned (digV (prevsD (X.map (·.p)) k)) ∧ Below w.heap.size w w' := by
  have hc := fun W => alone_any k W h0 h1
  have r1 : IRow (w.alloc (.cells ((List.replicate 32 (0 : Int)).map (Value.int .u8)).toArray 36)) w.heap.size 36 .u8 (List.replicate 32 0) := IRow.new _ _ _ _
  have b1 : Below w.heap.size w (w.alloc (.cells ((List.replicate 32 (0 : Int)).map (Value.int .u8)).toArray 36)) := (Below.refl _ w).alloc (Nat.le_refl _) _
  obtain ⟨w1, hw1⟩ : ∃ z, z = (w.alloc (.cells ((List.replicate 32 (0 : Int)).map (Value.int .u8)).toArray 36)) := ⟨_, rfl⟩
  obtain ⟨GH, hGH⟩ : ∃ z, z = w.heap.size := ⟨_, rfl⟩
  rw [← hw1] at r1 b1
  rw [← hGH] at r1
  obtain ⟨A, cp, hvf, _, _⟩ := hX.row.form
  subst hvf
  have R1 := Lib.hid r1
  have B1 := Lib.hid b1
  have HW1 := Lib.hid hw1
  have HGH := Lib.hid hGH
  have HX := Lib.hid (hX.below (b1.mono hB))
  have HBB := Lib.hid (Nat.le_trans hB b1.size)
  have HRO := Lib.hid (hroots.below b1)
  have HN := Lib.hid hn
  have HC := Lib.hid hc
  clear r1 b1 hw1 hGH hX hB hroots hn hc
  by_cases ha : aloneF k = true
  · as_aux_lemma =>
    rw [show prevsD (X.map (·.p)) k = zeroB by unfold prevsD; rw [if_pos ha]]
    have hca := HC.out w1
    rw [ha] at hca
    clear ha HC
    obtain ⟨DS, hDS⟩ : ∃ z, z = zeroB := ⟨_, rfl⟩
    have hbz := build_zh
    rw [← hDS] at hbz ⊢
    have HDL := Lib.hid (show DS.length = 32 by rw [hDS]; rfl)
    have HBZ := Lib.hid hbz
    clear hbz hDS
    have HI := Lib.hid (show (Tryd.prog.info? 36).map (·.size) = some (nums DS).length by rw [nums_length, HDL.out]; exact info_h)
    have HL := Lib.hid (show (List.replicate 32 (0 : Int)).length = (nums DS).length by rw [nums_length, HDL.out]; rfl)
    go_enter Tryd.func39, Tryd.ntmps39
    go_upto_region 1 with fail
    change Code.wp _ _ _ _ (w.alloc (.cells ((List.replicate 32 (0 : Int)).map (Value.int .u8)).toArray 36))
    rw [← HW1.out, show w.heap.size = GH from HGH.out.symm]
    clear HW1
    try dsimp only [Act.put]
    go_wp2_with fail
    refine hca.mono ?_
    rintro e w2 ⟨rfl, rfl⟩
    clear hca
    obtain ⟨NS, hNS⟩ : ∃ z, z = nums DS := ⟨_, rfl⟩
    unfold digV at HBZ
    rw [← hNS] at HI HL HBZ
    have HNS := Lib.hid hNS
    clear hNS
    go_wp2_with (first
      | (refine wpList_build_lit rfl 36 _ (.agg (NS.map (Value.int .u8)).toArray) rfl (fun W => by (simp only [List.map_toArray, List.map_nil]; exact HBZ.out W)) ?_)
      | (refine wpList_store_irow rfl 36 (.tmp 4) (.tmp 7) rfl (g := GH) (t := 36) (k := .u8) (xs := List.replicate 32 0) (ys := NS) rfl rfl R1.out HI.out HL.out ?_))
    refine bodyPost_ret (v := digV DS) ?_ rfl ⟨rfl, below_setRow B1.out (by have := HGH.out; omega) _⟩
    unfold digV
    rw [← HNS.out]
    obtain ⟨fr, hrw⟩ : ∃ fr, (w1.setRow GH (NS.map (Value.int .u8)).toArray).heap[GH]? = some (.cells (NS.map (Value.int .u8)).toArray 36 fr) := ⟨_, setRow_irow R1.out⟩
    exact results_cell_row Tryd.results39 _ _ GH 36 (NS.map (Value.int .u8)).toArray fr _ rfl hrw Tryd.underlying36 rfl (by rw [List.size_toArray, List.length_map]; exact HI.out)
  · as_aux_lemma =>
    rw [show prevsD (X.map (·.p)) k = sha256 (sha256 ((X.map (·.p)).flatMap prevB)) by unfold prevsD; rw [if_neg ha]]
    have hca := HC.out w1
    rw [show aloneF k = false by simpa using ha] at hca
    clear ha HC
    have hda := dInAll_any 43 prevB B _ X w1 HX.out HBB.out HN.out (fun x hx => prevB_le (HX.out.each x hx).ok) HRO.out (fun args W => rfl) (fun w0 B0 g x _ hi xs W hW hl => writePrev_t x xs W hW hi.ok hl)
    obtain ⟨DS, hDS⟩ : ∃ z, z = sha256 (sha256 ((X.map (·.p)).flatMap prevB)) := ⟨_, rfl⟩
    rw [← hDS] at hda ⊢
    have HDA := Lib.hid hda
    have HDL := Lib.hid (show DS.length = 32 by rw [hDS, sha256_length])
    clear hda hDS
    have HI := Lib.hid (show (Tryd.prog.info? 36).map (·.size) = some (nums DS).length by rw [nums_length, HDL.out]; exact info_h)
    have HL := Lib.hid (show (List.replicate 32 (0 : Int)).length = (nums DS).length by rw [nums_length, HDL.out]; rfl)
    go_enter Tryd.func39, Tryd.ntmps39
    go_upto_region 1 with fail
    change Code.wp _ _ _ _ (w.alloc (.cells ((List.replicate 32 (0 : Int)).map (Value.int .u8)).toArray 36))
    rw [← HW1.out, show w.heap.size = GH from HGH.out.symm]
    clear HW1
    try dsimp only [Act.put]
    go_wp2_with fail
    refine hca.mono ?_
    rintro e w2 ⟨rfl, rfl⟩
    clear hca
    go_wp2_with fail
    refine HDA.out.mono ?_
    rintro e w7 ⟨rfl, hb7⟩
    have R7 := Lib.hid (IRow.below R1.out hb7 (VRow.lt (vs := (List.replicate 32 (0 : Int)).map (Value.int .u8)) R1.out))
    have B7 := Lib.hid (B1.out.trans (hb7.mono B1.out.size))
    clear hb7
    unfold digV
    obtain ⟨NS, hNS⟩ : ∃ z, z = nums DS := ⟨_, rfl⟩

    rw [← hNS] at HI HL  ⊢
    have HNS := Lib.hid hNS
    clear hNS
    go_wp2_with (first
      | (refine wpList_store_irow rfl 36 (.tmp 4) (.tmp 9) rfl (g := GH) (t := 36) (k := .u8) (xs := List.replicate 32 0) (ys := NS) rfl rfl R7.out HI.out HL.out ?_))
    refine bodyPost_ret (v := digV DS) ?_ rfl ⟨rfl, below_setRow B7.out (by have := HGH.out; omega) _⟩
    unfold digV
    rw [← HNS.out]
    obtain ⟨fr, hrw⟩ : ∃ fr, (w7.setRow GH (NS.map (Value.int .u8)).toArray).heap[GH]? = some (.cells (NS.map (Value.int .u8)).toArray 36 fr) := ⟨_, setRow_irow R7.out⟩
    exact results_cell_row Tryd.results39 _ _ GH 36 (NS.map (Value.int .u8)).toArray fr _ rfl hrw Tryd.underlying36 rfl (by rw [List.size_toArray, List.length_map]; exact HI.out)
set_option maxRecDepth 100000 in
set_option maxHeartbeats 1600000 in
theorem seqs_any (B : Nat) (v : Value) (X : List InV) (k : Int) (w : World) (hX : InsR w B v X) (hB : B ≤ w.heap.size) (hn : X.length ≤ 20) (h0 : 0 ≤ k) (h1 : k < 256) (hroots : Roots w) :
    Calls Tryd.prog 40 #[v, .int .u8 k] w fun e w' => e = .returned (digV (seqsD (X.map (·.p)) k)) ∧ Below w.heap.size w w' := by
  have hc := fun W => alone_any k W h0 h1
  have r1 : IRow (w.alloc (.cells ((List.replicate 32 (0 : Int)).map (Value.int .u8)).toArray 36)) w.heap.size 36 .u8 (List.replicate 32 0) := IRow.new _ _ _ _
  have b1 : Below w.heap.size w (w.alloc (.cells ((List.replicate 32 (0 : Int)).map (Value.int .u8)).toArray 36)) := (Below.refl _ w).alloc (Nat.le_refl _) _
  obtain ⟨w1, hw1⟩ : ∃ z, z = (w.alloc (.cells ((List.replicate 32 (0 : Int)).map (Value.int .u8)).toArray 36)) := ⟨_, rfl⟩
  obtain ⟨GH, hGH⟩ : ∃ z, z = w.heap.size := ⟨_, rfl⟩
  rw [← hw1] at r1 b1
  rw [← hGH] at r1
  obtain ⟨A, cp, hvf, _, _⟩ := hX.row.form
  subst hvf
  have R1 := Lib.hid r1
  have B1 := Lib.hid b1
  have HW1 := Lib.hid hw1
  have HGH := Lib.hid hGH
  have HX := Lib.hid (hX.below (b1.mono hB))
  have HBB := Lib.hid (Nat.le_trans hB b1.size)
  have HRO := Lib.hid (hroots.below b1)
  have HN := Lib.hid hn
  have HC := Lib.hid hc
  clear r1 b1 hw1 hGH hX hB hroots hn hc
  by_cases ha : aloneF k = true
  · as_aux_lemma =>
    rw [show seqsD (X.map (·.p)) k = zeroB by unfold seqsD; rw [if_pos (.inl ha)]]
    have hca := HC.out w1
    rw [ha] at hca
    clear ha HC
    obtain ⟨DS, hDS⟩ : ∃ z, z = zeroB := ⟨_, rfl⟩
    have hbz := build_zh
    rw [← hDS] at hbz ⊢
    have HDL := Lib.hid (show DS.length = 32 by rw [hDS]; rfl)
    have HBZ := Lib.hid hbz
    clear hbz hDS
    have HI := Lib.hid (show (Tryd.prog.info? 36).map (·.size) = some (nums DS).length by rw [nums_length, HDL.out]; exact info_h)
    have HL := Lib.hid (show (List.replicate 32 (0 : Int)).length = (nums DS).length by rw [nums_length, HDL.out]; rfl)
    go_enter Tryd.func40, Tryd.ntmps40
    go_upto_region 1 with fail
    change Code.wp _ _ _ _ (w.alloc (.cells ((List.replicate 32 (0 : Int)).map (Value.int .u8)).toArray 36))
    rw [← HW1.out, show w.heap.size = GH from HGH.out.symm]
    clear HW1
    try dsimp only [Act.put]
    go_wp2_with fail
    refine hca.mono ?_
    rintro e w2 ⟨rfl, rfl⟩
    clear hca
    go_upto_region 2 with go_big_skip
    obtain ⟨NS, hNS⟩ : ∃ z, z = nums DS := ⟨_, rfl⟩
    unfold digV at HBZ
    rw [← hNS] at HI HL HBZ
    have HNS := Lib.hid hNS
    clear hNS
    go_wp2_with (first
      | (refine wpList_build_lit rfl 36 _ (.agg (NS.map (Value.int .u8)).toArray) rfl (fun W => by (simp only [List.map_toArray, List.map_nil]; exact HBZ.out W)) ?_)
      | (refine wpList_store_irow rfl 36 (.tmp 4) (.tmp 12) rfl (g := GH) (t := 36) (k := .u8) (xs := List.replicate 32 0) (ys := NS) rfl rfl R1.out HI.out HL.out ?_))
    refine bodyPost_ret (v := digV DS) ?_ rfl ⟨rfl, below_setRow B1.out (by have := HGH.out; omega) _⟩
    unfold digV
    rw [← HNS.out]
    obtain ⟨fr, hrw⟩ : ∃ fr, (w1.setRow GH (NS.map (Value.int .u8)).toArray).heap[GH]? = some (.cells (NS.map (Value.int .u8)).toArray 36 fr) := ⟨_, setRow_irow R1.out⟩
    exact results_cell_row Tryd.results40 _ _ GH 36 (NS.map (Value.int .u8)).toArray fr _ rfl hrw Tryd.underlying36 rfl (by rw [List.size_toArray, List.length_map]; exact HI.out)
  · by_cases hk : chosenF k = 1
    · as_aux_lemma =>
      rw [show seqsD (X.map (·.p)) k = sha256 (sha256 ((X.map (·.p)).flatMap seqB)) by unfold seqsD; rw [if_neg (fun q => q.elim ha (fun q => q hk))]]
      have hca := HC.out w1
      rw [show aloneF k = false by simpa using ha] at hca
      have hch := chosen_any k w1 h0 h1
      rw [hk] at hch
      clear ha HC hk
      have hda := dInAll_any 46 seqB B _ X w1 HX.out HBB.out HN.out (fun x hx => seqB_le x.p) HRO.out (fun args W => rfl) (fun w0 B0 g x _ hi xs W hW hl => writeSeq_t x xs W hW hi.ok hl)
      obtain ⟨DS, hDS⟩ : ∃ z, z = sha256 (sha256 ((X.map (·.p)).flatMap seqB)) := ⟨_, rfl⟩
      rw [← hDS] at hda ⊢
      have HDA := Lib.hid hda
      have HDL := Lib.hid (show DS.length = 32 by rw [hDS, sha256_length])
      clear hda hDS
      have HI := Lib.hid (show (Tryd.prog.info? 36).map (·.size) = some (nums DS).length by rw [nums_length, HDL.out]; exact info_h)
      have HL := Lib.hid (show (List.replicate 32 (0 : Int)).length = (nums DS).length by rw [nums_length, HDL.out]; rfl)
      go_enter Tryd.func40, Tryd.ntmps40
      go_upto_region 1 with fail
      change Code.wp _ _ _ _ (w.alloc (.cells ((List.replicate 32 (0 : Int)).map (Value.int .u8)).toArray 36))
      rw [← HW1.out, show w.heap.size = GH from HGH.out.symm]
      clear HW1
      try dsimp only [Act.put]
      go_wp2_with fail
      refine hca.mono ?_
      rintro e w2 ⟨rfl, rfl⟩
      clear hca
      go_wp2_with fail
      refine hch.mono ?_
      rintro e w2 ⟨rfl, rfl⟩
      clear hch
      go_wp2_with fail
      refine HDA.out.mono ?_
      rintro e w7 ⟨rfl, hb7⟩
      have R7 := Lib.hid (IRow.below R1.out hb7 (VRow.lt (vs := (List.replicate 32 (0 : Int)).map (Value.int .u8)) R1.out))
      have B7 := Lib.hid (B1.out.trans (hb7.mono B1.out.size))
      clear hb7
      unfold digV
      obtain ⟨NS, hNS⟩ : ∃ z, z = nums DS := ⟨_, rfl⟩

      rw [← hNS] at HI HL  ⊢
      have HNS := Lib.hid hNS
      clear hNS
      go_wp2_with (first
        | (refine wpList_store_irow rfl 36 (.tmp 4) (.tmp 14) rfl (g := GH) (t := 36) (k := .u8) (xs := List.replicate 32 0) (ys := NS) rfl rfl R7.out HI.out HL.out ?_))
      refine bodyPost_ret (v := digV DS) ?_ rfl ⟨rfl, below_setRow B7.out (by have := HGH.out; omega) _⟩
      unfold digV
      rw [← HNS.out]
      obtain ⟨fr, hrw⟩ : ∃ fr, (w7.setRow GH (NS.map (Value.int .u8)).toArray).heap[GH]? = some (.cells (NS.map (Value.int .u8)).toArray 36 fr) := ⟨_, setRow_irow R7.out⟩
      exact results_cell_row Tryd.results40 _ _ GH 36 (NS.map (Value.int .u8)).toArray fr _ rfl hrw Tryd.underlying36 rfl (by rw [List.size_toArray, List.length_map]; exact HI.out)
    · as_aux_lemma =>
      rw [show seqsD (X.map (·.p)) k = zeroB by unfold seqsD; rw [if_pos (.inr hk)]]
      have hca := HC.out w1
      rw [show aloneF k = false by simpa using ha] at hca
      have hch := chosen_any k w1 h0 h1
      have hne : (chosenF k != 1) = true := by rw [bne_iff_ne]; exact hk
      obtain ⟨cf, hcf⟩ : ∃ c, c = chosenF k := ⟨_, rfl⟩
      rw [← hcf] at hch hne
      clear ha HC hk hcf
      obtain ⟨DS, hDS⟩ : ∃ z, z = zeroB := ⟨_, rfl⟩
      have hbz := build_zh
      rw [← hDS] at hbz ⊢
      have HDL := Lib.hid (show DS.length = 32 by rw [hDS]; rfl)
      have HBZ := Lib.hid hbz
      clear hbz hDS
      have HI := Lib.hid (show (Tryd.prog.info? 36).map (·.size) = some (nums DS).length by rw [nums_length, HDL.out]; exact info_h)
      have HL := Lib.hid (show (List.replicate 32 (0 : Int)).length = (nums DS).length by rw [nums_length, HDL.out]; rfl)
      go_enter Tryd.func40, Tryd.ntmps40
      go_upto_region 1 with fail
      change Code.wp _ _ _ _ (w.alloc (.cells ((List.replicate 32 (0 : Int)).map (Value.int .u8)).toArray 36))
      rw [← HW1.out, show w.heap.size = GH from HGH.out.symm]
      clear HW1
      try dsimp only [Act.put]
      go_wp2_with fail
      refine hca.mono ?_
      rintro e w2 ⟨rfl, rfl⟩
      clear hca
      go_wp2_with fail
      refine hch.mono ?_
      rintro e w2 ⟨rfl, rfl⟩
      clear hch
      go_upto_region 2 with fail
      obtain ⟨NS, hNS⟩ : ∃ z, z = nums DS := ⟨_, rfl⟩
      unfold digV at HBZ
      rw [← hNS] at HI HL HBZ
      have HNS := Lib.hid hNS
      clear hNS
      go_wp2_with (first
        | (refine wpList_build_lit rfl 36 _ (.agg (NS.map (Value.int .u8)).toArray) rfl (fun W => by (simp only [List.map_toArray, List.map_nil]; exact HBZ.out W)) ?_)
        | (refine wpList_store_irow rfl 36 (.tmp 4) (.tmp 12) rfl (g := GH) (t := 36) (k := .u8) (xs := List.replicate 32 0) (ys := NS) rfl rfl R1.out HI.out HL.out ?_))
      refine bodyPost_ret (v := digV DS) ?_ rfl ⟨rfl, below_setRow B1.out (by have := HGH.out; omega) _⟩
      unfold digV
      rw [← HNS.out]
      obtain ⟨fr, hrw⟩ : ∃ fr, (w1.setRow GH (NS.map (Value.int .u8)).toArray).heap[GH]? = some (.cells (NS.map (Value.int .u8)).toArray 36 fr) := ⟨_, setRow_irow R1.out⟩
      exact results_cell_row Tryd.results40 _ _ GH 36 (NS.map (Value.int .u8)).toArray fr _ rfl hrw Tryd.underlying36 rfl (by rw [List.size_toArray, List.length_map]; exact HI.out)
set_option maxRecDepth 100000 in
set_option maxHeartbeats 1600000 in
theorem outs_any (B : Nat) (v : Value) (X : List OutV) (i k : Int) (w : World) (hX : OutsR w B v X) (hB : B ≤ w.heap.size) (hn : X.length ≤ 20) (hs : ∀ x ∈ X, x.p.sc.length ≤ 1000) (h0 : 0 ≤ k) (h1 : k < 256) (h3 : chosenF k ≠ 3) (hroots : Roots w) :
    Calls Tryd.prog 41 #[v, .int .i64 i, .int .u8 k] w fun e w' => e = .returned (digV (outsD (X.map (·.p)) i k)) ∧ Below w.heap.size w w' := by
  have hc := fun W => chosen_any k W h0 h1
  have r1 : IRow (w.alloc (.cells ((List.replicate 32 (0 : Int)).map (Value.int .u8)).toArray 36)) w.heap.size 36 .u8 (List.replicate 32 0) := IRow.new _ _ _ _
  have b1 : Below w.heap.size w (w.alloc (.cells ((List.replicate 32 (0 : Int)).map (Value.int .u8)).toArray 36)) := (Below.refl _ w).alloc (Nat.le_refl _) _
  obtain ⟨w1, hw1⟩ : ∃ z, z = (w.alloc (.cells ((List.replicate 32 (0 : Int)).map (Value.int .u8)).toArray 36)) := ⟨_, rfl⟩
  obtain ⟨GH, hGH⟩ : ∃ z, z = w.heap.size := ⟨_, rfl⟩
  rw [← hw1] at r1 b1
  rw [← hGH] at r1
  obtain ⟨A, cp, hvf, _, _⟩ := hX.row.form
  subst hvf
  have R1 := Lib.hid r1
  have B1 := Lib.hid b1
  have HW1 := Lib.hid hw1
  have HGH := Lib.hid hGH
  have HX := Lib.hid (hX.below (b1.mono hB))
  have HBB := Lib.hid (Nat.le_trans hB b1.size)
  have HRO := Lib.hid (hroots.below b1)
  have HN := Lib.hid hn
  have HC := Lib.hid hc
  clear r1 b1 hw1 hGH hX hB hroots hn hc
  rcases chosen_is k with hk | hk | hk
  · as_aux_lemma =>
    rw [show outsD (X.map (·.p)) i k = sha256 (sha256 ((X.map (·.p)).flatMap toB)) by unfold outsD; rw [if_pos hk]]
    have hca := HC.out w1
    rw [hk] at hca
    clear HC hk h3
    have hda := dOutAll_any 66 toB B _ X w1 HX.out HBB.out HN.out (fun x hx => Nat.le_trans (toB_le (hs x hx)) (by omega)) HRO.out (fun args W => rfl) (fun w0 B0 g x hx hi xs W hW hl => writeOut_t x xs W hW hi (hs x hx) hl)
    have HSS := Lib.hid hs
    clear hs
    obtain ⟨DS, hDS⟩ : ∃ z, z = sha256 (sha256 ((X.map (·.p)).flatMap toB)) := ⟨_, rfl⟩
    rw [← hDS] at hda ⊢
    have HDA := Lib.hid hda
    have HDL := Lib.hid (show DS.length = 32 by rw [hDS, sha256_length])
    clear hda hDS
    have HI := Lib.hid (show (Tryd.prog.info? 36).map (·.size) = some (nums DS).length by rw [nums_length, HDL.out]; exact info_h)
    have HL := Lib.hid (show (List.replicate 32 (0 : Int)).length = (nums DS).length by rw [nums_length, HDL.out]; rfl)
    go_enter Tryd.func41, Tryd.ntmps41
    go_upto_region 1 with fail
    change Code.wp _ _ _ _ (w.alloc (.cells ((List.replicate 32 (0 : Int)).map (Value.int .u8)).toArray 36))
    rw [← HW1.out, show w.heap.size = GH from HGH.out.symm]
    clear HW1
    try dsimp only [Act.put]
    go_wp2_with fail
    refine hca.mono ?_
    rintro e w2 ⟨rfl, rfl⟩
    clear hca
    go_wp2_with fail
    refine HDA.out.mono ?_
    rintro e w7 ⟨rfl, hb7⟩
    have R7 := Lib.hid (IRow.below R1.out hb7 (VRow.lt (vs := (List.replicate 32 (0 : Int)).map (Value.int .u8)) R1.out))
    have B7 := Lib.hid (B1.out.trans (hb7.mono B1.out.size))
    clear hb7
    unfold digV
    obtain ⟨NS, hNS⟩ : ∃ z, z = nums DS := ⟨_, rfl⟩

    rw [← hNS] at HI HL  ⊢
    have HNS := Lib.hid hNS
    clear hNS
    go_wp2_with (first
      | (refine wpList_store_irow rfl 36 (.tmp 6) (.tmp 12) rfl (g := GH) (t := 36) (k := .u8) (xs := List.replicate 32 0) (ys := NS) rfl rfl R7.out HI.out HL.out ?_))
    refine bodyPost_ret (v := digV DS) ?_ rfl ⟨rfl, below_setRow B7.out (by have := HGH.out; omega) _⟩
    unfold digV
    rw [← HNS.out]
    obtain ⟨fr, hrw⟩ : ∃ fr, (w7.setRow GH (NS.map (Value.int .u8)).toArray).heap[GH]? = some (.cells (NS.map (Value.int .u8)).toArray 36 fr) := ⟨_, setRow_irow R7.out⟩
    exact results_cell_row Tryd.results41 _ _ GH 36 (NS.map (Value.int .u8)).toArray fr _ rfl hrw Tryd.underlying36 rfl (by rw [List.size_toArray, List.length_map]; exact HI.out)
  · as_aux_lemma =>
    rw [show outsD (X.map (·.p)) i k = zeroB by unfold outsD; rw [if_neg (by rw [hk]; decide), if_neg (fun q => h3 q.1)]]
    have hca := HC.out w1
    rw [hk] at hca
    have HCA := Lib.hid hca
    have HSS := Lib.hid hs
    clear HC hk h3 hca hs
    obtain ⟨DS, hDS⟩ : ∃ z, z = zeroB := ⟨_, rfl⟩
    have hbz := build_zh
    rw [← hDS] at hbz ⊢
    have HDL := Lib.hid (show DS.length = 32 by rw [hDS]; rfl)
    have HBZ := Lib.hid hbz
    clear hbz hDS
    have HI := Lib.hid (show (Tryd.prog.info? 36).map (·.size) = some (nums DS).length by rw [nums_length, HDL.out]; exact info_h)
    have HL := Lib.hid (show (List.replicate 32 (0 : Int)).length = (nums DS).length by rw [nums_length, HDL.out]; rfl)
    go_enter Tryd.func41, Tryd.ntmps41
    go_upto_region 1 with fail
    change Code.wp _ _ _ _ (w.alloc (.cells ((List.replicate 32 (0 : Int)).map (Value.int .u8)).toArray 36))
    rw [← HW1.out, show w.heap.size = GH from HGH.out.symm]
    clear HW1
    try dsimp only [Act.put]
    go_wp2_with fail
    refine HCA.out.mono ?_
    rintro e w2 ⟨rfl, rfl⟩
    go_wp2_with fail
    refine HCA.out.mono ?_
    rintro e w2 ⟨rfl, rfl⟩
    go_upto_region 5 with go_big_skip
    obtain ⟨NS, hNS⟩ : ∃ z, z = nums DS := ⟨_, rfl⟩
    unfold digV at HBZ
    rw [← hNS] at HI HL HBZ
    have HNS := Lib.hid hNS
    clear hNS
    go_wp2_with (first
      | (refine wpList_build_lit rfl 36 _ (.agg (NS.map (Value.int .u8)).toArray) rfl (fun W => by (simp only [List.map_toArray, List.map_nil]; exact HBZ.out W)) ?_)
      | (refine wpList_store_irow rfl 36 (.tmp 6) (.tmp 28) rfl (g := GH) (t := 36) (k := .u8) (xs := List.replicate 32 0) (ys := NS) rfl rfl R1.out HI.out HL.out ?_))
    refine bodyPost_ret (v := digV DS) ?_ rfl ⟨rfl, below_setRow B1.out (by have := HGH.out; omega) _⟩
    unfold digV
    rw [← HNS.out]
    obtain ⟨fr, hrw⟩ : ∃ fr, (w1.setRow GH (NS.map (Value.int .u8)).toArray).heap[GH]? = some (.cells (NS.map (Value.int .u8)).toArray 36 fr) := ⟨_, setRow_irow R1.out⟩
    exact results_cell_row Tryd.results41 _ _ GH 36 (NS.map (Value.int .u8)).toArray fr _ rfl hrw Tryd.underlying36 rfl (by rw [List.size_toArray, List.length_map]; exact HI.out)
  · exact absurd hk h3
end Go.Proofs.YthelmclpmalofaaDoor
