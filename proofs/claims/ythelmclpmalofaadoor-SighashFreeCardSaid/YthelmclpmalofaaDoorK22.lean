/-
  Texts joined: TvQ3, TvV3, TvK. Conditions: those of each.
-/
import Derived.Test.YthelmclpmalofaaDoorK13
import Derived.Test.YthelmclpmalofaaDoorK16
import Derived.Test.YthelmclpmalofaaDoorK21
import Derived.Test.YthelmclpmalofaaDoorK20
/-
  sighash.outsOf at every kind. Conditions: sizes within the reach.
-/
namespace Go.Proofs.YthelmclpmalofaaDoor
open Go.RowKit

theorem OutsR.pick {w : World} {B : Nat} {v : Value} {X : List OutV} (h : OutsR w B v X) {i : Nat} {x : OutV} (hi : X[i]? = some x) :
    ∃ b o c, v = .slice (some ⟨b, o, none⟩) X.length c ∧ X.length ≤ c ∧ c ≤ 9223372036854775807 ∧ OutsR w B (.slice (some ⟨b, o + i * 2, none⟩) 1 (c - i)) [x] := by
  obtain ⟨b, o, c, hv, h1, h2, hlt, hr, he⟩ := h.at hi
  have hl := (List.getElem?_eq_some_iff.1 hi).1
  refine ⟨b, o, c, hv, h1, h2, ⟨⟨_, _, rfl, by show 1 ≤ c - i; omega, by unfold maxLen; omega, fun _ => ⟨b, _, rfl, hlt, ?_⟩⟩, fun y hy => ?_⟩⟩
  · rw [List.flatMap_cons, List.flatMap_nil, List.append_nil]
    exact hr
  · obtain rfl : y = x := by simpa using hy
    exact he
set_option maxRecDepth 100000 in
set_option maxHeartbeats 1600000 in
theorem outs3_any (B : Nat) (v : Value) (X : List OutV) (i k : Int) (w : World) (hX : OutsR w B v X) (hB : B ≤ w.heap.size) (hn : X.length ≤ 20) (hs : ∀ x ∈ X, x.p.sc.length ≤ 1000) (h0 : 0 ≤ k) (h1 : k < 256) (h3 : chosenF k = 3) (hroots : Roots w) :
    Calls Tryd.prog 41 #[v, .int .i64 i, .int .u8 k] w fun e w' => e = .returned (digV (outsD (X.map (·.p)) i k)) ∧ Below w.heap.size w w' := by
  have hc := fun W => chosen_any k W h0 h1
  have r1 : IRow (w.alloc (.cells ((List.replicate 32 (0 : Int)).map (Value.int .u8)).toArray 36)) w.heap.size 36 .u8 (List.replicate 32 0) := IRow.new _ _ _ _
  have b1 : Below w.heap.size w (w.alloc (.cells ((List.replicate 32 (0 : Int)).map (Value.int .u8)).toArray 36)) := (Below.refl _ w).alloc (Nat.le_refl _) _
  obtain ⟨w1, hw1⟩ : ∃ z, z = (w.alloc (.cells ((List.replicate 32 (0 : Int)).map (Value.int .u8)).toArray 36)) := ⟨_, rfl⟩
  obtain ⟨GH, hGH⟩ : ∃ z, z = w.heap.size := ⟨_, rfl⟩
  rw [← hw1] at r1 b1
  rw [← hGH] at r1
  obtain ⟨A, cp, hvf, _, _⟩ := hX.row.form
  subst hvf
  have R1 := Lib.hid r1
  have B1 := Lib.hid b1
  have HW1 := Lib.hid hw1
  have HGH := Lib.hid hGH
  have HX := Lib.hid (hX.below (b1.mono hB))
  have HBB := Lib.hid (Nat.le_trans hB b1.size)
  have HRO := Lib.hid (hroots.below b1)
  have HN := Lib.hid hn
  have HC := Lib.hid hc
  clear r1 b1 hw1 hGH hX hB hroots hn hc
  by_cases hio : 0 ≤ i ∧ i < (X.length : Int)
  · as_aux_lemma =>
    obtain ⟨n, rfl⟩ : ∃ n : Nat, i = n := ⟨i.toNat, by omega⟩
    obtain ⟨y, hy⟩ : ∃ y, X[n]? = some y := ⟨_, List.getElem?_eq_getElem (by omega)⟩
    have hym := List.mem_of_getElem? hy
    obtain ⟨b2, o2, c2, hv2, hn2, hm2, hpk⟩ := HX.out.pick hy
    have hln := (List.getElem?_eq_some_iff.1 hy).1
    injection hv2 with hv2 _ hv3
    subst hv2 hv3
    rw [show outsD (X.map (·.p)) (n : Int) k = sha256 (sha256 (([y].map (·.p)).flatMap toB)) by unfold outsD; rw [if_neg (by rw [h3]; decide), if_pos ⟨h3, by omega⟩, Int.toNat_natCast, List.getElem?_map, hy]; simp]
    have hca := HC.out w1
    rw [h3] at hca
    have hho := hasOut_any (some ⟨b2, o2, none⟩) X.length cp (n : Int) w1
    rw [decide_eq_true hio] at hho
    have hda := dOutAll_any 66 toB B _ [y] w1 hpk HBB.out (by simp) (fun x hx => by obtain rfl : x = y := (by simpa using hx); exact Nat.le_trans (toB_le (hs x hym)) (by omega)) HRO.out (fun args W => rfl) (fun w0 B0 g x hx hi xs W hW hl => by obtain rfl : x = y := (by simpa using hx); exact writeOut_t x xs W hW hi (hs x hym) hl)
    have hn20 := HN.out
    obtain ⟨nX, hnX⟩ : ∃ z, z = X.length := ⟨_, rfl⟩
    rw [← hnX] at hio hho hn2 hln hn20
    rw [← hnX]
    have HCA := Lib.hid hca
    have HHO := Lib.hid hho
    clear HC h3 hs hca hho hy hym hpk hnX
    obtain ⟨DS, hDS⟩ : ∃ z, z = sha256 (sha256 (([y].map (·.p)).flatMap toB)) := ⟨_, rfl⟩
    rw [← hDS] at hda ⊢
    have HDA := Lib.hid hda
    have HDL := Lib.hid (show DS.length = 32 by rw [hDS, sha256_length])
    clear hda hDS
    have HI := Lib.hid (show (Tryd.prog.info? 36).map (·.size) = some (nums DS).length by rw [nums_length, HDL.out]; exact info_h)
    have HL := Lib.hid (show (List.replicate 32 (0 : Int)).length = (nums DS).length by rw [nums_length, HDL.out]; rfl)
    go_enter Tryd.func41, Tryd.ntmps41
    go_upto_region 1 with fail
    change Code.wp _ _ _ _ (w.alloc (.cells ((List.replicate 32 (0 : Int)).map (Value.int .u8)).toArray 36))
    rw [← HW1.out, show w.heap.size = GH from HGH.out.symm]
    clear HW1
    try dsimp only [Act.put]
    go_wp2_with fail
    refine HCA.out.mono ?_
    rintro e w2 ⟨rfl, rfl⟩
    go_wp2_with fail
    refine HCA.out.mono ?_
    rintro e w2 ⟨rfl, rfl⟩
    go_wp2_with fail
    refine HHO.out.mono ?_
    rintro e w2 ⟨rfl, rfl⟩
    go_wp2_with fail
    refine HDA.out.mono ?_
    rintro e w7 ⟨rfl, hb7⟩
    have R7 := Lib.hid (IRow.below R1.out hb7 (VRow.lt (vs := (List.replicate 32 (0 : Int)).map (Value.int .u8)) R1.out))
    have B7 := Lib.hid (B1.out.trans (hb7.mono B1.out.size))
    clear hb7
    unfold digV
    obtain ⟨NS, hNS⟩ : ∃ z, z = nums DS := ⟨_, rfl⟩

    rw [← hNS] at HI HL  ⊢
    have HNS := Lib.hid hNS
    clear hNS
    go_wp2_with (first
      | (refine wpList_store_irow rfl 36 (.tmp 6) (.tmp 27) rfl (g := GH) (t := 36) (k := .u8) (xs := List.replicate 32 0) (ys := NS) rfl rfl R7.out HI.out HL.out ?_))
    refine bodyPost_ret (v := digV DS) ?_ rfl ⟨rfl, below_setRow B7.out (by have := HGH.out; omega) _⟩
    unfold digV
    rw [← HNS.out]
    obtain ⟨fr, hrw⟩ : ∃ fr, (w7.setRow GH (NS.map (Value.int .u8)).toArray).heap[GH]? = some (.cells (NS.map (Value.int .u8)).toArray 36 fr) := ⟨_, setRow_irow R7.out⟩
    exact results_cell_row Tryd.results41 _ _ GH 36 (NS.map (Value.int .u8)).toArray fr _ rfl hrw Tryd.underlying36 rfl (by rw [List.size_toArray, List.length_map]; exact HI.out)
  · as_aux_lemma =>
    rw [show outsD (X.map (·.p)) i k = zeroB by
      unfold outsD
      rw [if_neg (by rw [h3]; decide)]
      by_cases h00 : 0 ≤ i
      · rw [if_pos ⟨h3, h00⟩, List.getElem?_map, List.getElem?_eq_none (by omega)]
        rfl
      · rw [if_neg (fun q => h00 q.2)]]
    have hca := HC.out w1
    rw [h3] at hca
    have HCA := Lib.hid hca
    have hho := hasOut_any A X.length cp i w1
    rw [decide_eq_false hio] at hho
    have HHO := Lib.hid hho
    clear HC h3 hca hs hho
    obtain ⟨DS, hDS⟩ : ∃ z, z = zeroB := ⟨_, rfl⟩
    have hbz := build_zh
    rw [← hDS] at hbz ⊢
    have HDL := Lib.hid (show DS.length = 32 by rw [hDS]; rfl)
    have HBZ := Lib.hid hbz
    clear hbz hDS
    have HI := Lib.hid (show (Tryd.prog.info? 36).map (·.size) = some (nums DS).length by rw [nums_length, HDL.out]; exact info_h)
    have HL := Lib.hid (show (List.replicate 32 (0 : Int)).length = (nums DS).length by rw [nums_length, HDL.out]; rfl)
    go_enter Tryd.func41, Tryd.ntmps41
    go_upto_region 1 with fail
    change Code.wp _ _ _ _ (w.alloc (.cells ((List.replicate 32 (0 : Int)).map (Value.int .u8)).toArray 36))
    rw [← HW1.out, show w.heap.size = GH from HGH.out.symm]
    clear HW1
    try dsimp only [Act.put]
    go_wp2_with fail
    refine HCA.out.mono ?_
    rintro e w2 ⟨rfl, rfl⟩
    go_wp2_with fail
    refine HCA.out.mono ?_
    rintro e w2 ⟨rfl, rfl⟩
    go_wp2_with fail
    refine HHO.out.mono ?_
    rintro e w2 ⟨rfl, rfl⟩
    go_upto_region 5 with go_big_skip
    obtain ⟨NS, hNS⟩ : ∃ z, z = nums DS := ⟨_, rfl⟩
    unfold digV at HBZ
    rw [← hNS] at HI HL HBZ
    have HNS := Lib.hid hNS
    clear hNS
    go_wp2_with (first
      | (refine wpList_build_lit rfl 36 _ (.agg (NS.map (Value.int .u8)).toArray) rfl (fun W => by (simp only [List.map_toArray, List.map_nil]; exact HBZ.out W)) ?_)
      | (refine wpList_store_irow rfl 36 (.tmp 6) (.tmp 28) rfl (g := GH) (t := 36) (k := .u8) (xs := List.replicate 32 0) (ys := NS) rfl rfl R1.out HI.out HL.out ?_))
    refine bodyPost_ret (v := digV DS) ?_ rfl ⟨rfl, below_setRow B1.out (by have := HGH.out; omega) _⟩
    unfold digV
    rw [← HNS.out]
    obtain ⟨fr, hrw⟩ : ∃ fr, (w1.setRow GH (NS.map (Value.int .u8)).toArray).heap[GH]? = some (.cells (NS.map (Value.int .u8)).toArray 36 fr) := ⟨_, setRow_irow R1.out⟩
    exact results_cell_row Tryd.results41 _ _ GH 36 (NS.map (Value.int .u8)).toArray fr _ rfl hrw Tryd.underlying36 rfl (by rw [List.size_toArray, List.length_map]; exact HI.out)
theorem outsA_any (B : Nat) (v : Value) (X : List OutV) (i k : Int) (w : World) (hX : OutsR w B v X) (hB : B ≤ w.heap.size) (hn : X.length ≤ 20) (hs : ∀ x ∈ X, x.p.sc.length ≤ 1000) (h0 : 0 ≤ k) (h1 : k < 256) (hroots : Roots w) :
    Calls Tryd.prog 41 #[v, .int .i64 i, .int .u8 k] w fun e w' => e = .returned (digV (outsD (X.map (·.p)) i k)) ∧ Below w.heap.size w w' := by
  by_cases h3 : chosenF k = 3
  · exact outs3_any B v X i k w hX hB hn hs h0 h1 h3 hroots
  · exact outs_any B v X i k w hX hB hn hs h0 h1 h3 hroots
end Go.Proofs.YthelmclpmalofaaDoor

/-
  sighash.Witness at every kind. Conditions: sizes within the reach.
-/
namespace Go.Proofs.YthelmclpmalofaaDoor
open Go.RowKit

set_option maxRecDepth 100000 in
set_option maxHeartbeats 6400000 in
theorem witnessA_any (B : Nat) (t : TxP) (iv ov sv : Value) (X : List InV) (Y : List OutV) (i : Int) (sc : List UInt8) (val k : Int) (w : World) (ht : TxR w B t iv ov X Y) (hsv : Byt w B sv sc) (hB : B ≤ w.heap.size)
    (hf : t.fit) (hs : sc.length ≤ 1000) (hv0 : -9223372036854775808 ≤ val) (hv1 : val ≤ 9223372036854775807) (h0 : 0 ≤ k) (h1 : k < 256) (hroots : Roots w) :
    Calls Tryd.prog 18 #[.agg (txC t iv ov).toArray, .int .i64 i, sv, .int .i64 val, .int .u8 k] w fun e w' => e = .returned (digV (witD t i sc val k)) ∧ Below w.heap.size w w' := by
  obtain ⟨A1, cp1, hif, _, _⟩ := ht.ins.row.form
  obtain ⟨A2, cp2, hof, _, _⟩ := ht.outs.row.form
  subst hif hof
  obtain ⟨As, cs, hsf⟩ := hsv.form
  subst hsf
  have hnX := ht.nins
  have hxc : (X.length : Int) ≤ 20 := by have := hf.ni; omega
  have hyc : Y.length ≤ 20 := by have := hf.no; have := ht.nouts; omega
  obtain ⟨TC, hTC⟩ : ∃ z, z = txC t (.slice A1 X.length cp1) (.slice A2 Y.length cp2) := ⟨_, rfl⟩
  have t1 : TC[1]? = some (.slice A1 X.length cp1) := by rw [hTC]; rfl
  have t2 : TC[2]? = some (.slice A2 Y.length cp2) := by rw [hTC]; rfl
  rw [← hTC]
  obtain ⟨nX, hnX2⟩ : ∃ n, n = X.length := ⟨_, rfl⟩
  obtain ⟨nY, hnY2⟩ : ∃ n, n = Y.length := ⟨_, rfl⟩
  obtain ⟨nS, hnS2⟩ : ∃ n, n = sc.length := ⟨_, rfl⟩
  rw [← hnX2] at hxc t1 ht hTC hnX
  rw [← hnY2] at t2 ht hTC
  rw [← hnS2] at hsv
  rw [← hnS2]
  have at1 := WbAt.new w TC (.slice As nS cs) val k
  obtain ⟨w1, hw1⟩ : ∃ z, z = (((((w.alloc (.cells TC.toArray 26)).alloc (.cells #[.slice As nS cs] 27)).alloc (.cells #[.int .i64 val] 2)).alloc (.cells #[.int .u8 k] 5)).alloc (.cells ((List.replicate 32 (0 : Int)).map (Value.int .u8)).toArray 36)) := ⟨_, rfl⟩
  rw [← hw1] at at1
  obtain ⟨GT, hGT⟩ : ∃ z, z = w.heap.size := ⟨_, rfl⟩
  obtain ⟨GC, hGC⟩ : ∃ z, z = w.heap.size + 1 := ⟨_, rfl⟩
  obtain ⟨GV, hGV⟩ : ∃ z, z = w.heap.size + 2 := ⟨_, rfl⟩
  obtain ⟨GK, hGK⟩ : ∃ z, z = w.heap.size + 3 := ⟨_, rfl⟩
  obtain ⟨GH, hGH⟩ : ∃ z, z = w.heap.size + 4 := ⟨_, rfl⟩
  have at1' : WbAt w w1 GT GC GV GK GH TC (.slice As nS cs) val k := by rw [hGT, hGC, hGV, hGK, hGH]; exact at1
  have A1' := Lib.hid at1'
  have HW1 := Lib.hid hw1
  have HGT := Lib.hid hGT
  have HGC := Lib.hid hGC
  have HGV := Lib.hid hGV
  have HGK := Lib.hid hGK
  have HGH := Lib.hid hGH
  have HT := Lib.hid ht
  have HS := Lib.hid hsv
  have HB := Lib.hid hB
  have HF := Lib.hid hf
  have HSL := Lib.hid hs
  have HRO := Lib.hid hroots
  have T1 := Lib.hid t1
  have T2 := Lib.hid t2
  have HTC := Lib.hid hTC
  have HNX := Lib.hid hnX
  have HNX2 := Lib.hid hnX2
  have HNY2 := Lib.hid hnY2
  have HYC := Lib.hid hyc
  clear at1 at1' hw1 hGT hGC hGV hGK hGH ht hsv hB hf hs hroots t1 t2 hTC hnX hnX2 hnY2 hnS2 hyc
  by_cases hin : 0 ≤ i ∧ i < (nX : Int)
  · as_aux_lemma =>
    obtain ⟨n, rfl⟩ : ∃ n : Nat, i = n := ⟨i.toNat, by omega⟩
    have hnl : n < nX := by omega
    obtain ⟨x, hx⟩ : ∃ x, X[n]? = some x := ⟨_, List.getElem?_eq_getElem (by rw [← HNX2.out]; exact hnl)⟩
    have hpx : t.ins[n]? = some x.p := by rw [← HT.out.ei, List.getElem?_map, hx]; rfl
    have hd : witD t (n : Int) sc val k = sha256 (sha256 (witM t x.p sc val k (prevsD t.ins k) (seqsD t.ins k) (outsD t.outs (n : Int) k))) := by unfold witD; rw [if_pos (by omega), Int.toNat_natCast, hpx]
    have hha := hasIn_any A1 nX cp1 (n : Int) w1
    rw [decide_eq_true hin] at hha
    rw [hd]
    have hso := fun y hy => (HF.out.so y hy).2
    obtain ⟨PD, hPD⟩ : ∃ z, z = prevsD t.ins k := ⟨_, rfl⟩
    obtain ⟨SD, hSD⟩ : ∃ z, z = seqsD t.ins k := ⟨_, rfl⟩
    obtain ⟨OD, hOD⟩ : ∃ z, z = outsD t.outs (n : Int) k := ⟨_, rfl⟩
    have lP : PD.length = 32 := by rw [hPD]; exact prevsD_len _ _
    have lS : SD.length = 32 := by rw [hSD]; exact seqsD_len _ _
    have lO : OD.length = 32 := by rw [hOD]; exact outsD_len _ _ _
    have hcP : ∀ W, Below w1.heap.size w1 W → Calls Tryd.prog 39 #[.slice A1 nX cp1, .int .u8 k] W fun e w' => e = .returned (.agg ((nums PD).map (Value.int .u8)).toArray) ∧ Below W.heap.size W w' := fun W hW => by
      have b := A1'.out.bel.trans (hW.mono A1'.out.bel.size)
      have q := prevs_any B _ X k W (HT.out.ins.below (b.mono HB.out)) (Nat.le_trans HB.out b.size) (by have := HNX2.out; omega) h0 h1 (HRO.out.below b)
      rw [HT.out.ei, ← hPD] at q
      exact q
    have hcS : ∀ W, Below w1.heap.size w1 W → Calls Tryd.prog 40 #[.slice A1 nX cp1, .int .u8 k] W fun e w' => e = .returned (.agg ((nums SD).map (Value.int .u8)).toArray) ∧ Below W.heap.size W w' := fun W hW => by
      have b := A1'.out.bel.trans (hW.mono A1'.out.bel.size)
      have q := seqs_any B _ X k W (HT.out.ins.below (b.mono HB.out)) (Nat.le_trans HB.out b.size) (by have := HNX2.out; omega) h0 h1 (HRO.out.below b)
      rw [HT.out.ei, ← hSD] at q
      exact q
    have hcO : ∀ W, Below w1.heap.size w1 W → Calls Tryd.prog 41 #[.slice A2 nY cp2, .int .i64 (n : Int), .int .u8 k] W fun e w' => e = .returned (.agg ((nums OD).map (Value.int .u8)).toArray) ∧ Below W.heap.size W w' := fun W hW => by
      have b := A1'.out.bel.trans (hW.mono A1'.out.bel.size)
      have q := outsA_any B _ Y (n : Int) k W (HT.out.outs.below (b.mono HB.out)) (Nat.le_trans HB.out b.size) HYC.out (fun y hy => hso y.p (by rw [← HT.out.eo]; exact List.mem_map_of_mem hy)) h0 h1 (HRO.out.below b)
      rw [HT.out.eo, ← hOD] at q
      exact q
    obtain ⟨b, o, cp', ef, hnc, hcm, hbl, hrg, hiy⟩ := (HT.out.ins.below (A1'.out.bel.mono HB.out)).at hx
    injection ef with ef1 ef2 ef3
    subst ef1 ef3
    have hok := hiy.ok
    have hcl := inC_length hok
    have hc1 := arr_one hiy.one
    obtain ⟨C, hC⟩ : ∃ C, C = inC x := ⟨_, rfl⟩
    rw [← hC] at hrg hcl hc1
    have hz := zero_tin
    obtain ⟨ZI, hZI⟩ : ∃ z, z = zTin := ⟨_, rfl⟩
    have hzl : ZI.length = 36 := by rw [hZI]; rfl
    rw [← hZI] at hz
    obtain ⟨r1, r2⟩ := box_row w1 49 ZI C
    have HSC := Lib.hid (show (Tryd.prog.info? 49).map (·.size) = some C.length by rw [hcl]; exact size_tin)
    have HLC := Lib.hid (show ZI.length = C.length by rw [hzl, hcl])
    have HC1 := Lib.hid hc1
    have HRG := Lib.hid hrg
    have HC := Lib.hid hC
    have HHA := Lib.hid hha
    have HCP := Lib.hid hcP
    have HCS := Lib.hid hcS
    have HCO := Lib.hid hcO
    have LP := Lib.hid lP
    have LS := Lib.hid lS
    have LO := Lib.hid lO
    have HOK := Lib.hid hok
    have HPD := Lib.hid hPD
    have HSD := Lib.hid hSD
    have HOD := Lib.hid hOD
    have hnc' : nX ≤ cp1 := by rw [HNX2.out]; exact hnc
    clear hcl hc1 hrg hC hha hcP hcS hcO lP lS lO hok hd hpx hx hin hiy hZI hzl hnc hcm hbl ef2 hPD hSD hOD hso
    go_enter Tryd.func18, Tryd.ntmps18
    go_upto_region 1 with fail
    change Code.wp _ _ _ _ (((((w.alloc (.cells TC.toArray 26)).alloc (.cells #[.slice As nS cs] 27)).alloc (.cells #[.int .i64 val] 2)).alloc (.cells #[.int .u8 k] 5)).alloc (.cells ((List.replicate 32 (0 : Int)).map (Value.int .u8)).toArray 36))
    rw [← HW1.out, show w.heap.size + 1 + 1 + 1 + 1 = GH from HGH.out.symm, show w.heap.size + 1 + 1 + 1 = GK from HGK.out.symm, show w.heap.size + 1 + 1 = GV from HGV.out.symm, show w.heap.size + 1 = GC from HGC.out.symm, show w.heap.size = GT from HGT.out.symm]
    clear HW1
    try dsimp only [Act.put]
    have c1 := A1'.out.t.cell T1.out
    go_wp2_with fail
    refine HHA.out.mono ?_
    rintro e w2 ⟨rfl, rfl⟩
    go_upto_region 4 with (first
      | (refine wpList_load_mid rfl 49 _ rfl b (o + n * 36) rfl C _ HRG.out Tryd.underlying49 rfl HSC.out ?_)
      | (refine wpList_store_vrow rfl 49 _ _ rfl rfl rfl (VRow.new _ _ ZI) HSC.out HLC.out HC1.out ?_))
    change Code.wp _ _ _ _ ((w1.alloc (.cells ZI.toArray 49)).setRow w1.heap.size C.toArray)
    obtain ⟨w4, hw4⟩ : ∃ z, z = ((w1.alloc (.cells ZI.toArray 49)).setRow w1.heap.size C.toArray) := ⟨_, rfl⟩
    obtain ⟨GI, hGI⟩ : ∃ z, z = w1.heap.size := ⟨_, rfl⟩
    rw [← hw4] at r1 r2 ⊢
    rw [← hGI] at r1 ⊢
    have R1 := Lib.hid r1
    have R2 := Lib.hid r2
    have A4 := Lib.hid (A1'.out.below r2)
    clear r1 r2 hw4 hGI c1
    have hS0 : w4.drew.cell? ⟨GT, 1, none⟩ = some (.slice (some ⟨b, o, none⟩) nX cp1) ∧ w4.drew.cell? ⟨GT, 2, none⟩ = some (.slice A2 nY cp2) ∧ w4.drew.cell? ⟨GK, 0, none⟩ = some (.int .u8 k) := ⟨A4.out.t.cell T1.out, A4.out.t.cell T2.out, A4.out.k.cell (show [Value.int .u8 k][0]? = some (.int .u8 k) from rfl)⟩
    have hSB : ∀ W, Below w4.drew.heap.size w4.drew W → (W.cell? ⟨GT, 1, none⟩ = some (.slice (some ⟨b, o, none⟩) nX cp1) ∧ W.cell? ⟨GT, 2, none⟩ = some (.slice A2 nY cp2) ∧ W.cell? ⟨GK, 0, none⟩ = some (.int .u8 k)) := fun W h =>
      ⟨(h.cell (p := ⟨GT, 1, none⟩) A4.out.t.lt).trans hS0.1, (h.cell (p := ⟨GT, 2, none⟩) A4.out.t.lt).trans hS0.2.1, (h.cell (p := ⟨GK, 0, none⟩) A4.out.k.lt).trans hS0.2.2⟩
    have HS0 := Lib.hid hS0
    have HSB := Lib.hid hSB
    have HCP4 := Lib.hid (fun W (h : Below w4.drew.heap.size w4.drew W) => HCP.out W (R2.out.trans (((Below.refl _ w4).drew.trans h).mono R2.out.size)))
    have HCS4 := Lib.hid (fun W (h : Below w4.drew.heap.size w4.drew W) => HCS.out W (R2.out.trans (((Below.refl _ w4).drew.trans h).mono R2.out.size)))
    have HCO4 := Lib.hid (fun W (h : Below w4.drew.heap.size w4.drew W) => HCO.out W (R2.out.trans (((Below.refl _ w4).drew.trans h).mono R2.out.size)))
    clear hS0 hSB HCP HCS HCO
    refine wp_region_held_drew (S := (fun w' => w'.cell? ⟨GT, 1, none⟩ = some (.slice (some ⟨b, o, none⟩) nX cp1) ∧ w'.cell? ⟨GT, 2, none⟩ = some (.slice A2 nY cp2) ∧ w'.cell? ⟨GK, 0, none⟩ = some (.int .u8 k))) (by kernel_rfl) ?_ (fun hHeld => ?_)
    · exact HS0.out
    refine wpAnyH_take (i := 0) (oi := { dst := some 26, op := Go.Op.fieldAddr 26 (Go.Operand.tmp 5) 1, type := 0, pos := "witness.go:14", after := #[], guard := none }) (v := ?av0) rfl (by kernel_rfl) (by kernel_rfl) (by kernel_rfl) (fun _ _ _ h => h) (Or.inl ⟨by rfl, ?ay0⟩) (by assumption) ?ar0
    case ay0 => (intro w hSw; (try dsimp only at hSw); go_simp; try (with_reducible rfl))
    case ar0 =>
    try simp only [Act.put, List.setIfInBounds_toArray, List.set_cons_zero, List.set_cons_succ]
    refine wpAnyH_take (i := 1) (oi := { dst := some 27, op := Go.Op.load 22 (Go.Operand.tmp 26), type := 22, pos := "witness.go:14", after := #[{ on := 0, ground := Go.Ground.data }], guard := none }) (v := (.slice (some ⟨b, o, none⟩) nX cp1)) rfl (by kernel_rfl) (by kernel_rfl) (by kernel_rfl) (fun _ _ _ h => h) (Or.inl ⟨by rfl, ?ay1⟩) (by assumption) ?ar1
    case ay1 => (intro w hSw; (try dsimp only at hSw); go_simp; try (simp [hSw.1]))
    case ar1 =>
    try simp only [Act.put, List.setIfInBounds_toArray, List.set_cons_zero, List.set_cons_succ]
    refine wpAnyH_take (i := 2) (oi := { dst := some 28, op := Go.Op.load 5 (Go.Operand.tmp 9), type := 5, pos := "witness.go:14", after := #[], guard := none }) (v := (.int .u8 k)) rfl (by kernel_rfl) (by kernel_rfl) (by kernel_rfl) (fun _ _ _ h => h) (Or.inl ⟨by rfl, ?ay2⟩) (by assumption) ?ar2
    case ay2 => (intro w hSw; (try dsimp only at hSw); go_simp; try (simp [hSw.2.2]))
    case ar2 =>
    try simp only [Act.put, List.setIfInBounds_toArray, List.set_cons_zero, List.set_cons_succ]
    refine wpAnyH_take (i := 4) (oi := { dst := some 30, op := Go.Op.fieldAddr 26 (Go.Operand.tmp 5) 1, type := 0, pos := "witness.go:14", after := #[], guard := none }) (v := ?av4) rfl (by kernel_rfl) (by kernel_rfl) (by kernel_rfl) (fun _ _ _ h => h) (Or.inl ⟨by rfl, ?ay4⟩) (by assumption) ?ar4
    case ay4 => (intro w hSw; (try dsimp only at hSw); go_simp; try (with_reducible rfl))
    case ar4 =>
    try simp only [Act.put, List.setIfInBounds_toArray, List.set_cons_zero, List.set_cons_succ]
    refine wpAnyH_take (i := 5) (oi := { dst := some 31, op := Go.Op.load 22 (Go.Operand.tmp 30), type := 22, pos := "witness.go:14", after := #[{ on := 4, ground := Go.Ground.data }], guard := none }) (v := (.slice (some ⟨b, o, none⟩) nX cp1)) rfl (by kernel_rfl) (by kernel_rfl) (by kernel_rfl) (fun _ _ _ h => h) (Or.inl ⟨by rfl, ?ay5⟩) (by assumption) ?ar5
    case ay5 => (intro w hSw; (try dsimp only at hSw); go_simp; try (simp [hSw.1]))
    case ar5 =>
    try simp only [Act.put, List.setIfInBounds_toArray, List.set_cons_zero, List.set_cons_succ]
    refine wpAnyH_take (i := 6) (oi := { dst := some 32, op := Go.Op.load 5 (Go.Operand.tmp 9), type := 5, pos := "witness.go:14", after := #[], guard := none }) (v := (.int .u8 k)) rfl (by kernel_rfl) (by kernel_rfl) (by kernel_rfl) (fun _ _ _ h => h) (Or.inl ⟨by rfl, ?ay6⟩) (by assumption) ?ar6
    case ay6 => (intro w hSw; (try dsimp only at hSw); go_simp; try (simp [hSw.2.2]))
    case ar6 =>
    try simp only [Act.put, List.setIfInBounds_toArray, List.set_cons_zero, List.set_cons_succ]
    refine wpAnyH_take (i := 8) (oi := { dst := some 34, op := Go.Op.fieldAddr 26 (Go.Operand.tmp 5) 2, type := 0, pos := "witness.go:14", after := #[], guard := none }) (v := ?av8) rfl (by kernel_rfl) (by kernel_rfl) (by kernel_rfl) (fun _ _ _ h => h) (Or.inl ⟨by rfl, ?ay8⟩) (by assumption) ?ar8
    case ay8 => (intro w hSw; (try dsimp only at hSw); go_simp; try (with_reducible rfl))
    case ar8 =>
    try simp only [Act.put, List.setIfInBounds_toArray, List.set_cons_zero, List.set_cons_succ]
    refine wpAnyH_take (i := 9) (oi := { dst := some 35, op := Go.Op.load 23 (Go.Operand.tmp 34), type := 23, pos := "witness.go:14", after := #[{ on := 8, ground := Go.Ground.data }], guard := none }) (v := (.slice A2 nY cp2)) rfl (by kernel_rfl) (by kernel_rfl) (by kernel_rfl) (fun _ _ _ h => h) (Or.inl ⟨by rfl, ?ay9⟩) (by assumption) ?ar9
    case ay9 => (intro w hSw; (try dsimp only at hSw); go_simp; try (simp [hSw.2.1]))
    case ar9 =>
    try simp only [Act.put, List.setIfInBounds_toArray, List.set_cons_zero, List.set_cons_succ]
    refine wpAnyH_take (i := 10) (oi := { dst := some 36, op := Go.Op.move (Go.Operand.tmp 1), type := 3, pos := "witness.go:14", after := #[], guard := none }) (v := ?av10) rfl (by kernel_rfl) (by kernel_rfl) (by kernel_rfl) (fun _ _ _ h => h) (Or.inl ⟨by rfl, ?ay10⟩) (by assumption) ?ar10
    case ay10 => (intro w hSw; (try dsimp only at hSw); go_simp; try (with_reducible rfl))
    case ar10 =>
    try simp only [Act.put, List.setIfInBounds_toArray, List.set_cons_zero, List.set_cons_succ]
    refine wpAnyH_take (i := 11) (oi := { dst := some 37, op := Go.Op.load 5 (Go.Operand.tmp 9), type := 5, pos := "witness.go:14", after := #[], guard := none }) (v := (.int .u8 k)) rfl (by kernel_rfl) (by kernel_rfl) (by kernel_rfl) (fun _ _ _ h => h) (Or.inl ⟨by rfl, ?ay11⟩) (by assumption) ?ar11
    case ay11 => (intro w hSw; (try dsimp only at hSw); go_simp; try (simp [hSw.2.2]))
    case ar11 =>
    try simp only [Act.put, List.setIfInBounds_toArray, List.set_cons_zero, List.set_cons_succ]
    refine wst_0_000 (w0 := w4.drew) HSB.out HCP4.out HCS4.out HCO4.out (hash3 LP.out) (hash3 LS.out) (hash3 LO.out) (fun w5 px py pz hb5 fP fQ fO => ?_) _ (by kernel_rfl) _ (Below.refl _ _)
    have hb45 : Below w4.heap.size w4 w5 := (Below.refl _ w4).drew.trans hb5
    have A5 := Lib.hid (A4.out.below hb45)
    have I5 := Lib.hid (R1.out.below hb45 R1.out.lt)
    have FP := Lib.hid fP
    have FQ := Lib.hid fQ
    have FO := Lib.hid fO
    have hcl : ∀ g W, WrT w5 W w5.heap.size g [] → Calls Tryd.prog 42 (#[.pointer (some ⟨g, 0, none⟩)] ++ #[.pointer (some ⟨GT, 0, none⟩), .pointer (some ⟨px, 0, none⟩), .pointer (some ⟨py, 0, none⟩), .pointer (some ⟨GI, 0, none⟩), .pointer (some ⟨GC, 0, none⟩), .pointer (some ⟨GV, 0, none⟩), .pointer (some ⟨pz, 0, none⟩), .pointer (some ⟨GK, 0, none⟩)]) W
        (WrD w5 w5.heap.size g W (witM t x.p sc val k PD SD OD)) := fun g W h =>
      witClo_any GT px py GI GC GV pz GK t _ _ _ x PD SD OD sc val k W h ⟨by rw [← HTC.out]; exact A5.out.t, FP.out.2, FQ.out.2, by rw [← HC.out]; exact I5.out, A5.out.c, A5.out.v, FO.out.2, A5.out.k, A5.out.t.lt, FP.out.2.lt, FQ.out.2.lt, I5.out.lt, A5.out.c.lt, A5.out.v.lt, FO.out.2.lt, A5.out.k.lt⟩
        HT.out.ok HOK.out ((HS.out.below (A5.out.bel.mono HB.out)).more (Nat.le_trans HB.out A5.out.bel.size)) HSL.out LP.out LS.out LO.out hv0 hv1 h0 h1
    have HDG := Lib.hid (digest_any 42 #[.pointer (some ⟨GT, 0, none⟩), .pointer (some ⟨px, 0, none⟩), .pointer (some ⟨py, 0, none⟩), .pointer (some ⟨GI, 0, none⟩), .pointer (some ⟨GC, 0, none⟩), .pointer (some ⟨GV, 0, none⟩), .pointer (some ⟨pz, 0, none⟩), .pointer (some ⟨GK, 0, none⟩)]
      (witM t x.p sc val k PD SD OD) w5 (HRO.out.below A5.out.bel) (witM_le HOK.out HSL.out LP.out LS.out LO.out) (fun args W => rfl) hcl)
    clear hcl hb5 hb45 fP fQ fO HCP4 HCS4 HCO4 HS0 HSB
    obtain ⟨DS, hDS⟩ : ∃ z, z = sha256 (sha256 (witM t x.p sc val k PD SD OD)) := ⟨_, rfl⟩
    rw [← hDS] at HDG
    have HDS := Lib.hid hDS
    have hdl : DS.length = 32 := by rw [hDS, sha256_length]
    have HI := Lib.hid (hash3 hdl)
    clear hDS hdl
    go_wp2_with fail
    refine HDG.out.mono ?_
    rintro e w7 ⟨rfl, hb7⟩
    have A7 := Lib.hid (A5.out.below hb7)
    clear hb7
    unfold digV
    obtain ⟨NS, hNS⟩ : ∃ z, z = (nums DS).map (Value.int .u8) := ⟨_, rfl⟩
    rw [← hNS] at HI ⊢
    have HNS := Lib.hid hNS
    clear hNS
    have r7 : IRow w7 GH 36 .u8 (List.replicate 32 0) := A7.out.h
    have R7 := Lib.hid r7
    clear r7
    go_wp2_with (first
      | (refine wpList_store_vrow rfl 36 (.tmp 10) (.tmp 40) rfl (g := GH) (t := 36) (vs := (List.replicate 32 (0 : Int)).map (Value.int .u8)) (us := NS) rfl rfl A7.out.h HI.out.1 HI.out.2.1 HI.out.2.2 ?_))
    refine bodyPost_ret (v := digV DS) ?_ rfl ⟨by rw [HDS.out, HPD.out, HSD.out, HOD.out], below_setRow A7.out.bel (by have := HGH.out; omega) _⟩
    unfold digV
    rw [← HNS.out]
    obtain ⟨fr, hrw⟩ : ∃ fr, (w7.setRow GH NS.toArray).heap[GH]? = some (.cells NS.toArray 36 fr) := ⟨_, A7.out.h.setRow NS⟩
    exact results_cell_row Tryd.results18 _ _ GH 36 NS.toArray fr _ rfl hrw Tryd.underlying36 rfl (by rw [List.size_toArray]; exact HI.out.1)
  · as_aux_lemma =>
    have hd : witD t i sc val k = oneB := by
      unfold witD
      by_cases hi0 : 0 ≤ i
      · rw [if_pos hi0, List.getElem?_eq_none (by rw [← HNX.out]; omega)]
      · rw [if_neg hi0]
    have hha := hasIn_any A1 nX cp1 i w1
    rw [decide_eq_false hin] at hha
    rw [hd]
    have HHA := Lib.hid hha
    clear hha hd hin
    go_enter Tryd.func18, Tryd.ntmps18
    go_upto_region 1 with fail
    change Code.wp _ _ _ _ (((((w.alloc (.cells TC.toArray 26)).alloc (.cells #[.slice As nS cs] 27)).alloc (.cells #[.int .i64 val] 2)).alloc (.cells #[.int .u8 k] 5)).alloc (.cells ((List.replicate 32 (0 : Int)).map (Value.int .u8)).toArray 36))
    rw [← HW1.out, show w.heap.size + 1 + 1 + 1 + 1 = GH from HGH.out.symm, show w.heap.size + 1 + 1 + 1 = GK from HGK.out.symm, show w.heap.size + 1 + 1 = GV from HGV.out.symm, show w.heap.size + 1 = GC from HGC.out.symm, show w.heap.size = GT from HGT.out.symm]
    clear HW1
    try dsimp only [Act.put]
    have c1 := A1'.out.t.cell T1.out
    go_wp2_with fail
    refine HHA.out.mono ?_
    rintro e w2 ⟨rfl, rfl⟩
    go_wp2_with fail
    refine (nothing_any w1).mono ?_
    rintro e w3 ⟨rfl, hb3⟩
    have A3 := Lib.hid (A1'.out.below hb3)
    have HI := Lib.hid (hash3 (DS := oneB) rfl)
    clear hb3 c1
    unfold digV
    obtain ⟨NS, hNS⟩ : ∃ z, z = (nums oneB).map (Value.int .u8) := ⟨_, rfl⟩
    rw [← hNS] at HI ⊢
    have HNS := Lib.hid hNS
    clear hNS
    go_wp2_with (first
      | (refine wpList_store_vrow rfl 36 (.tmp 10) (.tmp 20) rfl (g := GH) (t := 36) (vs := (List.replicate 32 (0 : Int)).map (Value.int .u8)) (us := NS) rfl rfl A3.out.h HI.out.1 HI.out.2.1 HI.out.2.2 ?_))
    refine bodyPost_ret (v := digV oneB) ?_ rfl ⟨rfl, below_setRow A3.out.bel (by have := HGH.out; omega) _⟩
    unfold digV
    rw [← HNS.out]
    obtain ⟨fr, hrw⟩ : ∃ fr, (w3.setRow GH NS.toArray).heap[GH]? = some (.cells NS.toArray 36 fr) := ⟨_, A3.out.h.setRow NS⟩
    exact results_cell_row Tryd.results18 _ _ GH 36 NS.toArray fr _ rfl hrw Tryd.underlying36 rfl (by rw [List.size_toArray]; exact HI.out.1)
end Go.Proofs.YthelmclpmalofaaDoor

/-
  Known; the laws' own few and short; what is fixed (awake). Conditions: the roots are laid.
-/
namespace Go.Proofs.YthelmclpmalofaaDoor
open Go.RowKit

def knownF (k : Int) : Bool := decide (k % 128 = 1 ∨ k % 128 = 2 ∨ k % 128 = 3)
theorem andNot_128 : ∀ n : Nat, n < 256 → bits .andNot .u8 (n : Int) 128 = (n : Int) % 128 := by decide +kernel
theorem known_any (k : Int) (w : World) (h0 : 0 ≤ k) (h1 : k < 256) :
    Calls Tryd.prog 16 #[.int .u8 k] w fun e w' => e = .returned (.bool (knownF k)) ∧ w = w' := by
  obtain ⟨n, rfl⟩ : ∃ n : Nat, k = n := ⟨k.toNat, by omega⟩
  have hk := andNot_128 n (by omega)
  obtain ⟨m, hm⟩ : ∃ m, m = (n : Int) % 128 := ⟨_, rfl⟩
  rw [← hm] at hk
  by_cases c1 : m = 1
  · have hc : knownF (n : Int) = true := decide_eq_true (.inl (by rw [← hm]; exact c1))
    rw [hc]
    subst c1
    clear hc hm
    go_enter Tryd.func16, Tryd.ntmps16
    go_wp2
    go_ret
    exact ⟨rfl, rfl⟩
  · by_cases c2 : m = 2
    · have hc : knownF (n : Int) = true := decide_eq_true (.inr (.inl (by rw [← hm]; exact c2)))
      rw [hc]
      subst c2
      clear hc hm c1
      go_enter Tryd.func16, Tryd.ntmps16
      go_wp2
      go_ret
      exact ⟨rfl, rfl⟩
    · by_cases c3 : m = 3
      · have hc : knownF (n : Int) = true := decide_eq_true (.inr (.inr (by rw [← hm]; exact c3)))
        rw [hc]
        subst c3
        clear hc hm c1 c2
        go_enter Tryd.func16, Tryd.ntmps16
        go_wp2
        go_ret
        exact ⟨rfl, rfl⟩
      · have hc : knownF (n : Int) = false := decide_eq_false (fun q => by rw [← hm] at q; exact q.elim c1 (fun q => q.elim c2 c3))
        rw [hc]
        have d1 : (m == 1) = false := by rw [beq_eq_false_iff_ne]; exact c1
        have d2 : (m == 2) = false := by rw [beq_eq_false_iff_ne]; exact c2
        have d3 : (m == 3) = false := by rw [beq_eq_false_iff_ne]; exact c3
        clear hc hm
        go_enter Tryd.func16, Tryd.ntmps16
        go_wp2
        go_ret
        exact ⟨rfl, rfl⟩
set_option maxHeartbeats 800000 in
/-- The first 300 bytes. -/
theorem lshort_any (B : Nat) (x : Value) (sc : List UInt8) (w : World) (hx : Byt w B x sc) :
    Calls Tryd.prog 9 #[x] w fun e w' => ∃ A n c sc', e = .returned (.slice A n c) ∧ n = sc'.length ∧ n ≤ 300 ∧ Byt w B (.slice A n c) sc' ∧ w = w' := by
  obtain ⟨A, c, hf⟩ := hx.form
  subst hf
  have hcap := hx.cap
  have HX := Lib.hid hx
  obtain ⟨nS, hnS⟩ : ∃ n, n = sc.length := ⟨_, rfl⟩
  rw [← hnS] at hcap HX
  rw [← hnS]
  have HN := Lib.hid hnS
  clear hx hnS
  by_cases h : 300 < nS
  · have d : decide ((300 : Int) < (nS : Int)) = true := decide_eq_true (by omega)
    have h3 : (300 : Int) ≤ (c : Int) := by omega
    go_enter Tryd.func9, Tryd.ntmps9
    go_wp2_with fail
    go_ret
    exact ⟨A, 300, c, sc.take 300, rfl, by rw [List.length_take]; have := HN.out; omega, Nat.le_refl _, HX.out.first (by have := HN.out; omega), rfl⟩
  · have d : decide ((300 : Int) < (nS : Int)) = false := decide_eq_false (by omega)
    go_enter Tryd.func9, Tryd.ntmps9
    go_wp2_with fail
    go_ret
    exact ⟨A, nS, c, sc, rfl, HN.out, by omega, HX.out, rfl⟩

theorem El.base {w : World} {b b' : Nat} {x : InV} (h : El w b x) (hb : b' ≤ b) : El w b' x := ⟨h.ok, own_le h.sc hb, h.wt.base hb, h.eq⟩
theorem ElO.base {w : World} {b b' : Nat} {x : OutV} (h : ElO w b x) (hb : b' ≤ b) : ElO w b' x := ⟨h.ok, own_le h.sc hb⟩
/-- What few answers, in any world behind. -/
def FewIs (n m : Nat) (base : Nat) (w' : World) (v : Value) : Prop := ∃ t' iv' ov', v = .agg (txC t' iv' ov').toArray ∧ ∃ X' Y', t'.ok ∧ InsO w' base iv' X' ∧ OutsO w' base ov' Y' ∧ (∀ x ∈ X', El w' base x) ∧ (∀ y ∈ Y', ElO w' base y) ∧ X'.map (·.p) = t'.ins ∧ Y'.map (·.p) = t'.outs ∧ (∀ x ∈ X', x.in n m) ∧ X'.length ≤ n ∧ (∀ y ∈ Y', y.p.sc.length ≤ m) ∧ Y'.length ≤ n
set_option maxRecDepth 100000 in
set_option maxHeartbeats 3200000 in
theorem lfew_any (B : Nat) (t : TxP) (iv ov : Value) (X : List InV) (Y : List OutV) (w : World) (ht : TxR w B t iv ov X Y) (hB : B ≤ w.heap.size) (hz : TxSz X Y) :
    Calls Tryd.prog 8 #[.agg (txC t iv ov).toArray] w fun e w' => ∃ v, e = .returned v ∧ FewIs 5 300 w.heap.size w' v ∧ Below w.heap.size w w' := by
  obtain ⟨TC, hTC⟩ : ∃ z, z = txC t iv ov := ⟨_, rfl⟩
  have hTl : TC.length = 4 := by rw [hTC]; rfl
  obtain ⟨ZT, hZT⟩ : ∃ z, z = [Value.int .i32 0, .slice none 0 0, .slice none 0 0, .int .u32 0] := ⟨_, rfl⟩
  have hzt := zero_ttx
  rw [← hZT] at hzt
  have b1 : Below w.heap.size w (w.alloc (.cells TC.toArray 26)) := (Below.refl _ w).alloc (Nat.le_refl _) _
  have s1 : (w.alloc (.cells TC.toArray 26)).heap.size = w.heap.size + 1 := by simp
  obtain ⟨w1, hw1⟩ : ∃ z, z = (w.alloc (.cells TC.toArray 26)).alloc (.cells ZT.toArray 26) := ⟨_, rfl⟩
  have hb1 : Below w.heap.size w w1 := by rw [hw1]; exact b1.alloc (by rw [s1]; omega) _
  have r1 : VRow w1 w.heap.size 26 TC := by rw [hw1]; exact (VRow.new w 26 TC).below ((Below.refl _ _).alloc (Nat.le_refl _) _) (by rw [s1]; omega)
  have r2 : VRow w1 (w.heap.size + 1) 26 ZT := by rw [hw1, ← s1]; exact VRow.new _ _ _
  have hfw := few_any B 5 300 t iv ov X Y w1 (ht.below (hb1.mono hB)) (Nat.le_trans hB hb1.size) hz (by omega) (by omega)
  rw [← hTC]
  rw [← hTC] at hfw
  obtain ⟨G1, hG1⟩ : ∃ z, z = w.heap.size := ⟨_, rfl⟩
  obtain ⟨G2, hG2⟩ : ∃ z, z = w.heap.size + 1 := ⟨_, rfl⟩
  rw [← hG1] at r1
  rw [← hG2] at r2
  have HFW := Lib.hid hfw
  have R1 := Lib.hid r1
  have R2 := Lib.hid r2
  have HB1 := Lib.hid hb1
  have HW1 := Lib.hid hw1
  have HG1 := Lib.hid hG1
  have HG2 := Lib.hid hG2
  have HZL := Lib.hid (show ZT.length = 4 by rw [hZT]; rfl)
  have HTS := Lib.hid (show (Tryd.prog.info? 26).map (·.size) = some TC.length by rw [hTl]; exact size_tx)
  clear hTC hTl hZT b1 s1 hw1 hb1 r1 r2 hfw hG1 hG2 ht hB hz
  go_enter Tryd.func8, Tryd.ntmps8
  go_upto_region 1 with fail
  change Code.wp _ _ _ _ ((w.alloc (.cells TC.toArray 26)).alloc (.cells ZT.toArray 26))
  rw [← HW1.out, show w.heap.size + 1 = G2 from HG2.out.symm, show w.heap.size = G1 from HG1.out.symm]
  try dsimp only [Act.put]
  clear HW1
  go_wp2_with (first
    | (refine wpList_load_vrow rfl 26 (.tmp 1) rfl rfl R1.out Tryd.underlying26 HTS.out ?_))
  refine HFW.out.mono ?_
  rintro e w2 ⟨t', iv', ov', rfl, X', Y', hok, hI, hO, hEI, hEO, hXe, hYe, hXi, hXn, hYi, hYn, hb2⟩
  obtain ⟨FC, hFC⟩ : ∃ z, z = txC t' iv' ov' := ⟨_, rfl⟩
  have hFl : FC.length = 4 := by rw [hFC]; rfl
  obtain ⟨A1, c1, hif⟩ := hI.form
  obtain ⟨A2, c2, hof⟩ := hO.form
  have HF1 := Lib.hid (show FC.toArray.all (·.oneCell') = true by rw [hFC, hif, hof]; exact arr_one (fun v hv => by unfold txC at hv; simp only [List.mem_cons, List.not_mem_nil, or_false] at hv; rcases hv with rfl | rfl | rfl | rfl <;> rfl))
  have q2 := R2.out.below hb2 R2.out.lt
  have tt : Turns (fun q => q = G2) w2 (w2.setRow G2 FC.toArray) := Turns.setRow (S := fun q => q = G2) (Turns.refl _ w2) (fun _ => rfl) _
  have hS : ∀ k, k = G2 → k < w2.heap.size → ∃ cs T m, w2.heap[k]? = some (.cells cs T m) ∧ 27 ≠ T ∧ 5 ≠ T := fun k q _ => by subst q; exact ⟨_, _, _, q2, by decide, by decide⟩
  have hbF : Below w.heap.size w (w2.setRow G2 FC.toArray) := below_setRow (HB1.out.trans (hb2.mono HB1.out.size)) (by have := HG2.out; omega) _
  have hIs : FewIs 5 300 w.heap.size (w2.setRow G2 FC.toArray) (.agg FC.toArray) := by
    refine ⟨t', iv', ov', by rw [hFC], X', Y', hok, ?_, ?_, fun x hx => ?_, fun y hy => ?_, hXe, hYe, hXi, hXn, hYi, hYn⟩
    · exact own_le (own_apart hI tt (fun k q _ => by subst q; exact ⟨_, _, _, q2, by decide⟩)) HB1.out.size
    · exact own_le (own_apart hO tt (fun k q _ => by subst q; exact ⟨_, _, _, q2, by decide⟩)) HB1.out.size
    · exact El.base ((hEI x hx).apart tt hS) HB1.out.size
    · exact ElO.base ((hEO y hy).apart tt hS) HB1.out.size
  have HIS := Lib.hid hIs
  have HBF := Lib.hid hbF
  have Q2 := Lib.hid q2
  have HFS := Lib.hid (show (Tryd.prog.info? 26).map (·.size) = some FC.length by rw [hFl]; exact size_tx)
  have HFL := Lib.hid (show ZT.length = FC.length by rw [HZL.out, hFl])
  rw [← hFC]
  clear hFC hFl hif hof q2 tt hS hbF hIs hok hI hO hEI hEO hXe hYe hXi hXn hYi hYn hb2
  go_wp2_with (first
    | (refine wpList_store_vrow rfl 26 (.tmp 2) (.tmp 4) rfl rfl rfl Q2.out HFS.out HFL.out HF1.out ?_))
  refine bodyPost_ret (v := .agg FC.toArray) ?_ rfl ⟨_, rfl, HIS.out, HBF.out⟩
  obtain ⟨fr, hrw⟩ : ∃ fr, (w2.setRow G2 FC.toArray).heap[G2]? = some (.cells FC.toArray 26 fr) := ⟨_, Q2.out.setRow FC⟩
  exact results_cell_row Tryd.results8 _ _ G2 26 FC.toArray fr _ rfl hrw Tryd.underlying26 rfl (by rw [List.size_toArray]; exact HFS.out)
end Go.Proofs.YthelmclpmalofaaDoor
