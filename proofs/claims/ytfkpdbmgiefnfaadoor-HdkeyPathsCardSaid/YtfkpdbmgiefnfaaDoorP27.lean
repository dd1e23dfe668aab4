/-
  Texts joined: HkRmaster, TSpare, TKept. Conditions: those of each.
-/
import Derived.Test.YtfkpdbmgiefnfaaDoorP22
import Derived.Test.YtfkpdbmgiefnfaaDoorP26
import Derived.Test.YtfkpdbmgiefnfaaDoorP2
import Derived.BigQuiet
import Derived.Deep.QuietTactic
import Derived.IntWalk
import Derived.Deep.RegionHeld
import Derived.OrdersHeld
/-
  The reference's Good and Master, walked. Conditions: a seed within the reach; a key's data begins with 0.
-/
namespace Go.Proofs.YtfkpdbmgiefnfaaDoor.Hk
open Go.RowKit

set_option maxRecDepth 100000 in
set_option maxHeartbeats 6400000 in
theorem good_any (chain k : List UInt8) (w : World) (hc : chain.length = 32) (hk : k.length = 32) :
    Calls Tryd.prog 21 #[.agg (keyC chain (0 :: k)).toArray] w fun e w' => e = .returned (.bool (keyQ (quads k))) ∧ Below w.heap.size w w' := by
  have hd : (0 :: k).length = 33 := by rw [List.length_cons, hk]
  have r1 := VRow.new w 35 (keyC chain (0 :: k))
  have b1 : Below w.heap.size w (w.alloc (.cells (keyC chain (0 :: k)).toArray 35)) := (Below.refl _ w).alloc (Nat.le_refl _) _
  obtain ⟨wA, hwA⟩ : ∃ z, z = w.alloc (.cells (keyC chain (0 :: k)).toArray 35) := ⟨_, rfl⟩
  rw [← hwA] at r1 b1
  obtain ⟨GA, hGA⟩ : ∃ g, g = w.heap.size := ⟨_, rfl⟩
  rw [← hGA] at r1 b1
  have h38 : (keyC chain (0 :: k))[38]? = some (.int .u8 0) := by
    unfold keyC
    rw [List.getElem?_append_right (by simp [nums_length, hc])]
    simp [nums, hc]
  have c38 : wA.cell? ⟨GA, 38, none⟩ = some (.int .u8 0) := r1.cell h38
  have IK := Lib.hid (show (Tryd.prog.info? 35).map (·.size) = some (keyC chain (0 :: k)).length by rw [keyC_length hc hd]; exact info_rkey)
  have SC := Lib.hid (secret_any chain k wA hc hk)
  have KY := Lib.hid (fun W => key_any (quads k) W (quadsTo_length k 32) (quads_u k))
  obtain ⟨KC, hKC⟩ : ∃ l, l = keyC chain (0 :: k) := ⟨_, rfl⟩
  rw [← hKC] at hwA r1 IK SC ⊢
  obtain ⟨kb, hkb⟩ : ∃ kb, kb = keyQ (quads k) := ⟨_, rfl⟩
  rw [← hkb] at KY ⊢
  have HK := Lib.hid hk
  have R1 := Lib.hid r1
  have B1 := Lib.hid b1
  have HWA := Lib.hid hwA
  have HGA := Lib.hid hGA
  have z2 := zero_b32
  clear hc hk hd r1 b1 hwA hGA hKC hkb h38
  go_enter Tryd.func21, Tryd.ntmps21
  go_upto_region 1 with fail
  change Code.wp _ _ _ _ (w.alloc (.cells KC.toArray 35))
  rw [← HWA.out, show w.heap.size = GA from HGA.out.symm]
  clear HWA
  try dsimp only [Act.put]
  go_wp2_with (refine wpList_load_vrow rfl 35 (.tmp 1) rfl (g := GA) (t := 35) (vs := KC) rfl R1.out Tryd.underlying35 IK.out ?_)
  refine SC.out.mono ?_
  rintro e w2 ⟨rfl, hb2⟩
  have rz := IRow.new w2 28 .u8 (List.replicate 32 0)
  have rs := setRow_irow (ys := nums k) rz
  have b3 := below_setRow ((Below.refl w2.heap.size w2).alloc (Nat.le_refl _) (.cells ((List.replicate 32 (0 : Int)).map (Value.int .u8)).toArray 28)) (Nat.le_refl _) ((nums k).map (Value.int .u8)).toArray
  have hBB := B1.out.trans (hb2.mono (by have := B1.out.size; have := HGA.out; omega))
  have RZ := Lib.hid rz
  have hkl : (nums k).length = 32 := by rw [nums_length, HK.out]
  have IB := Lib.hid (show (Tryd.prog.info? 28).map (·.size) = some (nums k).length by rw [hkl]; exact info_b32)
  have LB := Lib.hid hkl
  clear rz hb2 hkl
  unfold digV
  go_upto_region 3 with (refine wpList_store_irow rfl 28 (.tmp 3) (.tmp 11) rfl (g := w2.heap.size) (t := 28) (k := .u8) (xs := List.replicate 32 0) (ys := nums k) rfl rfl RZ.out IB.out (by rw [LB.out]; rfl) ?_)
  change Code.wp _ _ _ _ ((w2.alloc (.cells ((List.replicate 32 (0 : Int)).map (Value.int .u8)).toArray 28)).setRow w2.heap.size ((nums k).map (Value.int .u8)).toArray)
  obtain ⟨w3, hw3⟩ : ∃ z, z = (w2.alloc (.cells ((List.replicate 32 (0 : Int)).map (Value.int .u8)).toArray 28)).setRow w2.heap.size ((nums k).map (Value.int .u8)).toArray := ⟨_, rfl⟩
  rw [← hw3] at rs b3 ⊢
  obtain ⟨G3, hG3⟩ : ∃ g, g = w2.heap.size := ⟨_, rfl⟩
  have OF := Lib.hid (of_any (G3 + 1) (.slice (some ⟨G3, 0, none⟩) 32 32) k w3 (by rw [hG3]; exact irow_byt rs HK.out (by unfold maxLen; omega)) (by have := rs.lt; omega) HK.out)
  have BB := Lib.hid (hBB.trans (b3.mono (by have := hBB.size; have := HGA.out; omega)))
  rw [← hG3]
  clear rs b3 hBB hw3 RZ hG3
  try dsimp only [Act.put]
  go_wp2_with fail
  refine OF.out.mono ?_
  rintro e w4 ⟨rfl, hb4⟩
  have B4 := Lib.hid (BB.out.trans (hb4.mono (by have := BB.out.size; have := HGA.out; omega)))
  clear hb4
  go_wp2_with fail
  refine (KY.out _).mono ?_
  rintro e w5 ⟨rfl, hb5⟩
  have B5 := Lib.hid (B4.out.trans (hb5.mono (by have := B4.out.size; have := HGA.out; omega)))
  clear hb5
  go_wp2_with fail
  go_ret
  exact ⟨rfl, by rw [← HGA.out]; exact B5.out⟩

/-- The cells of a key, of integers. -/
def keyI (c d : List Int) : List Value := (List.replicate 5 (.int .u8 0) ++ [.int .u32 0]) ++ c.map (Value.int .u8) ++ d.map (Value.int .u8)
theorem keyC_I (chain data : List UInt8) : keyC chain data = keyI (nums chain) (nums data) := rfl
theorem keyI_chain {c : List Int} (d : List Int) {i : Nat} (z : Int) (h : i < c.length) : (keyI c d).set (6 + i) (.int .u8 z) = keyI (c.set i z) d := by
  unfold keyI
  rw [List.set_append_left _ _ (by simp; omega), List.set_append_right _ _ (by simp), List.map_set]
  congr 3
  simp
theorem keyI_data {c : List Int} (d : List Int) (j : Nat) (z : Int) (h : c.length = 32) : (keyI c d).set (38 + j) (.int .u8 z) = keyI c (d.set j z) := by
  unfold keyI
  rw [List.set_append_right _ _ (by simp [h]), List.map_set]
  congr 2
  simp [h]
theorem keyI_length {c d : List Int} (h1 : c.length = 32) (h2 : d.length = 33) : (keyI c d).length = 71 := by simp [keyI, h1, h2]
theorem keyI_chain_at {c : List Int} (d : List Int) {i : Nat} {z : Int} (h : c[i]? = some z) : (keyI c d)[6 + i]? = some (.int .u8 z) := by
  have hl := (List.getElem?_eq_some_iff.1 h).1
  unfold keyI
  rw [List.getElem?_append_left (by simp; omega), List.getElem?_append_right (by simp)]
  simp [h]
theorem keyI_data_at {c d : List Int} {j : Nat} {z : Int} (hc : c.length = 32) (h : d[j]? = some z) : (keyI c d)[38 + j]? = some (.int .u8 z) := by
  unfold keyI
  rw [List.getElem?_append_right (by simp [hc])]
  simp only [List.length_append, List.length_map, hc, List.length_replicate, List.length_cons, List.length_nil, Nat.reduceAdd, Nat.add_sub_cancel_left]
  simp [h]
def Z32 : List UInt8 := List.replicate 32 0
/-- What is filled behind i rounds. -/
def partly (l : List UInt8) (i : Nat) : List UInt8 := l.take i ++ Z32.drop i
theorem partly_length {l : List UInt8} (h : l.length = 32) {i : Nat} (hi : i ≤ 32) : (partly l i).length = 32 := by
  unfold partly Z32
  rw [List.length_append, List.length_take, List.length_drop, List.length_replicate]
  omega
theorem partly_next {l : List UInt8} {i : Nat} {u : UInt8} (hl : l.length = 32) (hi : i < 32) (hu : l[i]? = some u) : (nums (partly l i)).set i (u.toNat : Int) = nums (partly l (i + 1)) ∧ (nums (partly l i))[i]? = some 0 := by
  have hz : Z32[i]? = some 0 := by unfold Z32; rw [List.getElem?_replicate, if_pos hi]
  exact ⟨mixed_set hu hz, mixed_at (xs := l) (by omega) hz⟩
theorem partly_all {l : List UInt8} (h : l.length = 32) : partly l 32 = l := by
  unfold partly Z32
  rw [List.take_of_length_le (by omega), List.drop_of_length_le (by simp), List.append_nil]

theorem info_rzero : (Tryd.prog.info? 35).map (·.size) = some zeroC.length := by kernel_rfl
theorem build_rzero (W : World) : (Instr.build 35 #[]).run Tryd.prog W = .ok (.agg zeroC.toArray) W := run_build W _ _ _ (by rw [rkey_built]; rfl)

set_option maxRecDepth 100000 in
set_option maxHeartbeats 6400000 in
theorem rmaster_small (A : Option Addr) (n c : Nat) (w : World) (h : n < 16 ∨ 64 < n) :
    Calls Tryd.prog 8 #[.slice A n c] w fun e w' => e = .returned (.tuple #[.agg zeroC.toArray, .int .i64 2]) ∧ Below w.heap.size w w' := by
  have z1 := zero_rkey
  have r1 := VRow.new w 35 zeroC
  have b1 : Below w.heap.size w (w.alloc (.cells zeroC.toArray 35)) := (Below.refl _ w).alloc (Nat.le_refl _) _
  have HF := Lib.hid (r1.setRow zeroC)
  have HB := Lib.hid (below_setRow b1 (Nat.le_refl _) zeroC.toArray)
  have R1 := Lib.hid r1
  have BZ := Lib.hid build_rzero
  obtain ⟨ZC, hZC⟩ : ∃ l, l = zeroC := ⟨_, rfl⟩
  have ZI := Lib.hid info_rzero
  have ZO := Lib.hid zeroC_one
  rw [← hZC] at z1 R1 HF HB ZI ZO BZ ⊢
  clear r1 b1 hZC
  go_enter Tryd.func8, Tryd.ntmps8
  rcases h with h | h
  · have d1 : decide ((n : Int) < 16) = true := decide_eq_true (by omega)
    go_wp2_with (first
      | (refine S5.wpList_build_lit rfl 35 _ (.agg ZC.toArray) rfl (fun W => by (simp only [List.map_toArray, List.map_nil]; exact BZ.out W)) ?_)
      | (refine wpList_store_vrow rfl 35 (.tmp 2) (.tmp 15) rfl (g := w.heap.size) (t := 35) (vs := ZC) (us := ZC) rfl rfl R1.out ZI.out rfl ZO.out ?_))
    refine bodyPost_ret (v := .tuple #[.agg ZC.toArray, .int .i64 2]) ?_ rfl ⟨rfl, HB.out⟩
    exact results_row_tmp Tryd.results8 _ _ w.heap.size 35 ZC.toArray (0, 0) _ _ rfl rfl HF.out Tryd.underlying35 rfl (by rw [List.size_toArray]; exact ZI.out)
  · have d1 : decide ((n : Int) < 16) = false := decide_eq_false (by omega)
    have d2 : decide (64 < (n : Int)) = true := decide_eq_true (by omega)
    go_wp2_with (first
      | (refine S5.wpList_build_lit rfl 35 _ (.agg ZC.toArray) rfl (fun W => by (simp only [List.map_toArray, List.map_nil]; exact BZ.out W)) ?_)
      | (refine wpList_store_vrow rfl 35 (.tmp 2) (.tmp 15) rfl (g := w.heap.size) (t := 35) (vs := ZC) (us := ZC) rfl rfl R1.out ZI.out rfl ZO.out ?_))
    refine bodyPost_ret (v := .tuple #[.agg ZC.toArray, .int .i64 2]) ?_ rfl ⟨rfl, HB.out⟩
    exact results_row_tmp Tryd.results8 _ _ w.heap.size 35 ZC.toArray (0, 0) _ _ rfl rfl HF.out Tryd.underlying35 rfl (by rw [List.size_toArray]; exact ZI.out)

theorem zero_b64 (W : World) : (zeroValue 51).run Tryd.prog W = .ok (.agg ((List.replicate 64 (0 : Int)).map (Value.int .u8)).toArray) W := by kernel_rfl
theorem info_b64 : (Tryd.prog.info? 51).map (·.size) = some 64 := by kernel_rfl
theorem zeroC_I : zeroC = keyI (nums (partly [] 0)) (0 :: nums (partly [] 0)) := rfl

set_option maxRecDepth 100000 in
set_option maxHeartbeats 12800000 in
theorem rmaster_sized (B : Nat) (v : Value) (seed : List UInt8) (w : World) (hx : Byt w B v seed) (hB : B ≤ w.heap.size) (h16 : 16 ≤ seed.length) (h64 : seed.length ≤ 64) :
    Calls Tryd.prog 8 #[v] w fun e w' => e = .returned (.tuple #[.agg (if keyW (words4 (firstH seed)) then keyC (lastH seed) (0 :: firstH seed) else zeroC).toArray, .int .i64 (if keyW (words4 (firstH seed)) then 0 else 1)]) ∧ Below w.heap.size w w' := by
  obtain ⟨A, c, rfl⟩ := hx.form
  have z1 := zero_rkey
  have z2 := zero_b64
  have r1 := VRow.new w 35 zeroC
  have b1 : Below w.heap.size w (w.alloc (.cells zeroC.toArray 35)) := (Below.refl _ w).alloc (Nat.le_refl _) _
  have hs1 : (w.alloc (.cells zeroC.toArray 35)).heap.size = w.heap.size + 1 := by simp
  have BZ := Lib.hid build_rzero
  have ZI := Lib.hid info_rzero
  have ZO := Lib.hid zeroC_one
  have ZL := Lib.hid (show zeroC.length = 71 from rfl)
  have ZP := Lib.hid zeroC_I
  obtain ⟨ZC, hZC⟩ : ∃ l, l = zeroC := ⟨_, rfl⟩
  rw [← hZC] at z1 r1 b1 hs1 ZI ZO BZ ZL ZP ⊢
  obtain ⟨wA, hwA⟩ : ∃ z, z = w.alloc (.cells ZC.toArray 35) := ⟨_, rfl⟩
  rw [← hwA] at r1 b1 hs1
  obtain ⟨GA, hGA⟩ : ∃ g, g = w.heap.size := ⟨_, rfl⟩
  rw [← hGA] at r1 b1 hs1
  have bm : Byt (wA.alloc (.cells (seedName.map bv).toArray 5 (12, 13))) (wA.heap.size + 1) (.slice (some ⟨wA.heap.size, 0, none⟩) 12 12) seedName := Byt.madeF wA _ _ (12, 13) seedName rfl (by unfold maxLen; decide)
  have b2 : Below wA.heap.size wA (wA.alloc (.cells (seedName.map bv).toArray 5 (12, 13))) := (Below.refl _ wA).alloc (Nat.le_refl _) _
  have hs2 : (wA.alloc (.cells (seedName.map bv).toArray 5 (12, 13))).heap.size = wA.heap.size + 1 := by simp
  have hm := rhmac_any (wA.heap.size + 1) _ (.slice A seed.length c) seedName seed _ bm (((hx.below (b1.mono (by omega))).below (b2.mono (by omega))).more (by omega)) (by rw [hs2]; omega) (by decide) (by omega)
  rw [hs1] at hm hs2 b2
  obtain ⟨wB, hwB⟩ : ∃ z, z = wA.alloc (.cells (seedName.map bv).toArray 5 (12, 13)) := ⟨_, rfl⟩
  rw [← hwB] at hm hs2 b2
  have hHl := hmac_length seedName seed
  have l1 := firstH_length seed
  have l2 := lastH_length seed
  have kq := keyQ_same l1
  have hg := fun W => good_any (lastH seed) (firstH seed) W l2 l1
  rw [kq] at hg
  have kl := keyC_length l2 (show (0 :: firstH seed).length = 33 by rw [List.length_cons, l1])
  have k1 := keyC_one (lastH seed) (0 :: firstH seed)
  have at1 : ∀ (i : Nat) (u : UInt8), i < 32 → (firstH seed)[i]? = some u → (nums (hmac seedName seed))[i]? = some (u.toNat : Int) := fun i u hi hu => by
    unfold firstH at hu
    rw [List.getElem?_take, if_pos hi] at hu
    unfold nums
    rw [List.getElem?_map, hu]
    rfl
  have at2 : ∀ (i : Nat) (u : UInt8), (lastH seed)[i]? = some u → (nums (hmac seedName seed))[32 + i]? = some (u.toNat : Int) := fun i u hu => by
    unfold lastH at hu
    rw [List.getElem?_drop] at hu
    unfold nums
    rw [List.getElem?_map, hu]
    rfl
  have hfin : keyI (nums (partly (lastH seed) 32)) (0 :: nums (partly (firstH seed) 32)) = keyC (lastH seed) (0 :: firstH seed) := by
    rw [partly_all l2, partly_all l1]
    rfl
  unfold digV at hm
  obtain ⟨H, hH⟩ : ∃ l, l = nums (hmac seedName seed) := ⟨_, rfl⟩
  have lH : H.length = 64 := by rw [hH, nums_length, hHl]
  rw [← hH] at hm at1 at2
  obtain ⟨F, hF⟩ : ∃ l, l = firstH seed := ⟨_, rfl⟩
  obtain ⟨L, hL⟩ : ∃ l, l = lastH seed := ⟨_, rfl⟩
  obtain ⟨kb, hkb⟩ : ∃ kb, kb = keyW (words4 (firstH seed)) := ⟨_, rfl⟩
  rw [← hkb] at hg ⊢
  obtain ⟨KC, hKC⟩ : ∃ l, l = keyC (lastH seed) (0 :: firstH seed) := ⟨_, rfl⟩
  rw [← hKC] at hg kl k1 hfin ⊢
  rw [← hF] at at1 l1 hfin
  rw [← hL] at at2 l2 hfin
  have IH := Lib.hid (show (Tryd.prog.info? 51).map (·.size) = some H.length by rw [lH]; exact info_b64)
  have IK := Lib.hid (show (Tryd.prog.info? 35).map (·.size) = some KC.length by rw [kl]; exact info_rkey)
  have LH := Lib.hid lH
  have L1 := Lib.hid l1
  have L2 := Lib.hid l2
  have AT1 := Lib.hid at1
  have AT2 := Lib.hid at2
  have FIN := Lib.hid hfin
  have KL := Lib.hid kl
  have KO := Lib.hid k1
  have HM := Lib.hid hm
  have HG := Lib.hid hg
  have R1 := Lib.hid r1
  have B1 := Lib.hid b1
  have B2 := Lib.hid b2
  have S1 := Lib.hid hs1
  have S2 := Lib.hid hs2
  have HWA := Lib.hid hwA
  have HWB := Lib.hid hwB
  have HGA := Lib.hid hGA
  have d1 : decide ((seed.length : Int) < 16) = false := decide_eq_false (by omega)
  have d2 : decide (64 < (seed.length : Int)) = false := decide_eq_false (by omega)
  have kc := Lib.run_convert_bytes_const (P := Tryd.prog) (w.alloc (.cells ZC.toArray 35)) 22 5 #[.int .u8 66, .int .u8 105, .int .u8 116, .int .u8 99, .int .u8 111, .int .u8 105, .int .u8 110, .int .u8 32, .int .u8 115, .int .u8 101, .int .u8 101, .int .u8 100] 12 12 Tryd.underlying22 Tryd.underlying5
  rw [World.size_alloc] at kc
  clear hx hB h16 h64 r1 b1 hs1 hZC hwA hGA bm b2 hs2 hm hwB hHl l1 l2 hg kl k1 hH hF hL lH hKC hkb kq at1 at2 hfin
  go_enter Tryd.func8, Tryd.ntmps8
  go_wp2_with fail
  have e1 : (w.alloc (.cells ZC.toArray 35)).alloc (.cells (seedName.map bv).toArray 5 (12, 13)) = wB := by rw [HWB.out, HWA.out]
  change Calls _ _ _ ((w.alloc (.cells ZC.toArray 35)).alloc (.cells (seedName.map bv).toArray 5 (12, 13))) _
  rw [e1]
  clear e1
  rw [show w.heap.size = GA from HGA.out.symm]
  refine HM.out.mono ?_
  rintro e w2 ⟨rfl, hb2⟩
  have hs2 := hb2.size
  have q1 := S1.out
  have q2 := S2.out
  have b3 : Below (GA + 1) wA w2 := B2.out.trans (hb2.mono (by omega))
  have hz2 : GA + 1 < w2.heap.size := by omega
  have i4 := IRow.new w2 51 .u8 (List.replicate 64 0)
  have j4 := setRow_irow (ys := H) i4
  have b4 := below_setRow ((Below.refl w2.heap.size w2).alloc (Nat.le_refl _) (.cells ((List.replicate 64 (0 : Int)).map (Value.int .u8)).toArray 51)) (Nat.le_refl _) (H.map (Value.int .u8)).toArray
  have hs4 : ((w2.alloc (.cells ((List.replicate 64 (0 : Int)).map (Value.int .u8)).toArray 51)).setRow w2.heap.size (H.map (Value.int .u8)).toArray).heap.size = w2.heap.size + 1 := by simp [World.setRow]
  have r4 := (R1.out.below b3 (by omega)).below b4 (by omega)
  have bb := (B1.out.trans (b3.mono (by omega))).trans (b4.mono (by omega))
  have I4 := Lib.hid i4
  clear i4 hs2 q1 q2 b3 b4 hb2
  go_upto_region 5 with (refine wpList_store_irow rfl 51 (.tmp 4) (.tmp 19) rfl (g := w2.heap.size) (t := 51) (k := .u8) (xs := List.replicate 64 0) (ys := H) rfl rfl I4.out IH.out (by rw [LH.out]; rfl) ?_)
  change Code.wp _ _ _ _ (((w2.alloc (.cells ((List.replicate 64 (0 : Int)).map (Value.int .u8)).toArray 51)).setRow w2.heap.size (H.map (Value.int .u8)).toArray).alloc (.cells ZC.toArray 35))
  obtain ⟨w4, hw4⟩ : ∃ z, z = (w2.alloc (.cells ((List.replicate 64 (0 : Int)).map (Value.int .u8)).toArray 51)).setRow w2.heap.size (H.map (Value.int .u8)).toArray := ⟨_, rfl⟩
  rw [← hw4] at j4 r4 bb hs4 ⊢
  obtain ⟨G4, hG4⟩ : ∃ g, g = w2.heap.size := ⟨_, rfl⟩
  rw [← hG4] at j4 hs4 hz2 ⊢
  have k5 := VRow.new w4 35 ZC
  rw [hs4] at k5
  have j5 := irow_alloc j4 (.cells ZC.toArray 35)
  have r5 := vrow_alloc r4 (.cells ZC.toArray 35)
  have b5 := bb.alloc (by omega : GA ≤ w4.heap.size) (.cells ZC.toArray 35)
  have hs5 : w4.heap.size = G4 + 1 := hs4
  obtain ⟨w5, hw5⟩ : ∃ z, z = w4.alloc (.cells ZC.toArray 35) := ⟨_, rfl⟩
  rw [← hw5] at k5 j5 r5 b5 ⊢
  have k5' : VRow w5 (G4 + 1) 35 (keyI (nums (partly L 0)) (0 :: nums (partly F 0))) := by
    have e : ZC = keyI (nums (partly L 0)) (0 :: nums (partly F 0)) := ZP.out
    rw [← e]
    exact k5
  have K5 := Lib.hid k5'
  have J5 := Lib.hid j5
  have R5 := Lib.hid r5
  have B5 := Lib.hid b5
  have HZ2 := Lib.hid hz2
  clear I4 hw4 hG4 hw5 k5 k5' j5 r5 b5 hs5 hs4 j4 r4 bb hz2
  try dsimp only [Act.put]
  go_wp2_with fail
  go_loopw [6] (fun v6 wr => ∃ i : Nat, i ≤ 32 ∧ v6 = .int .i64 (i : Int) ∧ VRow wr (G4 + 1) 35 (keyI (nums (partly L i)) (0 :: nums (partly F i))) ∧ IRow wr G4 51 .u8 H ∧ VRow wr GA 35 ZC ∧ Below GA w wr) (fun v6 _ => 32 - (intOf v6).toNat)
  case atStart => exact ⟨0, by omega, rfl, K5.out, J5.out, R5.out, B5.out⟩
  case round =>
    obtain ⟨i, hi, rfl, hkey, hrow, hres, hbel⟩ := hrel
    have hzz := HZ2.out
    by_cases h32 : i < 32
    · obtain ⟨u, hu⟩ : ∃ u, F[i]? = some u := ⟨_, List.getElem?_eq_getElem (by rw [L1.out]; exact h32)⟩
      obtain ⟨x, hx⟩ : ∃ x, L[i]? = some x := ⟨_, List.getElem?_eq_getElem (by rw [L2.out]; exact h32)⟩
      obtain ⟨nu, au⟩ := partly_next L1.out h32 hu
      obtain ⟨nx, ax⟩ := partly_next L2.out h32 hx
      have cu : wr.cell? ⟨G4, i, none⟩ = some (.int .u8 (u.toNat : Int)) := hrow.cell (AT1.out i u h32 hu)
      have lC : (nums (partly L i)).length = 32 := by rw [nums_length, partly_length L2.out hi]
      have cd : wr.cell? ⟨G4 + 1, 38 + (i + 1), none⟩ = some (.int .u8 0) := hkey.cell (keyI_data_at lC au)
      have fd := hkey.free (38 + (i + 1))
      have k1 := hkey.set (38 + (i + 1)) (.int .u8 (u.toNat : Int))
      rw [keyI_data _ (i + 1) _ lC, List.set_cons_succ, nu] at k1
      have h1 : IRow (wr.setCell ⟨G4 + 1, 38 + (i + 1), none⟩ (.int .u8 (u.toNat : Int))) G4 51 .u8 H := (Below.heap_setCell wr _ _ _ (by intro h; first | (have h' : G4 = G4 + 1 := h; omega) | (have h' : G4 + 1 = G4 := h; omega))).trans hrow
      have s1 : VRow (wr.setCell ⟨G4 + 1, 38 + (i + 1), none⟩ (.int .u8 (u.toNat : Int))) GA 35 ZC := (Below.heap_setCell wr _ _ _ (by intro h; first | (have h' : GA = G4 + 1 := h; omega) | (have h' : G4 + 1 = GA := h; omega))).trans hres
      have c1 := h1.cell (AT2.out i x hx)
      have d1 : (wr.setCell ⟨G4 + 1, 38 + (i + 1), none⟩ (.int .u8 (u.toNat : Int))).cell? ⟨G4 + 1, 6 + i, none⟩ = some (.int .u8 0) := k1.cell (keyI_chain_at _ ax)
      have f1 := k1.free (6 + i)
      have k2 := k1.set (6 + i) (.int .u8 (x.toNat : Int))
      rw [keyI_chain _ _ (by rw [lC]; exact h32), nx] at k2
      have h2 : IRow ((wr.setCell ⟨G4 + 1, 38 + (i + 1), none⟩ (.int .u8 (u.toNat : Int))).setCell ⟨G4 + 1, 6 + i, none⟩ (.int .u8 (x.toNat : Int))) G4 51 .u8 H := (Below.heap_setCell _ _ _ _ (by intro h; first | (have h' : G4 = G4 + 1 := h; omega) | (have h' : G4 + 1 = G4 := h; omega))).trans h1
      have s2 : VRow ((wr.setCell ⟨G4 + 1, 38 + (i + 1), none⟩ (.int .u8 (u.toNat : Int))).setCell ⟨G4 + 1, 6 + i, none⟩ (.int .u8 (x.toNat : Int))) GA 35 ZC := (Below.heap_setCell _ _ _ _ (by intro h; first | (have h' : GA = G4 + 1 := h; omega) | (have h' : G4 + 1 = GA := h; omega))).trans s1
      have e2 := (hbel.setCell (p := ⟨G4 + 1, 38 + (i + 1), none⟩) (by show GA ≤ G4 + 1; omega) (.int .u8 (u.toNat : Int))).setCell (p := ⟨G4 + 1, 6 + i, none⟩) (by show GA ≤ G4 + 1; omega) (.int .u8 (x.toNat : Int))
      have K2 := Lib.hid k2
      have H2 := Lib.hid h2
      have T2 := Lib.hid s2
      have E2 := Lib.hid e2
      have bi : (i : Int) < 32 := by omega
      have w1 : IntKind.i64.wrap ((i : Int) + 1) = ((i + 1 : Nat) : Int) := by rw [IntWalk.i64_in _ (by omega)]; omega
      have w2 : IntKind.i64.wrap (32 + (i : Int)) = ((32 + i : Nat) : Int) := by rw [IntWalk.i64_in _ (by omega)]; omega
      have b2 : 32 + (i : Int) < 64 := by omega
      clear hu hx nu au nx ax lC k1 h1 s1 k2 h2 s2 e2 hkey hrow hres hbel hzz
      go_wp2_with fail
      exact ⟨⟨i + 1, by omega, by go_num, K2.out, H2.out, T2.out, E2.out⟩, by simp [intOf]; omega⟩
    · obtain rfl : i = 32 := by omega
      have e32 : ((32 : Nat) : Int) = 32 := rfl
      rw [e32]
      rw [FIN.out] at hkey
      have GD := Lib.hid (HG.out wr)
      have HKEY := Lib.hid hkey
      have HRES := Lib.hid hres
      have HBEL := Lib.hid hbel
      clear e32 hkey hrow hres hbel h32 hzz
      go_wp2_with (refine wpList_load_vrow rfl 35 (.tmp 5) rfl (g := G4 + 1) (t := 35) (vs := KC) rfl HKEY.out Tryd.underlying35 IK.out ?_)
      refine GD.out.mono ?_
      rintro e w6 ⟨rfl, hb6⟩
      have k6 := HKEY.out.below hb6 HKEY.out.lt
      have r6 := HRES.out.below hb6 HRES.out.lt
      have b6 := HBEL.out.trans (hb6.mono (by have := HBEL.out.size; have := HGA.out; omega))
      clear GD HKEY HRES HBEL hb6
      cases kb with
      | false =>
        have HF := Lib.hid (r6.setRow ZC)
        have HB := Lib.hid (below_setRow b6 (Nat.le_refl GA) ZC.toArray)
        have R6 := Lib.hid r6
        clear k6 r6 b6
        go_wp2_with (first
          | (refine S5.wpList_build_lit rfl 35 _ (.agg ZC.toArray) rfl (fun W => by (simp only [List.map_toArray, List.map_nil]; exact BZ.out W)) ?_)
          | (refine wpList_store_vrow rfl 35 (.tmp 2) (.tmp 41) rfl (g := GA) (t := 35) (vs := ZC) (us := ZC) rfl rfl R6.out ZI.out rfl ZO.out ?_))
        refine bodyPost_ret (v := .tuple #[.agg ZC.toArray, .int .i64 1]) ?_ rfl ⟨rfl, by rw [← HGA.out]; exact HB.out⟩
        exact results_row_tmp Tryd.results8 _ _ GA 35 ZC.toArray (0, 0) _ _ rfl rfl HF.out Tryd.underlying35 rfl (by rw [List.size_toArray]; exact ZI.out)
      | true =>
        have HF := Lib.hid (r6.setRow KC)
        have HB := Lib.hid (below_setRow b6 (Nat.le_refl GA) KC.toArray)
        have R6 := Lib.hid r6
        have K6 := Lib.hid k6
        clear k6 r6 b6
        go_wp2_with (first
          | (refine wpList_load_vrow rfl 35 (.tmp 5) rfl (g := G4 + 1) (t := 35) (vs := KC) rfl K6.out Tryd.underlying35 IK.out ?_)
          | (refine wpList_store_vrow rfl 35 (.tmp 2) (.tmp 42) rfl (g := GA) (t := 35) (vs := ZC) (us := KC) rfl rfl R6.out IK.out (by rw [KL.out, ZL.out]) KO.out ?_))
        refine bodyPost_ret (v := .tuple #[.agg KC.toArray, .int .i64 0]) ?_ rfl ⟨rfl, by rw [← HGA.out]; exact HB.out⟩
        exact results_row_tmp Tryd.results8 _ _ GA 35 KC.toArray (0, 0) _ _ rfl rfl HF.out Tryd.underlying35 rfl (by rw [List.size_toArray]; exact IK.out)

theorem rmaster_any (B : Nat) (v : Value) (seed : List UInt8) (w : World) (hx : Byt w B v seed) (hB : B ≤ w.heap.size) :
    Calls Tryd.prog 8 #[v] w fun e w' => e = .returned (.tuple #[.agg (masterC seed).toArray, .int .i64 (masterE seed)]) ∧ Below w.heap.size w w' := by
  unfold masterC masterE
  by_cases h : sizeOk seed = true
  · have h2 := h
    unfold sizeOk at h2
    simp only [Bool.and_eq_true, decide_eq_true_eq] at h2
    rw [h]
    simp only [Bool.true_and, if_true]
    exact rmaster_sized B v seed w hx hB h2.1 h2.2
  · have h2 := h
    unfold sizeOk at h2
    simp only [Bool.and_eq_true, decide_eq_true_eq] at h2
    obtain ⟨A, c, rfl⟩ := hx.form
    have h3 : sizeOk seed = false := by simpa using h
    rw [h3]
    simp only [Bool.false_and, Bool.false_eq_true, if_false]
    exact rmaster_small A seed.length c w (by omega)
end Go.Proofs.YtfkpdbmgiefnfaaDoor.Hk

/-
  The references' Spare and Kept: a copy with tinted room behind it, and whether it is still as it was. Conditions: sizes within the reach.
-/
namespace Go.Proofs.YtfkpdbmgiefnfaaDoor
open Go.RowKit

/-- The bytes, and nine tinted ones behind them. -/
def tinted (bs : List UInt8) : List UInt8 := bs ++ (List.range 9).map fun k => b8 (201 + (bs.length + k : Nat))
theorem tinted_length (bs : List UInt8) : (tinted bs).length = bs.length + 9 := by simp [tinted]
theorem tinted_low {bs : List UInt8} {i : Nat} (h : i < bs.length) : (tinted bs)[i]? = bs[i]? := by
  unfold tinted
  rw [List.getElem?_append_left h]
theorem tinted_high {bs : List UInt8} {i : Nat} (h : bs.length ≤ i) (h2 : i < bs.length + 9) : (tinted bs)[i]? = some (b8 (201 + (i : Int))) := by
  unfold tinted
  rw [List.getElem?_append_right h, List.getElem?_map, List.getElem?_range (by omega)]
  simp
  congr 1
  omega

/-- Behind i rounds: the first i bytes are as they will be, the rest is zero. -/
def Fill (w : World) (g i : Nat) (bs : List UInt8) (wr : World) : Prop :=
  ∃ zs, zs = (tinted bs).take i ++ List.replicate (bs.length + 9 - i) 0 ∧ Row wr g zs ∧ Below w.heap.size w wr

theorem fill_next {w wr w' : World} {g i : Nat} {bs zs : List UInt8} {c : UInt8} (hi : i < bs.length + 9) (hc : (tinted bs)[i]? = some c) (hz : zs = (tinted bs).take i ++ List.replicate (bs.length + 9 - i) 0)
    (hr : Row w' g (zs.set i c)) (_hb : Below w.heap.size w wr) (hb' : Below w.heap.size w w') : Fill w g (i + 1) bs w' :=
  ⟨_, set_next (by rw [tinted_length]; exact hi) hc hz (by rw [tinted_length]), hr, hb'⟩

theorem fill_zero {bs zs : List UInt8} {i : Nat} (hi : i < bs.length + 9) (hz : zs = (tinted bs).take i ++ List.replicate (bs.length + 9 - i) 0) : zs[i]? = some 0 := by
  subst hz
  have hl : ((tinted bs).take i).length = i := by rw [List.length_take, tinted_length]; omega
  rw [List.getElem?_append_right (by omega), hl, Nat.sub_self]
  obtain ⟨m, hm⟩ : ∃ m, bs.length + 9 - i = m + 1 := ⟨bs.length + 9 - i - 1, by omega⟩
  rw [hm, List.replicate_succ]
  rfl

set_option maxRecDepth 100000 in
set_option maxHeartbeats 1600000 in
theorem spare_any (B : Nat) (x : Value) (bs : List UInt8) (w : World) (hx : Byt w B x bs) (hB : B ≤ w.heap.size) (hl : bs.length ≤ 60000) :
    Calls Tryd.prog 6 #[x] w fun e w' => e = .returned (.tuple #[.slice (some ⟨w.heap.size, 0, none⟩) bs.length (bs.length + 9), .slice (some ⟨w.heap.size, 0, none⟩) (bs.length + 9) (bs.length + 9)]) ∧
      Row w' w.heap.size (tinted bs) ∧ Below w.heap.size w w' := by
  obtain ⟨A, c, hxf⟩ := hx.form
  subst hxf
  have hcap := hx.cap
  have hmk := fun W => make_bytes W (bs.length + 9) ((bs.length : Int) + 9) (by omega) (by omega)
  have hX := Lib.hid hx
  clear hx
  go_enter Tryd.func6, Tryd.ntmps6
  go_wp2_with fail
  clear hmk
  go_loopw [5] (fun s wr => ∃ i : Nat, i ≤ bs.length + 9 ∧ s = .int .i64 i ∧ Fill w w.heap.size i bs wr) (fun s _ => bs.length + 9 - (intOf s).toNat)
  case atStart => exact ⟨0, Nat.zero_le _, rfl, _, rfl, row_new w _, (Below.refl _ _).alloc (Nat.le_refl _) _⟩
  case round =>
    obtain ⟨i, hi, rfl, zs, hz, hrow, hbel⟩ := hrel
    by_cases hlt : i < bs.length + 9
    · have hcell : wr.cell? ⟨w.heap.size, i, none⟩ = some (.int .u8 0) := hrow.cell (fill_zero hlt hz)
      have hfree := hrow.free i
      by_cases hlow : i < bs.length
      · obtain ⟨A', c', e0, _, _, _, h4⟩ := hX.out
        injection e0 with e1 e2 e3
        subst e1 e3
        obtain ⟨b, o, rfl, hb, hbc⟩ := h4 (by rintro rfl; simp at hlow)
        have hci := hbc i _ (List.getElem?_eq_getElem hlow)
        obtain ⟨q, hq⟩ : ∃ q, q = bs[i] := ⟨_, rfl⟩
        rw [← hq] at hci
        have hbi : ∀ u, (wr.setCell ⟨w.heap.size, i, none⟩ u).cell? ⟨b, o + i, none⟩ = some (.int .u8 (q.toNat : Int)) := fun u =>
          (World.cell?_setCell_other _ _ _ _ (by intro e; injection e with e; omega)).trans ((hbel.cell (p := ⟨b, _, none⟩) (by show b < _; omega)).trans hci)
        have HQ := Lib.hid hq
        have HZ := Lib.hid hz
        have HR := Lib.hid hrow
        clear hq hz hrow hci hbc h4
        go_wp2
        refine ⟨⟨i + 1, by omega, by go_num, ?_⟩, ?_⟩
        · refine fill_next hlt (c := q) ?_ HZ.out ?_ hbel ((hbel.setCell (Nat.le_refl _) _).setCell (Nat.le_refl _) _)
          · rw [tinted_low hlow, HQ.out]; exact List.getElem?_eq_getElem hlow
          · have h1 := (HR.out.set (i := i) (b8 (201 + (i : Int)))).set (i := i) q
            rw [List.set_set, bv_b8] at h1
            exact h1
        · simp [intOf]; omega
      · have HZ := Lib.hid hz
        have HR := Lib.hid hrow
        clear hz hrow
        go_wp2
        refine ⟨⟨i + 1, by omega, by go_num, ?_⟩, ?_⟩
        · refine fill_next hlt (c := b8 (201 + (i : Int))) (tinted_high (by omega) hlt) HZ.out ?_ hbel (hbel.setCell (Nat.le_refl _) _)
          have h1 := HR.out.set (i := i) (b8 (201 + (i : Int)))
          rw [bv_b8] at h1
          exact h1
        · simp [intOf]; omega
    · go_wp2
      go_ret2
      have hie : i = bs.length + 9 := by omega
      subst hie
      rw [Nat.sub_self, List.replicate_zero, List.append_nil, List.take_of_length_le (Nat.le_of_eq (tinted_length bs))] at hz
      subst hz
      exact ⟨rfl, hrow, hbel⟩

end Go.Proofs.YtfkpdbmgiefnfaaDoor

/-
  The references' Kept: true, where the whole is as Spare made it. Conditions: sizes within the reach.
-/
namespace Go.Proofs.YtfkpdbmgiefnfaaDoor
open Go.RowKit

set_option maxRecDepth 100000 in
set_option maxHeartbeats 1600000 in
theorem kept_yes (B B' : Nat) (x y : Value) (bs : List UInt8) (w : World) (hx : Byt w B x (tinted bs)) (hy : Byt w B' y bs) (hl : bs.length ≤ 60000) :
    Calls Tryd.prog 10 #[x, y] w fun e w' => e = .returned (.bool true) ∧ ∃ k, w' = w.drewN k := by
  obtain ⟨A, c, hxf⟩ := hx.form
  obtain ⟨A2, c2, hyf⟩ := hy.form
  subst hxf hyf
  have hcapx := hx.cap
  have hcapy := hy.cap
  rw [tinted_length] at hcapx hx ⊢
  have hX := Lib.hid hx
  have hY := Lib.hid hy
  clear hx hy
  go_enter Tryd.func10, Tryd.ntmps10
  go_wp2_with fail
  go_loopw [5] (fun s wr => ∃ i : Nat, i ≤ bs.length + 9 ∧ s = .int .i64 i ∧ ∃ k, wr = w.drewN k) (fun s _ => bs.length + 9 - (intOf s).toNat)
  case atStart => exact ⟨0, Nat.zero_le _, rfl, 0, rfl⟩
  case round =>
    obtain ⟨i, hi, rfl, k, rfl⟩ := hrel
    by_cases hlt : i < bs.length + 9
    · obtain ⟨A', c', e0, _, _, _, h4⟩ := hX.out
      have he0 := e0
      injection e0 with e1 e2 e3
      subst e1 e3
      obtain ⟨b, o, rfl, hb, hbc⟩ := h4 (by intro hn; have := tinted_length bs; rw [hn] at this; simp at this)
      by_cases hlow : i < bs.length
      · obtain ⟨A', c', e0, _, _, _, h4⟩ := hY.out
        injection e0 with e1 e2 e3
        subst e1 e3
        obtain ⟨b2, o2, rfl, hb2, hbc2⟩ := h4 (by rintro rfl; simp at hlow)
        have hci := hbc i _ ((tinted_low hlow).trans (List.getElem?_eq_getElem hlow))
        have hci2 := hbc2 i _ (List.getElem?_eq_getElem hlow)
        obtain ⟨q, hq⟩ : ∃ q, q = bs[i] := ⟨_, rfl⟩
        rw [← hq] at hci hci2
        replace hci : w.cell? ⟨b, o + i, none⟩ = some (.int .u8 (q.toNat : Int)) := hci
        replace hci2 : w.cell? ⟨b2, o2 + i, none⟩ = some (.int .u8 (q.toNat : Int)) := hci2
        have hd3 : ((q.toNat : Int) != (q.toNat : Int)) = false := by simp
        clear hbc hbc2 h4 hq
        have hd : decide (i < bs.length) = true := by simpa using hlow
        obtain ⟨W, hW⟩ : ∃ W, W = w.drewN k := ⟨_, rfl⟩
        have hc1 : W.drew.cell? ⟨b, o + i, none⟩ = some (.int .u8 (q.toNat : Int)) := by rw [hW]; exact hci
        have hc2 : W.drew.cell? ⟨b2, o2 + i, none⟩ = some (.int .u8 (q.toNat : Int)) := by rw [hW]; exact hci2
        have HW := Lib.hid hW
        rw [← hW]
        clear e2 he0 hX hY hci hci2 hW
        go_wp2_with fail
        refine wp_region_held_drew (S := (fun w' => w'.cell? ⟨b, o + i, none⟩ = some (.int .u8 (q.toNat : Int)) ∧ w'.cell? ⟨b2, o2 + i, none⟩ = some (.int .u8 (q.toNat : Int)))) (by kernel_rfl) ?_ (fun hHeld => ?_)
        · exact ⟨hc1, hc2⟩
        refine wpAnyH_take (i := 0) (oi := { dst := some 18, op := Go.Op.move (Go.Operand.tmp 5), type := 3, pos := "ref.go:185", after := #[], guard := none }) (v := ?av0) rfl (by kernel_rfl) (by kernel_rfl) (by kernel_rfl) (fun _ _ _ h => h) (Or.inl ⟨by rfl, ?ay0⟩) (by assumption) ?ar0
        case ay0 => (intro w hSw; (try dsimp only at hSw); go_simp; try (with_reducible rfl))
        case ar0 =>
        try simp only [Act.put, List.setIfInBounds_toArray, List.set_cons_zero, List.set_cons_succ]
        refine wpAnyH_take (i := 1) (oi := { dst := some 19, op := Go.Op.move (Go.Operand.tmp 1), type := 22, pos := "ref.go:185", after := #[], guard := none }) (v := ?av1) rfl (by kernel_rfl) (by kernel_rfl) (by kernel_rfl) (fun _ _ _ h => h) (Or.inl ⟨by rfl, ?ay1⟩) (by assumption) ?ar1
        case ay1 => (intro w hSw; (try dsimp only at hSw); go_simp; try (with_reducible rfl))
        case ar1 =>
        try simp only [Act.put, List.setIfInBounds_toArray, List.set_cons_zero, List.set_cons_succ]
        refine wpAnyH_take (i := 2) (oi := { dst := some 20, op := Go.Op.call { callee := Go.Callee.builtin Go.Builtin.len, args := #[Go.Operand.tmp 19], argTypes := #[22] }, type := 3, pos := "ref.go:185", after := #[{ on := 1, ground := Go.Ground.data }], guard := none }) (v := ?av2) rfl (by kernel_rfl) (by kernel_rfl) (by kernel_rfl) (fun _ _ _ h => h) (Or.inl ⟨by rfl, ?ay2⟩) (by assumption) ?ar2
        case ay2 => (intro w hSw; (try dsimp only at hSw); go_simp; try (with_reducible rfl))
        case ar2 =>
        try simp only [Act.put, List.setIfInBounds_toArray, List.set_cons_zero, List.set_cons_succ]
        refine wpAnyH_take (i := 3) (oi := { dst := some 21, op := Go.Op.binOp Go.BinOp.lss 3 (Go.Operand.tmp 18) (Go.Operand.tmp 20) 3, type := 4, pos := "ref.go:185", after := #[{ on := 0, ground := Go.Ground.data }, { on := 2, ground := Go.Ground.data }], guard := none }) (v := (.bool true)) rfl (by kernel_rfl) (by kernel_rfl) (by kernel_rfl) (fun _ _ _ h => h) (Or.inl ⟨by rfl, ?ay3⟩) (by assumption) ?ar3
        case ay3 => (intro w hSw; (try dsimp only at hSw); go_simp; try (simp [hlow]))
        case ar3 =>
        try simp only [Act.put, List.setIfInBounds_toArray, List.set_cons_zero, List.set_cons_succ]
        refine wpAnyH_take (i := 4) (oi := { dst := some 22, op := Go.Op.move (Go.Operand.tmp 21), type := 4, pos := "ref.go:185", after := #[{ on := 3, ground := Go.Ground.data }], guard := none }) (v := ?av4) rfl (by kernel_rfl) (by kernel_rfl) (by kernel_rfl) (fun _ _ _ h => h) (Or.inl ⟨by rfl, ?ay4⟩) (by assumption) ?ar4
        case ay4 => (intro w hSw; (try dsimp only at hSw); go_simp; try (with_reducible rfl))
        case ar4 =>
        try simp only [Act.put, List.setIfInBounds_toArray, List.set_cons_zero, List.set_cons_succ]
        refine wpAnyH_take (i := 5) (oi := { dst := some 23, op := Go.Op.move (Go.Operand.tmp 0), type := 22, pos := "ref.go:185", after := #[{ on := 4, ground := Go.Ground.guard }], guard := some (4, true) }) (v := ?av5) rfl (by kernel_rfl) (by kernel_rfl) (by kernel_rfl) (fun _ _ _ h => h) (Or.inl ⟨by rfl, ?ay5⟩) (by assumption) ?ar5
        case ay5 => (intro w hSw; (try dsimp only at hSw); go_simp; try (with_reducible rfl))
        case ar5 =>
        try simp only [Act.put, List.setIfInBounds_toArray, List.set_cons_zero, List.set_cons_succ]
        refine wpAnyH_take (i := 6) (oi := { dst := some 24, op := Go.Op.move (Go.Operand.tmp 5), type := 3, pos := "ref.go:185", after := #[{ on := 4, ground := Go.Ground.guard }], guard := some (4, true) }) (v := ?av6) rfl (by kernel_rfl) (by kernel_rfl) (by kernel_rfl) (fun _ _ _ h => h) (Or.inl ⟨by rfl, ?ay6⟩) (by assumption) ?ar6
        case ay6 => (intro w hSw; (try dsimp only at hSw); go_simp; try (with_reducible rfl))
        case ar6 =>
        try simp only [Act.put, List.setIfInBounds_toArray, List.set_cons_zero, List.set_cons_succ]
        refine wpAnyH_take (i := 7) (oi := { dst := some 25, op := Go.Op.indexAddr 22 (Go.Operand.tmp 23) (Go.Operand.tmp 24), type := 0, pos := "ref.go:185", after := #[{ on := 5, ground := Go.Ground.data }, { on := 6, ground := Go.Ground.data }, { on := 4, ground := Go.Ground.guard }], guard := some (4, true) }) (v := ?av7) rfl (by kernel_rfl) (by kernel_rfl) (by kernel_rfl) (fun _ _ _ h => h) (Or.inl ⟨by rfl, ?ay7⟩) (by assumption) ?ar7
        case ay7 => (intro w hSw; (try dsimp only at hSw); go_simp; try (with_reducible rfl))
        case ar7 =>
        try simp only [Act.put, List.setIfInBounds_toArray, List.set_cons_zero, List.set_cons_succ]
        refine wpAnyH_take (i := 8) (oi := { dst := some 26, op := Go.Op.load 5 (Go.Operand.tmp 25), type := 5, pos := "ref.go:185", after := #[{ on := 7, ground := Go.Ground.data }, { on := 4, ground := Go.Ground.guard }], guard := some (4, true) }) (v := ?av8) rfl (by kernel_rfl) (by kernel_rfl) (by kernel_rfl) (fun _ _ _ h => h) (Or.inl ⟨by rfl, ?ay8⟩) (by assumption) ?ar8
        case ay8 => (intro w hSw; (try dsimp only at hSw); go_simp; try (with_reducible rfl))
        case ar8 =>
        try simp only [Act.put, List.setIfInBounds_toArray, List.set_cons_zero, List.set_cons_succ]
        refine wpAnyH_take (i := 9) (oi := { dst := some 27, op := Go.Op.move (Go.Operand.tmp 1), type := 22, pos := "ref.go:185", after := #[{ on := 4, ground := Go.Ground.guard }], guard := some (4, true) }) (v := ?av9) rfl (by kernel_rfl) (by kernel_rfl) (by kernel_rfl) (fun _ _ _ h => h) (Or.inl ⟨by rfl, ?ay9⟩) (by assumption) ?ar9
        case ay9 => (intro w hSw; (try dsimp only at hSw); go_simp; try (with_reducible rfl))
        case ar9 =>
        try simp only [Act.put, List.setIfInBounds_toArray, List.set_cons_zero, List.set_cons_succ]
        refine wpAnyH_take (i := 10) (oi := { dst := some 28, op := Go.Op.move (Go.Operand.tmp 5), type := 3, pos := "ref.go:185", after := #[{ on := 4, ground := Go.Ground.guard }], guard := some (4, true) }) (v := ?av10) rfl (by kernel_rfl) (by kernel_rfl) (by kernel_rfl) (fun _ _ _ h => h) (Or.inl ⟨by rfl, ?ay10⟩) (by assumption) ?ar10
        case ay10 => (intro w hSw; (try dsimp only at hSw); go_simp; try (with_reducible rfl))
        case ar10 =>
        try simp only [Act.put, List.setIfInBounds_toArray, List.set_cons_zero, List.set_cons_succ]
        refine wpAnyH_take (i := 11) (oi := { dst := some 29, op := Go.Op.indexAddr 22 (Go.Operand.tmp 27) (Go.Operand.tmp 28), type := 0, pos := "ref.go:185", after := #[{ on := 9, ground := Go.Ground.data }, { on := 10, ground := Go.Ground.data }, { on := 4, ground := Go.Ground.guard }], guard := some (4, true) }) (v := ?av11) rfl (by kernel_rfl) (by kernel_rfl) (by kernel_rfl) (fun _ _ _ h => h) (Or.inl ⟨by rfl, ?ay11⟩) (by assumption) ?ar11
        case ay11 => (intro w hSw; (try dsimp only at hSw); go_simp; try (with_reducible rfl))
        case ar11 =>
        try simp only [Act.put, List.setIfInBounds_toArray, List.set_cons_zero, List.set_cons_succ]
        refine wpAnyH_take (i := 12) (oi := { dst := some 30, op := Go.Op.load 5 (Go.Operand.tmp 29), type := 5, pos := "ref.go:185", after := #[{ on := 11, ground := Go.Ground.data }, { on := 4, ground := Go.Ground.guard }], guard := some (4, true) }) (v := ?av12) rfl (by kernel_rfl) (by kernel_rfl) (by kernel_rfl) (fun _ _ _ h => h) (Or.inl ⟨by rfl, ?ay12⟩) (by assumption) ?ar12
        case ay12 => (intro w hSw; (try dsimp only at hSw); go_simp; try (with_reducible rfl))
        case ar12 =>
        try simp only [Act.put, List.setIfInBounds_toArray, List.set_cons_zero, List.set_cons_succ]
        refine wpAnyH_take (i := 13) (oi := { dst := some 31, op := Go.Op.binOp Go.BinOp.neq 5 (Go.Operand.tmp 26) (Go.Operand.tmp 30) 5, type := 4, pos := "ref.go:185", after := #[{ on := 8, ground := Go.Ground.data }, { on := 12, ground := Go.Ground.data }, { on := 4, ground := Go.Ground.guard }], guard := some (4, true) }) (v := ?av13) rfl (by kernel_rfl) (by kernel_rfl) (by kernel_rfl) (fun _ _ _ h => h) (Or.inl ⟨by rfl, ?ay13⟩) (by assumption) ?ar13
        case ay13 => (intro w hSw; (try dsimp only at hSw); go_simp; try (with_reducible rfl))
        case ar13 =>
        try simp only [Act.put, List.setIfInBounds_toArray, List.set_cons_zero, List.set_cons_succ]
        refine wpAnyH_take (i := 14) (oi := { dst := some 32, op := Go.Op.pick (Go.Operand.tmp 22) (Go.Operand.tmp 31) (Go.Operand.const (Go.Value.bool false)), type := 4, pos := "ref.go:185", after := #[{ on := 4, ground := Go.Ground.data }, { on := 13, ground := Go.Ground.data }], guard := none }) (v := ?av14) rfl (by kernel_rfl) (by kernel_rfl) (by kernel_rfl) (fun _ _ _ h => h) (Or.inl ⟨by rfl, ?ay14⟩) (by assumption) ?ar14
        case ay14 => (intro w hSw; (try dsimp only at hSw); go_simp; try (with_reducible rfl))
        case ar14 =>
        try simp only [Act.put, List.setIfInBounds_toArray, List.set_cons_zero, List.set_cons_succ]
        refine wpAnyH_take (i := 15) (oi := { dst := some 33, op := Go.Op.move (Go.Operand.tmp 32), type := 4, pos := "ref.go:185", after := #[{ on := 14, ground := Go.Ground.data }, { on := 4, ground := Go.Ground.chain }], guard := none }) (v := ?av15) rfl (by kernel_rfl) (by kernel_rfl) (by kernel_rfl) (fun _ _ _ h => h) (Or.inl ⟨by rfl, ?ay15⟩) (by assumption) ?ar15
        case ay15 => (intro w hSw; (try dsimp only at hSw); go_simp; try (with_reducible rfl))
        case ar15 =>
        try simp only [Act.put, List.setIfInBounds_toArray, List.set_cons_zero, List.set_cons_succ]
        refine wpAnyH_take (i := 16) (oi := { dst := some 34, op := Go.Op.move (Go.Operand.tmp 5), type := 3, pos := "ref.go:185", after := #[{ on := 15, ground := Go.Ground.guard }], guard := some (15, false) }) (v := ?av16) rfl (by kernel_rfl) (by kernel_rfl) (by kernel_rfl) (fun _ _ _ h => h) (Or.inl ⟨by rfl, ?ay16⟩) (by assumption) ?ar16
        case ay16 => (intro w hSw; (try dsimp only at hSw); go_simp; try (with_reducible rfl))
        case ar16 =>
        try simp only [Act.put, List.setIfInBounds_toArray, List.set_cons_zero, List.set_cons_succ]
        refine wpAnyH_take (i := 17) (oi := { dst := some 35, op := Go.Op.move (Go.Operand.tmp 1), type := 22, pos := "ref.go:185", after := #[{ on := 15, ground := Go.Ground.guard }], guard := some (15, false) }) (v := ?av17) rfl (by kernel_rfl) (by kernel_rfl) (by kernel_rfl) (fun _ _ _ h => h) (Or.inl ⟨by rfl, ?ay17⟩) (by assumption) ?ar17
        case ay17 => (intro w hSw; (try dsimp only at hSw); go_simp; try (with_reducible rfl))
        case ar17 =>
        try simp only [Act.put, List.setIfInBounds_toArray, List.set_cons_zero, List.set_cons_succ]
        refine wpAnyH_take (i := 18) (oi := { dst := some 36, op := Go.Op.call { callee := Go.Callee.builtin Go.Builtin.len, args := #[Go.Operand.tmp 35], argTypes := #[22] }, type := 3, pos := "ref.go:185", after := #[{ on := 17, ground := Go.Ground.data }, { on := 15, ground := Go.Ground.guard }], guard := some (15, false) }) (v := ?av18) rfl (by kernel_rfl) (by kernel_rfl) (by kernel_rfl) (fun _ _ _ h => h) (Or.inl ⟨by rfl, ?ay18⟩) (by assumption) ?ar18
        case ay18 => (intro w hSw; (try dsimp only at hSw); go_simp; try (with_reducible rfl))
        case ar18 =>
        try simp only [Act.put, List.setIfInBounds_toArray, List.set_cons_zero, List.set_cons_succ]
        refine wpAnyH_take (i := 19) (oi := { dst := some 37, op := Go.Op.binOp Go.BinOp.geq 3 (Go.Operand.tmp 34) (Go.Operand.tmp 36) 3, type := 4, pos := "ref.go:185", after := #[{ on := 16, ground := Go.Ground.data }, { on := 18, ground := Go.Ground.data }, { on := 15, ground := Go.Ground.guard }], guard := some (15, false) }) (v := (.bool false)) rfl (by kernel_rfl) (by kernel_rfl) (by kernel_rfl) (fun _ _ _ h => h) (Or.inl ⟨by rfl, ?ay19⟩) (by assumption) ?ar19
        case ay19 => (intro w hSw; (try dsimp only at hSw); go_simp; try (simp [hlow]))
        case ar19 =>
        try simp only [Act.put, List.setIfInBounds_toArray, List.set_cons_zero, List.set_cons_succ]
        refine wpAnyH_take (i := 20) (oi := { dst := some 38, op := Go.Op.move (Go.Operand.tmp 37), type := 4, pos := "ref.go:185", after := #[{ on := 19, ground := Go.Ground.data }, { on := 15, ground := Go.Ground.chain }, { on := 15, ground := Go.Ground.guard }], guard := some (15, false) }) (v := ?av20) rfl (by kernel_rfl) (by kernel_rfl) (by kernel_rfl) (fun _ _ _ h => h) (Or.inl ⟨by rfl, ?ay20⟩) (by assumption) ?ar20
        case ay20 => (intro w hSw; (try dsimp only at hSw); go_simp; try (with_reducible rfl))
        case ar20 =>
        try simp only [Act.put, List.setIfInBounds_toArray, List.set_cons_zero, List.set_cons_succ]
        refine wpAnyH_take (i := 21) (oi := { dst := some 39, op := Go.Op.move (Go.Operand.tmp 0), type := 22, pos := "ref.go:185", after := #[{ on := 20, ground := Go.Ground.guard }], guard := some (20, true) }) (v := undef) rfl (by kernel_rfl) (by kernel_rfl) (by kernel_rfl) (fun _ _ _ h => h) (Or.inr ⟨by rfl, rfl⟩) (by assumption) ?_
        try simp only [Act.put, List.setIfInBounds_toArray, List.set_cons_zero, List.set_cons_succ]
        refine wpAnyH_take (i := 22) (oi := { dst := some 40, op := Go.Op.move (Go.Operand.tmp 5), type := 3, pos := "ref.go:185", after := #[{ on := 20, ground := Go.Ground.guard }], guard := some (20, true) }) (v := undef) rfl (by kernel_rfl) (by kernel_rfl) (by kernel_rfl) (fun _ _ _ h => h) (Or.inr ⟨by rfl, rfl⟩) (by assumption) ?_
        try simp only [Act.put, List.setIfInBounds_toArray, List.set_cons_zero, List.set_cons_succ]
        refine wpAnyH_take (i := 23) (oi := { dst := some 41, op := Go.Op.indexAddr 22 (Go.Operand.tmp 39) (Go.Operand.tmp 40), type := 0, pos := "ref.go:185", after := #[{ on := 21, ground := Go.Ground.data }, { on := 22, ground := Go.Ground.data }, { on := 20, ground := Go.Ground.guard }], guard := some (20, true) }) (v := undef) rfl (by kernel_rfl) (by kernel_rfl) (by kernel_rfl) (fun _ _ _ h => h) (Or.inr ⟨by rfl, rfl⟩) (by assumption) ?_
        try simp only [Act.put, List.setIfInBounds_toArray, List.set_cons_zero, List.set_cons_succ]
        refine wpAnyH_take (i := 24) (oi := { dst := some 42, op := Go.Op.load 5 (Go.Operand.tmp 41), type := 5, pos := "ref.go:185", after := #[{ on := 23, ground := Go.Ground.data }, { on := 20, ground := Go.Ground.guard }], guard := some (20, true) }) (v := undef) rfl (by kernel_rfl) (by kernel_rfl) (by kernel_rfl) (fun _ _ _ h => h) (Or.inr ⟨by rfl, rfl⟩) (by assumption) ?_
        try simp only [Act.put, List.setIfInBounds_toArray, List.set_cons_zero, List.set_cons_succ]
        refine wpAnyH_take (i := 25) (oi := { dst := some 43, op := Go.Op.move (Go.Operand.tmp 5), type := 3, pos := "ref.go:185", after := #[{ on := 20, ground := Go.Ground.guard }], guard := some (20, true) }) (v := undef) rfl (by kernel_rfl) (by kernel_rfl) (by kernel_rfl) (fun _ _ _ h => h) (Or.inr ⟨by rfl, rfl⟩) (by assumption) ?_
        try simp only [Act.put, List.setIfInBounds_toArray, List.set_cons_zero, List.set_cons_succ]
        refine wpAnyH_take (i := 26) (oi := { dst := some 44, op := Go.Op.binOp Go.BinOp.add 3 (Go.Operand.const (Go.Value.int Go.IntKind.i64 201)) (Go.Operand.tmp 43) 3, type := 3, pos := "ref.go:185", after := #[{ on := 25, ground := Go.Ground.data }, { on := 20, ground := Go.Ground.guard }], guard := some (20, true) }) (v := undef) rfl (by kernel_rfl) (by kernel_rfl) (by kernel_rfl) (fun _ _ _ h => h) (Or.inr ⟨by rfl, rfl⟩) (by assumption) ?_
        try simp only [Act.put, List.setIfInBounds_toArray, List.set_cons_zero, List.set_cons_succ]
        refine wpAnyH_take (i := 27) (oi := { dst := some 45, op := Go.Op.convert 3 5 (Go.Operand.tmp 44), type := 5, pos := "ref.go:185", after := #[{ on := 26, ground := Go.Ground.data }, { on := 20, ground := Go.Ground.guard }], guard := some (20, true) }) (v := undef) rfl (by kernel_rfl) (by kernel_rfl) (by kernel_rfl) (fun _ _ _ h => h) (Or.inr ⟨by rfl, rfl⟩) (by assumption) ?_
        try simp only [Act.put, List.setIfInBounds_toArray, List.set_cons_zero, List.set_cons_succ]
        refine wpAnyH_take (i := 28) (oi := { dst := some 46, op := Go.Op.binOp Go.BinOp.neq 5 (Go.Operand.tmp 42) (Go.Operand.tmp 45) 5, type := 4, pos := "ref.go:185", after := #[{ on := 24, ground := Go.Ground.data }, { on := 27, ground := Go.Ground.data }, { on := 20, ground := Go.Ground.guard }], guard := some (20, true) }) (v := undef) rfl (by kernel_rfl) (by kernel_rfl) (by kernel_rfl) (fun _ _ _ h => h) (Or.inr ⟨by rfl, rfl⟩) (by assumption) ?_
        try simp only [Act.put, List.setIfInBounds_toArray, List.set_cons_zero, List.set_cons_succ]
        refine wpAnyH_take (i := 29) (oi := { dst := some 47, op := Go.Op.pick (Go.Operand.tmp 38) (Go.Operand.tmp 46) (Go.Operand.const (Go.Value.bool false)), type := 4, pos := "ref.go:185", after := #[{ on := 20, ground := Go.Ground.data }, { on := 28, ground := Go.Ground.data }, { on := 15, ground := Go.Ground.guard }], guard := some (15, false) }) (v := ?av29) rfl (by kernel_rfl) (by kernel_rfl) (by kernel_rfl) (fun _ _ _ h => h) (Or.inl ⟨by rfl, ?ay29⟩) (by assumption) ?ar29
        case ay29 => (intro w hSw; (try dsimp only at hSw); go_simp; try (with_reducible rfl))
        case ar29 =>
        try simp only [Act.put, List.setIfInBounds_toArray, List.set_cons_zero, List.set_cons_succ]
        refine wpAnyH_take (i := 30) (oi := { dst := some 48, op := Go.Op.pick (Go.Operand.tmp 33) (Go.Operand.const (Go.Value.bool true)) (Go.Operand.tmp 47), type := 4, pos := "ref.go:185", after := #[{ on := 15, ground := Go.Ground.data }, { on := 29, ground := Go.Ground.data }], guard := none }) (v := ?av30) rfl (by kernel_rfl) (by kernel_rfl) (by kernel_rfl) (fun _ _ _ h => h) (Or.inl ⟨by rfl, ?ay30⟩) (by assumption) ?ar30
        case ay30 => (intro w hSw; (try dsimp only at hSw); go_simp; try (with_reducible rfl))
        case ar30 =>
        try simp only [Act.put, List.setIfInBounds_toArray, List.set_cons_zero, List.set_cons_succ]
        refine wpAnyH_done (by kernel_rfl) ?_ _
        go_wp2
        exact ⟨⟨i + 1, by omega, by go_num, k + 1, by rw [HW.out]; rfl⟩, by simp [intOf]; omega⟩
      · have hci := hbc i _ (tinted_high (by omega) hlt)
        rw [bv_b8] at hci
        clear hbc h4
        have hs1 : IntKind.i64.wrap (201 + (i : Int)) = 201 + (i : Int) := IntWalk.i64_in _ (by omega)
        have hs2 : IntKind.u8.wrap (201 + (i : Int)) = (201 + (i : Int)) % 256 := IntKind.wrap_u8 _
        obtain ⟨m, hm⟩ : ∃ m, m = (201 + (i : Int)) % 256 := ⟨_, rfl⟩
        rw [← hm] at hci hs2
        obtain ⟨W, hW⟩ : ∃ W, W = w.drewN k := ⟨_, rfl⟩
        have hc1 : W.drew.cell? ⟨b, o + i, none⟩ = some (.int .u8 m) := by rw [hW]; exact hci
        have HW := Lib.hid hW
        rw [← hW]
        clear e2 he0 hX hY hci hW hm
        go_wp2_with fail
        refine wp_region_held_drew (S := (fun w' => w'.cell? ⟨b, o + i, none⟩ = some (.int .u8 m))) (by kernel_rfl) ?_ (fun hHeld => ?_)
        · exact hc1
        refine wpAnyH_take (i := 0) (oi := { dst := some 18, op := Go.Op.move (Go.Operand.tmp 5), type := 3, pos := "ref.go:185", after := #[], guard := none }) (v := ?bv0) rfl (by kernel_rfl) (by kernel_rfl) (by kernel_rfl) (fun _ _ _ h => h) (Or.inl ⟨by rfl, ?by0⟩) (by assumption) ?br0
        case by0 => (intro w hSw; (try dsimp only at hSw); go_simp; try (with_reducible rfl))
        case br0 =>
        try simp only [Act.put, List.setIfInBounds_toArray, List.set_cons_zero, List.set_cons_succ]
        refine wpAnyH_take (i := 1) (oi := { dst := some 19, op := Go.Op.move (Go.Operand.tmp 1), type := 22, pos := "ref.go:185", after := #[], guard := none }) (v := ?bv1) rfl (by kernel_rfl) (by kernel_rfl) (by kernel_rfl) (fun _ _ _ h => h) (Or.inl ⟨by rfl, ?by1⟩) (by assumption) ?br1
        case by1 => (intro w hSw; (try dsimp only at hSw); go_simp; try (with_reducible rfl))
        case br1 =>
        try simp only [Act.put, List.setIfInBounds_toArray, List.set_cons_zero, List.set_cons_succ]
        refine wpAnyH_take (i := 2) (oi := { dst := some 20, op := Go.Op.call { callee := Go.Callee.builtin Go.Builtin.len, args := #[Go.Operand.tmp 19], argTypes := #[22] }, type := 3, pos := "ref.go:185", after := #[{ on := 1, ground := Go.Ground.data }], guard := none }) (v := ?bv2) rfl (by kernel_rfl) (by kernel_rfl) (by kernel_rfl) (fun _ _ _ h => h) (Or.inl ⟨by rfl, ?by2⟩) (by assumption) ?br2
        case by2 => (intro w hSw; (try dsimp only at hSw); go_simp; try (with_reducible rfl))
        case br2 =>
        try simp only [Act.put, List.setIfInBounds_toArray, List.set_cons_zero, List.set_cons_succ]
        refine wpAnyH_take (i := 3) (oi := { dst := some 21, op := Go.Op.binOp Go.BinOp.lss 3 (Go.Operand.tmp 18) (Go.Operand.tmp 20) 3, type := 4, pos := "ref.go:185", after := #[{ on := 0, ground := Go.Ground.data }, { on := 2, ground := Go.Ground.data }], guard := none }) (v := (.bool false)) rfl (by kernel_rfl) (by kernel_rfl) (by kernel_rfl) (fun _ _ _ h => h) (Or.inl ⟨by rfl, ?by3⟩) (by assumption) ?br3
        case by3 => (intro w hSw; (try dsimp only at hSw); go_simp; try (simp [hlow]))
        case br3 =>
        try simp only [Act.put, List.setIfInBounds_toArray, List.set_cons_zero, List.set_cons_succ]
        refine wpAnyH_take (i := 4) (oi := { dst := some 22, op := Go.Op.move (Go.Operand.tmp 21), type := 4, pos := "ref.go:185", after := #[{ on := 3, ground := Go.Ground.data }], guard := none }) (v := ?bv4) rfl (by kernel_rfl) (by kernel_rfl) (by kernel_rfl) (fun _ _ _ h => h) (Or.inl ⟨by rfl, ?by4⟩) (by assumption) ?br4
        case by4 => (intro w hSw; (try dsimp only at hSw); go_simp; try (with_reducible rfl))
        case br4 =>
        try simp only [Act.put, List.setIfInBounds_toArray, List.set_cons_zero, List.set_cons_succ]
        refine wpAnyH_take (i := 5) (oi := { dst := some 23, op := Go.Op.move (Go.Operand.tmp 0), type := 22, pos := "ref.go:185", after := #[{ on := 4, ground := Go.Ground.guard }], guard := some (4, true) }) (v := undef) rfl (by kernel_rfl) (by kernel_rfl) (by kernel_rfl) (fun _ _ _ h => h) (Or.inr ⟨by rfl, rfl⟩) (by assumption) ?_
        try simp only [Act.put, List.setIfInBounds_toArray, List.set_cons_zero, List.set_cons_succ]
        refine wpAnyH_take (i := 6) (oi := { dst := some 24, op := Go.Op.move (Go.Operand.tmp 5), type := 3, pos := "ref.go:185", after := #[{ on := 4, ground := Go.Ground.guard }], guard := some (4, true) }) (v := undef) rfl (by kernel_rfl) (by kernel_rfl) (by kernel_rfl) (fun _ _ _ h => h) (Or.inr ⟨by rfl, rfl⟩) (by assumption) ?_
        try simp only [Act.put, List.setIfInBounds_toArray, List.set_cons_zero, List.set_cons_succ]
        refine wpAnyH_take (i := 7) (oi := { dst := some 25, op := Go.Op.indexAddr 22 (Go.Operand.tmp 23) (Go.Operand.tmp 24), type := 0, pos := "ref.go:185", after := #[{ on := 5, ground := Go.Ground.data }, { on := 6, ground := Go.Ground.data }, { on := 4, ground := Go.Ground.guard }], guard := some (4, true) }) (v := undef) rfl (by kernel_rfl) (by kernel_rfl) (by kernel_rfl) (fun _ _ _ h => h) (Or.inr ⟨by rfl, rfl⟩) (by assumption) ?_
        try simp only [Act.put, List.setIfInBounds_toArray, List.set_cons_zero, List.set_cons_succ]
        refine wpAnyH_take (i := 8) (oi := { dst := some 26, op := Go.Op.load 5 (Go.Operand.tmp 25), type := 5, pos := "ref.go:185", after := #[{ on := 7, ground := Go.Ground.data }, { on := 4, ground := Go.Ground.guard }], guard := some (4, true) }) (v := undef) rfl (by kernel_rfl) (by kernel_rfl) (by kernel_rfl) (fun _ _ _ h => h) (Or.inr ⟨by rfl, rfl⟩) (by assumption) ?_
        try simp only [Act.put, List.setIfInBounds_toArray, List.set_cons_zero, List.set_cons_succ]
        refine wpAnyH_take (i := 9) (oi := { dst := some 27, op := Go.Op.move (Go.Operand.tmp 1), type := 22, pos := "ref.go:185", after := #[{ on := 4, ground := Go.Ground.guard }], guard := some (4, true) }) (v := undef) rfl (by kernel_rfl) (by kernel_rfl) (by kernel_rfl) (fun _ _ _ h => h) (Or.inr ⟨by rfl, rfl⟩) (by assumption) ?_
        try simp only [Act.put, List.setIfInBounds_toArray, List.set_cons_zero, List.set_cons_succ]
        refine wpAnyH_take (i := 10) (oi := { dst := some 28, op := Go.Op.move (Go.Operand.tmp 5), type := 3, pos := "ref.go:185", after := #[{ on := 4, ground := Go.Ground.guard }], guard := some (4, true) }) (v := undef) rfl (by kernel_rfl) (by kernel_rfl) (by kernel_rfl) (fun _ _ _ h => h) (Or.inr ⟨by rfl, rfl⟩) (by assumption) ?_
        try simp only [Act.put, List.setIfInBounds_toArray, List.set_cons_zero, List.set_cons_succ]
        refine wpAnyH_take (i := 11) (oi := { dst := some 29, op := Go.Op.indexAddr 22 (Go.Operand.tmp 27) (Go.Operand.tmp 28), type := 0, pos := "ref.go:185", after := #[{ on := 9, ground := Go.Ground.data }, { on := 10, ground := Go.Ground.data }, { on := 4, ground := Go.Ground.guard }], guard := some (4, true) }) (v := undef) rfl (by kernel_rfl) (by kernel_rfl) (by kernel_rfl) (fun _ _ _ h => h) (Or.inr ⟨by rfl, rfl⟩) (by assumption) ?_
        try simp only [Act.put, List.setIfInBounds_toArray, List.set_cons_zero, List.set_cons_succ]
        refine wpAnyH_take (i := 12) (oi := { dst := some 30, op := Go.Op.load 5 (Go.Operand.tmp 29), type := 5, pos := "ref.go:185", after := #[{ on := 11, ground := Go.Ground.data }, { on := 4, ground := Go.Ground.guard }], guard := some (4, true) }) (v := undef) rfl (by kernel_rfl) (by kernel_rfl) (by kernel_rfl) (fun _ _ _ h => h) (Or.inr ⟨by rfl, rfl⟩) (by assumption) ?_
        try simp only [Act.put, List.setIfInBounds_toArray, List.set_cons_zero, List.set_cons_succ]
        refine wpAnyH_take (i := 13) (oi := { dst := some 31, op := Go.Op.binOp Go.BinOp.neq 5 (Go.Operand.tmp 26) (Go.Operand.tmp 30) 5, type := 4, pos := "ref.go:185", after := #[{ on := 8, ground := Go.Ground.data }, { on := 12, ground := Go.Ground.data }, { on := 4, ground := Go.Ground.guard }], guard := some (4, true) }) (v := undef) rfl (by kernel_rfl) (by kernel_rfl) (by kernel_rfl) (fun _ _ _ h => h) (Or.inr ⟨by rfl, rfl⟩) (by assumption) ?_
        try simp only [Act.put, List.setIfInBounds_toArray, List.set_cons_zero, List.set_cons_succ]
        refine wpAnyH_take (i := 14) (oi := { dst := some 32, op := Go.Op.pick (Go.Operand.tmp 22) (Go.Operand.tmp 31) (Go.Operand.const (Go.Value.bool false)), type := 4, pos := "ref.go:185", after := #[{ on := 4, ground := Go.Ground.data }, { on := 13, ground := Go.Ground.data }], guard := none }) (v := ?bv14) rfl (by kernel_rfl) (by kernel_rfl) (by kernel_rfl) (fun _ _ _ h => h) (Or.inl ⟨by rfl, ?by14⟩) (by assumption) ?br14
        case by14 => (intro w hSw; (try dsimp only at hSw); go_simp; try (with_reducible rfl))
        case br14 =>
        try simp only [Act.put, List.setIfInBounds_toArray, List.set_cons_zero, List.set_cons_succ]
        refine wpAnyH_take (i := 15) (oi := { dst := some 33, op := Go.Op.move (Go.Operand.tmp 32), type := 4, pos := "ref.go:185", after := #[{ on := 14, ground := Go.Ground.data }, { on := 4, ground := Go.Ground.chain }], guard := none }) (v := ?bv15) rfl (by kernel_rfl) (by kernel_rfl) (by kernel_rfl) (fun _ _ _ h => h) (Or.inl ⟨by rfl, ?by15⟩) (by assumption) ?br15
        case by15 => (intro w hSw; (try dsimp only at hSw); go_simp; try (with_reducible rfl))
        case br15 =>
        try simp only [Act.put, List.setIfInBounds_toArray, List.set_cons_zero, List.set_cons_succ]
        refine wpAnyH_take (i := 16) (oi := { dst := some 34, op := Go.Op.move (Go.Operand.tmp 5), type := 3, pos := "ref.go:185", after := #[{ on := 15, ground := Go.Ground.guard }], guard := some (15, false) }) (v := ?bv16) rfl (by kernel_rfl) (by kernel_rfl) (by kernel_rfl) (fun _ _ _ h => h) (Or.inl ⟨by rfl, ?by16⟩) (by assumption) ?br16
        case by16 => (intro w hSw; (try dsimp only at hSw); go_simp; try (with_reducible rfl))
        case br16 =>
        try simp only [Act.put, List.setIfInBounds_toArray, List.set_cons_zero, List.set_cons_succ]
        refine wpAnyH_take (i := 17) (oi := { dst := some 35, op := Go.Op.move (Go.Operand.tmp 1), type := 22, pos := "ref.go:185", after := #[{ on := 15, ground := Go.Ground.guard }], guard := some (15, false) }) (v := ?bv17) rfl (by kernel_rfl) (by kernel_rfl) (by kernel_rfl) (fun _ _ _ h => h) (Or.inl ⟨by rfl, ?by17⟩) (by assumption) ?br17
        case by17 => (intro w hSw; (try dsimp only at hSw); go_simp; try (with_reducible rfl))
        case br17 =>
        try simp only [Act.put, List.setIfInBounds_toArray, List.set_cons_zero, List.set_cons_succ]
        refine wpAnyH_take (i := 18) (oi := { dst := some 36, op := Go.Op.call { callee := Go.Callee.builtin Go.Builtin.len, args := #[Go.Operand.tmp 35], argTypes := #[22] }, type := 3, pos := "ref.go:185", after := #[{ on := 17, ground := Go.Ground.data }, { on := 15, ground := Go.Ground.guard }], guard := some (15, false) }) (v := ?bv18) rfl (by kernel_rfl) (by kernel_rfl) (by kernel_rfl) (fun _ _ _ h => h) (Or.inl ⟨by rfl, ?by18⟩) (by assumption) ?br18
        case by18 => (intro w hSw; (try dsimp only at hSw); go_simp; try (with_reducible rfl))
        case br18 =>
        try simp only [Act.put, List.setIfInBounds_toArray, List.set_cons_zero, List.set_cons_succ]
        refine wpAnyH_take (i := 19) (oi := { dst := some 37, op := Go.Op.binOp Go.BinOp.geq 3 (Go.Operand.tmp 34) (Go.Operand.tmp 36) 3, type := 4, pos := "ref.go:185", after := #[{ on := 16, ground := Go.Ground.data }, { on := 18, ground := Go.Ground.data }, { on := 15, ground := Go.Ground.guard }], guard := some (15, false) }) (v := (.bool true)) rfl (by kernel_rfl) (by kernel_rfl) (by kernel_rfl) (fun _ _ _ h => h) (Or.inl ⟨by rfl, ?by19⟩) (by assumption) ?br19
        case by19 => (intro w hSw; (try dsimp only at hSw); go_simp; try (exact Nat.le_of_not_lt hlow))
        case br19 =>
        try simp only [Act.put, List.setIfInBounds_toArray, List.set_cons_zero, List.set_cons_succ]
        refine wpAnyH_take (i := 20) (oi := { dst := some 38, op := Go.Op.move (Go.Operand.tmp 37), type := 4, pos := "ref.go:185", after := #[{ on := 19, ground := Go.Ground.data }, { on := 15, ground := Go.Ground.chain }, { on := 15, ground := Go.Ground.guard }], guard := some (15, false) }) (v := ?bv20) rfl (by kernel_rfl) (by kernel_rfl) (by kernel_rfl) (fun _ _ _ h => h) (Or.inl ⟨by rfl, ?by20⟩) (by assumption) ?br20
        case by20 => (intro w hSw; (try dsimp only at hSw); go_simp; try (with_reducible rfl))
        case br20 =>
        try simp only [Act.put, List.setIfInBounds_toArray, List.set_cons_zero, List.set_cons_succ]
        refine wpAnyH_take (i := 21) (oi := { dst := some 39, op := Go.Op.move (Go.Operand.tmp 0), type := 22, pos := "ref.go:185", after := #[{ on := 20, ground := Go.Ground.guard }], guard := some (20, true) }) (v := ?bv21) rfl (by kernel_rfl) (by kernel_rfl) (by kernel_rfl) (fun _ _ _ h => h) (Or.inl ⟨by rfl, ?by21⟩) (by assumption) ?br21
        case by21 => (intro w hSw; (try dsimp only at hSw); go_simp; try (with_reducible rfl))
        case br21 =>
        try simp only [Act.put, List.setIfInBounds_toArray, List.set_cons_zero, List.set_cons_succ]
        refine wpAnyH_take (i := 22) (oi := { dst := some 40, op := Go.Op.move (Go.Operand.tmp 5), type := 3, pos := "ref.go:185", after := #[{ on := 20, ground := Go.Ground.guard }], guard := some (20, true) }) (v := ?bv22) rfl (by kernel_rfl) (by kernel_rfl) (by kernel_rfl) (fun _ _ _ h => h) (Or.inl ⟨by rfl, ?by22⟩) (by assumption) ?br22
        case by22 => (intro w hSw; (try dsimp only at hSw); go_simp; try (with_reducible rfl))
        case br22 =>
        try simp only [Act.put, List.setIfInBounds_toArray, List.set_cons_zero, List.set_cons_succ]
        refine wpAnyH_take (i := 23) (oi := { dst := some 41, op := Go.Op.indexAddr 22 (Go.Operand.tmp 39) (Go.Operand.tmp 40), type := 0, pos := "ref.go:185", after := #[{ on := 21, ground := Go.Ground.data }, { on := 22, ground := Go.Ground.data }, { on := 20, ground := Go.Ground.guard }], guard := some (20, true) }) (v := ?bv23) rfl (by kernel_rfl) (by kernel_rfl) (by kernel_rfl) (fun _ _ _ h => h) (Or.inl ⟨by rfl, ?by23⟩) (by assumption) ?br23
        case by23 => (intro w hSw; (try dsimp only at hSw); go_simp; try (with_reducible rfl))
        case br23 =>
        try simp only [Act.put, List.setIfInBounds_toArray, List.set_cons_zero, List.set_cons_succ]
        refine wpAnyH_take (i := 24) (oi := { dst := some 42, op := Go.Op.load 5 (Go.Operand.tmp 41), type := 5, pos := "ref.go:185", after := #[{ on := 23, ground := Go.Ground.data }, { on := 20, ground := Go.Ground.guard }], guard := some (20, true) }) (v := ?bv24) rfl (by kernel_rfl) (by kernel_rfl) (by kernel_rfl) (fun _ _ _ h => h) (Or.inl ⟨by rfl, ?by24⟩) (by assumption) ?br24
        case by24 => (intro w hSw; (try dsimp only at hSw); go_simp; try (with_reducible rfl))
        case br24 =>
        try simp only [Act.put, List.setIfInBounds_toArray, List.set_cons_zero, List.set_cons_succ]
        refine wpAnyH_take (i := 25) (oi := { dst := some 43, op := Go.Op.move (Go.Operand.tmp 5), type := 3, pos := "ref.go:185", after := #[{ on := 20, ground := Go.Ground.guard }], guard := some (20, true) }) (v := ?bv25) rfl (by kernel_rfl) (by kernel_rfl) (by kernel_rfl) (fun _ _ _ h => h) (Or.inl ⟨by rfl, ?by25⟩) (by assumption) ?br25
        case by25 => (intro w hSw; (try dsimp only at hSw); go_simp; try (with_reducible rfl))
        case br25 =>
        try simp only [Act.put, List.setIfInBounds_toArray, List.set_cons_zero, List.set_cons_succ]
        refine wpAnyH_take (i := 26) (oi := { dst := some 44, op := Go.Op.binOp Go.BinOp.add 3 (Go.Operand.const (Go.Value.int Go.IntKind.i64 201)) (Go.Operand.tmp 43) 3, type := 3, pos := "ref.go:185", after := #[{ on := 25, ground := Go.Ground.data }, { on := 20, ground := Go.Ground.guard }], guard := some (20, true) }) (v := ?bv26) rfl (by kernel_rfl) (by kernel_rfl) (by kernel_rfl) (fun _ _ _ h => h) (Or.inl ⟨by rfl, ?by26⟩) (by assumption) ?br26
        case by26 => (intro w hSw; (try dsimp only at hSw); go_simp; try (with_reducible rfl))
        case br26 =>
        try simp only [Act.put, List.setIfInBounds_toArray, List.set_cons_zero, List.set_cons_succ]
        refine wpAnyH_take (i := 27) (oi := { dst := some 45, op := Go.Op.convert 3 5 (Go.Operand.tmp 44), type := 5, pos := "ref.go:185", after := #[{ on := 26, ground := Go.Ground.data }, { on := 20, ground := Go.Ground.guard }], guard := some (20, true) }) (v := (.int .u8 m)) rfl (by kernel_rfl) (by kernel_rfl) (by kernel_rfl) (fun _ _ _ h => h) (Or.inl ⟨by rfl, ?by27⟩) (by assumption) ?br27
        case by27 => (intro w hSw; (try dsimp only at hSw); go_simp; try (rw [hs1, hs2]))
        case br27 =>
        try simp only [Act.put, List.setIfInBounds_toArray, List.set_cons_zero, List.set_cons_succ]
        refine wpAnyH_take (i := 28) (oi := { dst := some 46, op := Go.Op.binOp Go.BinOp.neq 5 (Go.Operand.tmp 42) (Go.Operand.tmp 45) 5, type := 4, pos := "ref.go:185", after := #[{ on := 24, ground := Go.Ground.data }, { on := 27, ground := Go.Ground.data }, { on := 20, ground := Go.Ground.guard }], guard := some (20, true) }) (v := ?bv28) rfl (by kernel_rfl) (by kernel_rfl) (by kernel_rfl) (fun _ _ _ h => h) (Or.inl ⟨by rfl, ?by28⟩) (by assumption) ?br28
        case by28 => (intro w hSw; (try dsimp only at hSw); go_simp; try (with_reducible rfl))
        case br28 =>
        try simp only [Act.put, List.setIfInBounds_toArray, List.set_cons_zero, List.set_cons_succ]
        refine wpAnyH_take (i := 29) (oi := { dst := some 47, op := Go.Op.pick (Go.Operand.tmp 38) (Go.Operand.tmp 46) (Go.Operand.const (Go.Value.bool false)), type := 4, pos := "ref.go:185", after := #[{ on := 20, ground := Go.Ground.data }, { on := 28, ground := Go.Ground.data }, { on := 15, ground := Go.Ground.guard }], guard := some (15, false) }) (v := ?bv29) rfl (by kernel_rfl) (by kernel_rfl) (by kernel_rfl) (fun _ _ _ h => h) (Or.inl ⟨by rfl, ?by29⟩) (by assumption) ?br29
        case by29 => (intro w hSw; (try dsimp only at hSw); go_simp; try (with_reducible rfl))
        case br29 =>
        try simp only [Act.put, List.setIfInBounds_toArray, List.set_cons_zero, List.set_cons_succ]
        refine wpAnyH_take (i := 30) (oi := { dst := some 48, op := Go.Op.pick (Go.Operand.tmp 33) (Go.Operand.const (Go.Value.bool true)) (Go.Operand.tmp 47), type := 4, pos := "ref.go:185", after := #[{ on := 15, ground := Go.Ground.data }, { on := 29, ground := Go.Ground.data }], guard := none }) (v := ?bv30) rfl (by kernel_rfl) (by kernel_rfl) (by kernel_rfl) (fun _ _ _ h => h) (Or.inl ⟨by rfl, ?by30⟩) (by assumption) ?br30
        case by30 => (intro w hSw; (try dsimp only at hSw); go_simp; try (with_reducible rfl))
        case br30 =>
        try simp only [Act.put, List.setIfInBounds_toArray, List.set_cons_zero, List.set_cons_succ]
        refine wpAnyH_done (by kernel_rfl) ?_ _
        go_wp2
        exact ⟨⟨i + 1, by omega, by go_num, k + 1, by rw [HW.out]; rfl⟩, by simp [intOf]; omega⟩
    · go_wp2
      go_ret
      exact ⟨rfl, k, rfl⟩

end Go.Proofs.YtfkpdbmgiefnfaaDoor
