/-
  Texts joined: HkMaster, HkFixed, Ints. Conditions: those of each.
-/
import Derived.Test.YtfkpdbmgiefnfaaDoorP19
import Derived.Test.YtfkpdbmgiefnfaaDoorP15
import Derived.Test.YtfkpdbmgiefnfaaDoorP1
import Derived.ProofKit
import Derived.OpenShut
/-
  hdkey.Master, walked. Conditions: a seed within the reach; the roots and curve.order are laid.
-/
namespace Go.Proofs.YtfkpdbmgiefnfaaDoor.Hk
open Go.RowKit

def seedName : List UInt8 := [66, 105, 116, 99, 111, 105, 110, 32, 115, 101, 101, 100]
/-- The number that a seed's digest begins with, and what follows. -/
def firstH (seed : List UInt8) : List UInt8 := (hmac seedName seed).take 32
def lastH (seed : List UInt8) : List UInt8 := (hmac seedName seed).drop 32
theorem hmac_length (k d : List UInt8) : (hmac k d).length = 64 := by unfold hmac; rw [S5.sha512_length]
theorem firstH_length (seed : List UInt8) : (firstH seed).length = 32 := by unfold firstH; rw [List.length_take, hmac_length]; rfl
theorem lastH_length (seed : List UInt8) : (lastH seed).length = 32 := by unfold lastH; rw [List.length_drop, hmac_length]
/-- May it be a seed? -/
def sizeOk (seed : List UInt8) : Bool := decide (16 ≤ seed.length) && decide (seed.length ≤ 64)
def masterC (seed : List UInt8) : List Value := if sizeOk seed && keyW (words4 (firstH seed)) then keyC (lastH seed) (0 :: firstH seed) else zeroC
def masterE (seed : List UInt8) : Int := if sizeOk seed then (if keyW (words4 (firstH seed)) then 0 else 1) else 2
theorem zero_b32 (W : World) : (zeroValue 28).run Tryd.prog W = .ok (.agg ((List.replicate 32 (0 : Int)).map (Value.int .u8)).toArray) W := by kernel_rfl

theorem zeroC_one : zeroC.toArray.all (·.oneCell') = true := keyC_one _ _
theorem info_zero : (Tryd.prog.info? 31).map (·.size) = some zeroC.length := by kernel_rfl

theorem build_zero (W : World) : (Instr.build 31 #[]).run Tryd.prog W = .ok (.agg zeroC.toArray) W := run_build W _ _ _ (by rw [key_built]; rfl)
theorem yieldsIf_build {ops : Array Oper} {S : World → Prop} {op : Oper} {a : Act} (hw : Region.wanted op (yielded ops a.tmps) = true) (ty : TypeId) (parts : Array (Nat × Operand)) (ho : op.op = .build ty parts) (v : Value)
    (hx : ∀ w, (Instr.build ty (parts.map fun p => (p.1, a.eval p.2))).run Tryd.prog w = .ok v w) : YieldsIf Tryd.prog ops S op v a :=
  .inl ⟨hw, fun w _ => by
    unfold execOp
    have h := hx w
    simp only [ho, h, Sem.run_bind, Sem.run_pure, Result.andThen_ok]⟩
theorem wp_store_vrow {op : Oper} {a : Act} {w : World} {K : Act → World → Prop} {Q : Exit → Act → World → Prop} (ty : TypeId) (x y : Operand) (ho : op.op = .store ty x y)
    {g : Nat} {t : TypeId} {vs us : List Value} (hx : a.eval x = .pointer (some ⟨g, 0, none⟩)) (hy : a.eval y = .agg us.toArray) (h : VRow w g t vs) (hi : (Tryd.prog.info? ty).map (·.size) = some us.length) (hl : vs.length = us.length) (h1 : us.toArray.all (·.oneCell') = true)
    (hn : K (a.put op.dst undef) (w.setRow g us.toArray)) : op.wp Tryd.prog a w K Q := by
  unfold Oper.wp execOp
  have hst : (Instr.storeAt ty (.pointer (some ⟨g, 0, none⟩)) (.agg us.toArray)).run Tryd.prog w = .ok () (w.setRow g us.toArray) := by
    simp only [Instr.storeAt, Instr.sureAddr, Sem.run_bind, Sem.run_pure, Result.andThen_ok]
    exact run_storeVar_row w g t ty _ _ h (by rw [hi]; simp) (by simp [hl]) h1
  simp only [ho, hx, hy, hst, Sem.run_bind, Sem.run_pure, Result.andThen_ok]
  exact hn

set_option maxRecDepth 100000 in
set_option maxHeartbeats 6400000 in
theorem master_small (A : Option Addr) (n c : Nat) (w : World) (h : n < 16 ∨ 64 < n) :
    Calls Tryd.prog 7 #[.slice A n c] w fun e w' => e = .returned (.tuple #[.agg zeroC.toArray, .int .i64 2]) ∧ Below w.heap.size w w' := by
  have z1 := zero_key
  have r1 := VRow.new w 31 zeroC
  have b1 : Below w.heap.size w (w.alloc (.cells zeroC.toArray 31)) := (Below.refl _ w).alloc (Nat.le_refl _) _
  have HF := Lib.hid (r1.setRow zeroC)
  have HB := Lib.hid (below_setRow b1 (Nat.le_refl _) zeroC.toArray)
  have R1 := Lib.hid r1
  have BZ := Lib.hid build_zero
  obtain ⟨ZC, hZC⟩ : ∃ l, l = zeroC := ⟨_, rfl⟩
  have ZI := Lib.hid info_zero
  have ZO := Lib.hid zeroC_one
  rw [← hZC] at z1 R1 HF HB ZI ZO BZ ⊢
  clear r1 b1 hZC
  go_enter Tryd.func7, Tryd.ntmps7
  rcases h with h | h
  · have d1 : decide ((n : Int) < 16) = true := decide_eq_true (by omega)
    go_wp2_with (first
      | (refine S5.wpList_build_lit rfl 31 _ (.agg ZC.toArray) rfl (fun W => by (simp only [List.map_toArray, List.map_nil]; exact BZ.out W)) ?_)
      | (refine wpList_store_vrow rfl 31 (.tmp 2) (.tmp 14) rfl (g := w.heap.size) (t := 31) (vs := ZC) (us := ZC) rfl rfl R1.out ZI.out rfl ZO.out ?_))
    refine bodyPost_ret (v := .tuple #[.agg ZC.toArray, .int .i64 2]) ?_ rfl ⟨rfl, HB.out⟩
    exact results_row_tmp Tryd.results7 _ _ w.heap.size 31 ZC.toArray (0, 0) _ _ rfl rfl HF.out Tryd.underlying31 rfl (by rw [List.size_toArray]; exact ZI.out)
  · have d1 : decide ((n : Int) < 16) = false := decide_eq_false (by omega)
    have d2 : decide (64 < (n : Int)) = true := decide_eq_true (by omega)
    go_wp2_with (first
      | (refine S5.wpList_build_lit rfl 31 _ (.agg ZC.toArray) rfl (fun W => by (simp only [List.map_toArray, List.map_nil]; exact BZ.out W)) ?_)
      | (refine wpList_store_vrow rfl 31 (.tmp 2) (.tmp 14) rfl (g := w.heap.size) (t := 31) (vs := ZC) (us := ZC) rfl rfl R1.out ZI.out rfl ZO.out ?_))
    refine bodyPost_ret (v := .tuple #[.agg ZC.toArray, .int .i64 2]) ?_ rfl ⟨rfl, HB.out⟩
    exact results_row_tmp Tryd.results7 _ _ w.heap.size 31 ZC.toArray (0, 0) _ _ rfl rfl HF.out Tryd.underlying31 rfl (by rw [List.size_toArray]; exact ZI.out)

set_option maxRecDepth 100000 in
set_option maxHeartbeats 12800000 in
theorem master_sized (B : Nat) (v : Value) (seed : List UInt8) (w : World) (hx : Byt w B v seed) (hB : B ≤ w.heap.size) (h16 : 16 ≤ seed.length) (h64 : seed.length ≤ 64) (hr : Roots w) (ho : OrdIs w) :
    Calls Tryd.prog 7 #[v] w fun e w' => e = .returned (.tuple #[.agg (if keyW (words4 (firstH seed)) then keyC (lastH seed) (0 :: firstH seed) else zeroC).toArray, .int .i64 (if keyW (words4 (firstH seed)) then 0 else 1)]) ∧ Below w.heap.size w w' := by
  obtain ⟨A, c, rfl⟩ := hx.form
  have z1 := zero_key
  have z2 := zero_b32
  have r1 := VRow.new w 31 zeroC
  have b1 : Below w.heap.size w (w.alloc (.cells zeroC.toArray 31)) := (Below.refl _ w).alloc (Nat.le_refl _) _
  have hs1 : (w.alloc (.cells zeroC.toArray 31)).heap.size = w.heap.size + 1 := by simp
  have BZ := Lib.hid build_zero
  have ZI := Lib.hid info_zero
  have ZO := Lib.hid zeroC_one
  have ZL := Lib.hid (show zeroC.length = 71 from rfl)
  obtain ⟨ZC, hZC⟩ : ∃ l, l = zeroC := ⟨_, rfl⟩
  rw [← hZC] at z1 r1 b1 hs1 ZI ZO BZ ZL ⊢
  obtain ⟨wA, hwA⟩ : ∃ z, z = w.alloc (.cells ZC.toArray 31) := ⟨_, rfl⟩
  rw [← hwA] at r1 b1 hs1
  obtain ⟨GA, hGA⟩ : ∃ g, g = w.heap.size := ⟨_, rfl⟩
  rw [← hGA] at r1 b1 hs1
  have bm : Byt (wA.alloc (.cells (seedName.map bv).toArray 5 (12, 13))) (wA.heap.size + 1) (.slice (some ⟨wA.heap.size, 0, none⟩) 12 12) seedName := Byt.madeF wA _ _ (12, 13) seedName rfl (by unfold maxLen; decide)
  have b2 : Below wA.heap.size wA (wA.alloc (.cells (seedName.map bv).toArray 5 (12, 13))) := (Below.refl _ wA).alloc (Nat.le_refl _) _
  have hs2 : (wA.alloc (.cells (seedName.map bv).toArray 5 (12, 13))).heap.size = wA.heap.size + 1 := by simp
  have hm := hmac_any (wA.heap.size + 1) _ (.slice A seed.length c) seedName seed _ bm (((hx.below (b1.mono (by omega))).below (b2.mono (by omega))).more (by omega)) (by rw [hs2]; omega) (by decide) (by omega) ((hr.below (by rw [← hGA]; exact b1)).below b2)
  have hsz2 := hs2
  rw [hs1] at hm hs2 b2
  obtain ⟨wB, hwB⟩ : ∃ z, z = wA.alloc (.cells (seedName.map bv).toArray 5 (12, 13)) := ⟨_, rfl⟩
  rw [← hwB] at hm hs2 b2
  have hHl := hmac_length seedName seed
  have l1 := firstH_length seed
  have l2 := lastH_length seed
  have hh := fun W => halves_any (hmac seedName seed) W hHl
  have hv := fun W hoW => valid_any (firstH seed) W l1 hoW
  have hp := fun W => priv_any (firstH seed) W l1
  have bk := fun W => build_key (lastH seed) (0 :: firstH seed) l2 (by rw [List.length_cons, l1]) W
  have kl := keyC_length l2 (show (0 :: firstH seed).length = 33 by rw [List.length_cons, l1])
  have k1 := keyC_one (lastH seed) (0 :: firstH seed)
  change ∀ W, Calls Tryd.prog 16 #[digV (hmac seedName seed)] W fun e w' => e = .returned (.tuple #[digV (firstH seed), digV (lastH seed)]) ∧ Below W.heap.size W w' at hh
  unfold digV at hm hh hv hp
  obtain ⟨VH, hVH⟩ : ∃ V, V = ((nums (hmac seedName seed)).map (Value.int .u8)).toArray := ⟨_, rfl⟩
  rw [← hVH] at hm hh
  obtain ⟨F, hF⟩ : ∃ l, l = nums (firstH seed) := ⟨_, rfl⟩
  obtain ⟨L, hL⟩ : ∃ l, l = nums (lastH seed) := ⟨_, rfl⟩
  obtain ⟨D, hD⟩ : ∃ l, l = nums (0 :: firstH seed) := ⟨_, rfl⟩
  have lF : F.length = 32 := by rw [hF, nums_length, l1]
  have lL : L.length = 32 := by rw [hL, nums_length, l2]
  rw [← hF] at hh hv hp
  rw [← hL] at hh bk
  rw [← hD] at hp bk
  obtain ⟨KC, hKC⟩ : ∃ l, l = keyC (lastH seed) (0 :: firstH seed) := ⟨_, rfl⟩
  rw [← hKC] at bk kl k1 ⊢
  obtain ⟨kb, hkb⟩ : ∃ kb, kb = keyW (words4 (firstH seed)) := ⟨_, rfl⟩
  rw [← hkb] at hv ⊢
  have IF := Lib.hid (show (Tryd.prog.info? 28).map (·.size) = some F.length by rw [lF]; exact info_b32)
  have IL := Lib.hid (show (Tryd.prog.info? 28).map (·.size) = some L.length by rw [lL]; exact info_b32)
  have IK := Lib.hid (show (Tryd.prog.info? 31).map (·.size) = some KC.length by rw [kl]; exact info_key)
  have LF := Lib.hid lF
  have LL := Lib.hid lL
  have KL := Lib.hid kl
  have KO := Lib.hid k1
  have HM := Lib.hid hm
  have HH := Lib.hid hh
  have HV := Lib.hid hv
  have HP := Lib.hid hp
  have BK := Lib.hid bk
  have R1 := Lib.hid r1
  have B1 := Lib.hid b1
  have B2 := Lib.hid b2
  have S1 := Lib.hid hs1
  have S2 := Lib.hid hs2
  have HO := Lib.hid ho
  have HWA := Lib.hid hwA
  have HWB := Lib.hid hwB
  have HGA := Lib.hid hGA
  have d1 : decide ((seed.length : Int) < 16) = false := decide_eq_false (by omega)
  have d2 : decide (64 < (seed.length : Int)) = false := decide_eq_false (by omega)
  have OG := Lib.hid ho.1
  have kc := Lib.run_convert_bytes_const (P := Tryd.prog) (w.alloc (.cells ZC.toArray 31)) 22 5 #[.int .u8 66, .int .u8 105, .int .u8 116, .int .u8 99, .int .u8 111, .int .u8 105, .int .u8 110, .int .u8 32, .int .u8 115, .int .u8 101, .int .u8 101, .int .u8 100] 12 12 Tryd.underlying22 Tryd.underlying5
  rw [World.size_alloc] at kc
  clear hx hB h16 h64 hr ho r1 b1 hs1 hZC hwA hGA bm b2 hs2 hm hwB hHl l1 l2 hh hv hp bk kl k1 hVH hF hL hD lF lL hKC hkb hsz2
  go_enter Tryd.func7, Tryd.ntmps7
  go_wp2_with fail
  have e1 : (w.alloc (.cells ZC.toArray 31)).alloc (.cells (seedName.map bv).toArray 5 (12, 13)) = wB := by rw [HWB.out, HWA.out]
  change Calls _ _ _ ((w.alloc (.cells ZC.toArray 31)).alloc (.cells (seedName.map bv).toArray 5 (12, 13))) _
  rw [e1]
  clear e1
  rw [show w.heap.size = GA from HGA.out.symm]
  refine HM.out.mono ?_
  rintro e w2 ⟨rfl, hb2⟩
  go_wp2_with fail
  refine (HH.out _).mono ?_
  rintro e w3 ⟨rfl, hb3⟩
  have hs2 := hb2.size
  have hs3 := hb3.size
  have q1 := S1.out
  have q2 := S2.out
  have b3 : Below (GA + 1) wA w3 := B2.out.trans ((hb2.mono (by omega)).trans (hb3.mono (by omega)))
  have hz3 : GA + 1 < w3.heap.size := by omega
  have i4 := irow_alloc (IRow.new w3 28 .u8 (List.replicate 32 0)) (.cells ((List.replicate 32 (0 : Int)).map (Value.int .u8)).toArray 28)
  have i5 := IRow.new (w3.alloc (.cells ((List.replicate 32 (0 : Int)).map (Value.int .u8)).toArray 28)) 28 .u8 (List.replicate 32 0)
  rw [World.size_alloc] at i5
  have j4 := setRow_irow (ys := F) i4
  have j5 := irow_setRow i5 (by omega : w3.heap.size ≠ w3.heap.size + 1) (F.map (Value.int .u8)).toArray
  have k4 := irow_setRow j4 (by omega : w3.heap.size + 1 ≠ w3.heap.size) (L.map (Value.int .u8)).toArray
  have k5 := setRow_irow (ys := L) j5
  have b5 : Below w3.heap.size w3 ((((w3.alloc (.cells ((List.replicate 32 (0 : Int)).map (Value.int .u8)).toArray 28)).alloc (.cells ((List.replicate 32 (0 : Int)).map (Value.int .u8)).toArray 28)).setRow w3.heap.size (F.map (Value.int .u8)).toArray).setRow (w3.heap.size + 1) (L.map (Value.int .u8)).toArray) := below_setRow (below_setRow (((Below.refl _ w3).alloc (Nat.le_refl _) _).alloc (by simp) _) (Nat.le_refl _) _) (by omega) _
  have r5 := (R1.out.below b3 (by omega)).below b5 (by omega)
  have bb := (B1.out.trans (b3.mono (by omega))).trans (b5.mono (by omega))
  have o5 : OrdIs ((((w3.alloc (.cells ((List.replicate 32 (0 : Int)).map (Value.int .u8)).toArray 28)).alloc (.cells ((List.replicate 32 (0 : Int)).map (Value.int .u8)).toArray 28)).setRow w3.heap.size (F.map (Value.int .u8)).toArray).setRow (w3.heap.size + 1) (L.map (Value.int .u8)).toArray) := HO.out.below (B := GA) bb (by have := OG.out; have := HGA.out; omega)
  have I4 := Lib.hid i4
  have J5 := Lib.hid j5
  clear i4 i5 j4 j5 hs2 hs3 q1 q2 b3 b5 hb2 hb3
  go_upto_region 4 with (first
    | (refine wpList_store_irow rfl 28 (.tmp 4) (.tmp 21) rfl (g := w3.heap.size) (t := 28) (k := .u8) (xs := List.replicate 32 0) (ys := F) rfl rfl I4.out IF.out (by rw [LF.out]; rfl) ?_)
    | (refine wpList_store_irow rfl 28 (.tmp 5) (.tmp 22) rfl (g := w3.heap.size + 1) (t := 28) (k := .u8) (xs := List.replicate 32 0) (ys := L) rfl rfl J5.out IL.out (by rw [LL.out]; rfl) ?_))
  change Code.wp _ _ _ _ ((((w3.alloc (.cells ((List.replicate 32 (0 : Int)).map (Value.int .u8)).toArray 28)).alloc (.cells ((List.replicate 32 (0 : Int)).map (Value.int .u8)).toArray 28)).setRow w3.heap.size (F.map (Value.int .u8)).toArray).setRow (w3.heap.size + 1) (L.map (Value.int .u8)).toArray)
  obtain ⟨w5, hw5⟩ : ∃ z, z = (((w3.alloc (.cells ((List.replicate 32 (0 : Int)).map (Value.int .u8)).toArray 28)).alloc (.cells ((List.replicate 32 (0 : Int)).map (Value.int .u8)).toArray 28)).setRow w3.heap.size (F.map (Value.int .u8)).toArray).setRow (w3.heap.size + 1) (L.map (Value.int .u8)).toArray := ⟨_, rfl⟩
  rw [← hw5] at k4 k5 r5 bb o5 ⊢
  obtain ⟨G4, hG4⟩ : ∃ g, g = w3.heap.size := ⟨_, rfl⟩
  rw [← hG4] at k4 k5 hz3 ⊢
  have K4 := Lib.hid k4
  have K5 := Lib.hid k5
  have R5 := Lib.hid r5
  have BB := Lib.hid bb
  have V5 := Lib.hid (HV.out w5 o5)
  have HZ3 := Lib.hid hz3
  clear I4 J5 hw5 hG4 k4 k5 r5 bb o5 hz3
  try dsimp only [Act.put]
  go_wp2_with (refine wpList_load_irow rfl 28 (.tmp 4) rfl (g := G4) (t := 28) (k := .u8) (xs := F) rfl K4.out Tryd.underlying28 IF.out ?_)
  refine V5.out.mono ?_
  rintro e w6 ⟨rfl, hb6⟩
  have hz := HZ3.out
  have k4 := K4.out.below hb6 K4.out.lt
  have k5 := K5.out.below hb6 K5.out.lt
  have r6 := R5.out.below hb6 R5.out.lt
  have b6 := BB.out.trans (hb6.mono (by have := BB.out.size; have := HGA.out; omega))
  clear V5 K4 K5 R5 BB hb6 HV
  cases kb with
  | false =>
    have HF := Lib.hid (r6.setRow ZC)
    have HB := Lib.hid (below_setRow b6 (Nat.le_refl GA) ZC.toArray)
    have R6 := Lib.hid r6
    clear k4 k5 r6 b6 hz
    go_wp2_with (first
      | (refine S5.wpList_build_lit rfl 31 _ (.agg ZC.toArray) rfl (fun W => by (simp only [List.map_toArray, List.map_nil]; exact BZ.out W)) ?_)
      | (refine wpList_store_vrow rfl 31 (.tmp 2) (.tmp 26) rfl (g := GA) (t := 31) (vs := ZC) (us := ZC) rfl rfl R6.out ZI.out rfl ZO.out ?_))
    refine bodyPost_ret (v := .tuple #[.agg ZC.toArray, .int .i64 1]) ?_ rfl ⟨rfl, by rw [← HGA.out]; exact HB.out⟩
    exact results_row_tmp Tryd.results7 _ _ GA 31 ZC.toArray (0, 0) _ _ rfl rfl HF.out Tryd.underlying31 rfl (by rw [List.size_toArray]; exact ZI.out)
  | true =>
    have PV := Lib.hid (HP.out w6.drew)
    have K4 := Lib.hid k4
    have K5 := Lib.hid k5
    have R6 := Lib.hid r6
    have B6 := Lib.hid b6
    have HIF := Lib.hid (show (Tryd.prog.info? 28).map (·.size) = some (F.map (Value.int .u8)).length by rw [List.length_map]; exact IF.out)
    have HIL := Lib.hid (show (Tryd.prog.info? 28).map (·.size) = some (L.map (Value.int .u8)).length by rw [List.length_map]; exact IL.out)
    clear k4 k5 r6 b6 hz
    go_wp2_with fail
    refine wp_region_held_drew (S := (fun w' => IRow w' G4 28 .u8 F ∧ IRow w' (G4 + 1) 28 .u8 L)) (by kernel_rfl) ?_ (fun hHeld => ?_)
    · exact ⟨K4.out.drew, K5.out.drew⟩
    refine wpAnyH_take (i := 0) (oi := { dst := some 27, op := Go.Op.load 28 (Go.Operand.tmp 5), type := 28, pos := "hdkey.go:40", after := #[], guard := none }) (v := (.agg (L.map (Value.int .u8)).toArray)) rfl (by kernel_rfl) (by kernel_rfl) (by kernel_rfl) (fun _ _ _ h => h) (yieldsIf_load_mid (by rfl) 28 (.tmp 5) rfl (G4 + 1) 0 rfl (L.map (Value.int .u8)) _ (fun w' h => irow_range h.2) Tryd.underlying28 rfl HIL.out) (by assumption) ?_
    try simp only [Act.put, List.setIfInBounds_toArray, List.set_cons_zero, List.set_cons_succ]
    refine wpAnyH_take (i := 1) (oi := { dst := some 28, op := Go.Op.load 28 (Go.Operand.tmp 4), type := 28, pos := "hdkey.go:40", after := #[], guard := none }) (v := (.agg (F.map (Value.int .u8)).toArray)) rfl (by kernel_rfl) (by kernel_rfl) (by kernel_rfl) (fun _ _ _ h => h) (yieldsIf_load_mid (by rfl) 28 (.tmp 4) rfl G4 0 rfl (F.map (Value.int .u8)) _ (fun w' h => irow_range h.1) Tryd.underlying28 rfl HIF.out) (by assumption) ?_
    try simp only [Act.put, List.setIfInBounds_toArray, List.set_cons_zero, List.set_cons_succ]
    refine wpAnyH_ready (rs := [2]) (by kernel_rfl) (by simp) ?_
    refine AllReadyH.cons (o := { dst := some 29, op := Go.Op.call { callee := Go.Callee.value (Go.Operand.func 19), args := #[Go.Operand.tmp 28], argTypes := #[28] }, type := 29, pos := "hdkey.go:40", after := #[{ on := 1, ground := Go.Ground.data }], guard := none }) rfl (fun K hK => ?_) (AllReadyH.nil)
    go_simp
    refine PV.out.mono ?_
    rintro e w7 ⟨rfl, hb7⟩
    have k4 := K4.out.drew.below hb7 K4.out.lt
    have k5 := K5.out.drew.below hb7 K5.out.lt
    have r7 : VRow w7 GA 31 ZC := VRow.below (w := w6.drew) R6.out hb7 R6.out.lt
    have b7 := B6.out.drew.trans (hb7.mono (by have := B6.out.drew.size; have := HGA.out; omega))
    have hz := HZ3.out
    have HK7 := Lib.hid (And.intro k4 k5)
    have HK8 := Lib.hid (And.intro (show IRow (w7.setRow GA KC.toArray) G4 28 .u8 F from irow_setRow k4 (by omega) _) (show IRow (w7.setRow GA KC.toArray) (G4 + 1) 28 .u8 L from irow_setRow k5 (by omega) _))
    have HF := Lib.hid (r7.setRow KC)
    have HB := Lib.hid (below_setRow b7 (Nat.le_refl GA) KC.toArray)
    have R7 := Lib.hid r7
    clear hb7 k4 k5 r7 b7 hz
    refine hK.out _ _ ?_ (fun hHeld => ?_)
    · exact HK7.out
    clear hK K
    try simp only [Act.put, List.setIfInBounds_toArray, List.set_cons_zero, List.set_cons_succ]
    refine wpAnyH_take (i := 3) (oi := { dst := some 30, op := Go.Op.build 31 #[(3, Go.Operand.tmp 27), (4, Go.Operand.tmp 29)], type := 31, pos := "hdkey.go:40", after := #[{ on := 0, ground := Go.Ground.data }, { on := 2, ground := Go.Ground.data }], guard := none }) (v := (.agg KC.toArray)) rfl (by kernel_rfl) (by kernel_rfl) (by kernel_rfl) (fun _ _ _ h => h) (yieldsIf_build (by rfl) 31 _ rfl (.agg KC.toArray) (fun W => by (simp only [List.map_toArray, List.map_cons, List.map_nil]; exact BK.out W))) (by assumption) ?_
    try simp only [Act.put, List.setIfInBounds_toArray, List.set_cons_zero, List.set_cons_succ]
    refine wpAnyH_ready (rs := [4]) (by kernel_rfl) (by simp) ?_
    refine AllReadyH.cons (o := { dst := none, op := Go.Op.store 31 (Go.Operand.tmp 2) (Go.Operand.tmp 30), type := 0, pos := "hdkey.go:40", after := #[{ on := 3, ground := Go.Ground.data }, { on := 2, ground := Go.Ground.chain }, { on := 0, ground := Go.Ground.phase }, { on := 1, ground := Go.Ground.phase }, { on := 2, ground := Go.Ground.phase }, { on := 3, ground := Go.Ground.phase }], guard := none }) rfl (fun K hK => ?_) (AllReadyH.nil)
    simp only [Region.wanted, if_true]
    refine wp_store_vrow 31 (.tmp 2) (.tmp 30) rfl (g := GA) (t := 31) (vs := ZC) (us := KC) rfl rfl R7.out IK.out (by rw [KL.out, ZL.out]) KO.out ?_
    refine hK.out _ _ ?_ (fun hHeld => ?_)
    · exact HK8.out
    clear hK K
    try simp only [Act.put]
    refine wpAnyH_take (i := 5) (oi := { dst := some 3, op := Go.Op.assign (Go.Operand.const (Go.Value.int Go.IntKind.i64 0)), type := 32, pos := "hdkey.go:40", after := #[{ on := 4, ground := Go.Ground.chain }, { on := 0, ground := Go.Ground.phase }, { on := 1, ground := Go.Ground.phase }, { on := 2, ground := Go.Ground.phase }, { on := 3, ground := Go.Ground.phase }, { on := 4, ground := Go.Ground.phase }], guard := none }) (v := ?a_2_4v5) rfl (by kernel_rfl) (by kernel_rfl) (by kernel_rfl) (fun _ _ _ h => h) (Or.inl ⟨by rfl, ?a_2_4y5⟩) (by assumption) ?a_2_4r5
    case a_2_4y5 => (intro w hSw; (try dsimp only at hSw); go_simp; try (with_reducible rfl))
    case a_2_4r5 =>
    try simp only [Act.put, List.setIfInBounds_toArray, List.set_cons_zero, List.set_cons_succ]
    refine wpAnyH_done (by kernel_rfl) ?_ _
    go_wp2_with fail
    refine bodyPost_ret (v := .tuple #[.agg KC.toArray, .int .i64 0]) ?_ rfl ⟨rfl, by rw [← HGA.out]; exact HB.out⟩
    exact results_row_tmp Tryd.results7 _ _ GA 31 KC.toArray (0, 0) _ _ rfl rfl HF.out Tryd.underlying31 rfl (by rw [List.size_toArray]; exact IK.out)

theorem master_any (B : Nat) (v : Value) (seed : List UInt8) (w : World) (hx : Byt w B v seed) (hB : B ≤ w.heap.size) (hr : Roots w) (ho : OrdIs w) :
    Calls Tryd.prog 7 #[v] w fun e w' => e = .returned (.tuple #[.agg (masterC seed).toArray, .int .i64 (masterE seed)]) ∧ Below w.heap.size w w' := by
  unfold masterC masterE
  by_cases h : sizeOk seed = true
  · have h2 := h
    unfold sizeOk at h2
    simp only [Bool.and_eq_true, decide_eq_true_eq] at h2
    rw [h]
    simp only [Bool.true_and, if_true]
    exact master_sized B v seed w hx hB h2.1 h2.2 hr ho
  · have h2 := h
    unfold sizeOk at h2
    simp only [Bool.and_eq_true, decide_eq_true_eq] at h2
    obtain ⟨A, c, rfl⟩ := hx.form
    have h3 : sizeOk seed = false := by simpa using h
    rw [h3]
    simp only [Bool.false_and, Bool.false_eq_true, if_false]
    exact master_small A seed.length c w (by omega)
end Go.Proofs.YtfkpdbmgiefnfaaDoor.Hk

/-
  The digest that the laws of layer 6 begin with. Conditions: none (plain mathematics).
-/
namespace Go.Proofs.YtfkpdbmgiefnfaaDoor.Hk

def seed16 : List UInt8 := [0, 1, 2, 3, 4, 5, 6, 7, 8, 9, 10, 11, 12, 13, 14, 15]
def first16 : List UInt8 := [232, 243, 46, 114, 61, 236, 244, 5, 26, 239, 172, 142, 44, 147, 201, 197, 178, 20, 49, 56, 23, 205, 176, 26, 20, 148, 185, 23, 200, 67, 107, 53]
def last16 : List UInt8 := [135, 61, 255, 129, 192, 47, 82, 86, 35, 253, 31, 229, 22, 126, 172, 58, 85, 160, 73, 222, 61, 49, 75, 180, 46, 226, 39, 255, 237, 55, 213, 8]
set_option maxRecDepth 100000 in
theorem hmac_16 : hmac seedName seed16 = first16 ++ last16 := by decide +kernel
theorem firstH_16 : firstH seed16 = first16 := by unfold firstH; rw [hmac_16]; rfl
theorem lastH_16 : lastH seed16 = last16 := by unfold lastH; rw [hmac_16]; rfl
theorem keyW_16 : keyW (words4 first16) = true := by decide +kernel
theorem masterC_16 : masterC seed16 = keyC last16 (0 :: first16) := by
  unfold masterC
  rw [firstH_16, lastH_16, keyW_16]
  rfl
theorem masterE_16 : masterE seed16 = 0 := by
  unfold masterE
  rw [firstH_16, keyW_16]
  rfl
end Go.Proofs.YtfkpdbmgiefnfaaDoor.Hk

/-
  Integers in memory: what it means that a slice value reads as a list of integers; a slice that came in; append. Conditions: none (plain lemmas, over any program).
-/
namespace Go.Proofs.YtfkpdbmgiefnfaaDoor
open Go.ChangeShapes Go.WideShapes Go.ChangeAt Go.RowKit

/-- The slice value v holds the integers xs, in a block below B (or is empty). -/
def Ints (k : IntKind) (w : World) (B : Nat) (v : Value) (xs : List Int) : Prop :=
  ∃ A c, v = .slice A xs.length c ∧ xs.length ≤ c ∧ c ≤ maxLen ∧ (A = none → xs = [] ∧ c = 0) ∧
    (xs ≠ [] → ∃ b o, A = some ⟨b, o, none⟩ ∧ b < B ∧ ∀ j u, xs[j]? = some u → w.cell? ⟨b, o + j, none⟩ = some (.int k u))

section
variable {k : IntKind} {w w' : World} {B B' : Nat} {v : Value} {xs : List Int}
theorem Ints.keep (h : Ints k w B v xs) (hk : ∀ b o, b < B → w'.cell? ⟨b, o, none⟩ = w.cell? ⟨b, o, none⟩) : Ints k w' B v xs := by
  obtain ⟨A, c, hv, hl, hm, hA, hx⟩ := h
  refine ⟨A, c, hv, hl, hm, hA, fun hne => ?_⟩
  obtain ⟨b, o, e, hb, hc⟩ := hx hne
  exact ⟨b, o, e, hb, fun j u hu => (hk _ _ hb).trans (hc j u hu)⟩
theorem Ints.below (h : Ints k w B v xs) (hb : Below B w w') : Ints k w' B v xs := h.keep fun _ _ hp => hb.cell (p := ⟨_, _, none⟩) hp
theorem Ints.nil (k : IntKind) (w : World) (B : Nat) : Ints k w B (.slice none 0 0) [] := ⟨none, 0, rfl, Nat.le_refl _, by unfold maxLen; omega, fun _ => ⟨rfl, rfl⟩, fun h => absurd rfl h⟩
theorem Ints.len (h : Ints k w B v xs) : xs.length ≤ maxLen := by
  obtain ⟨A, c, hv, hl, hm, _⟩ := h
  omega
theorem Ints.of_own {base : Nat} {e : TypeId} (h : w.ownsRow base e 1 v xs.length (xs.map (Value.int k))) : Ints k w w.heap.size v xs := by
  rcases h.2 with ⟨rfl, hn⟩ | ⟨g, cap, cur, rfl, _, hg, hnc, hcm, _, _⟩
  · obtain rfl : xs = [] := List.eq_nil_of_length_eq_zero hn
    exact Ints.nil _ _ _
  · refine ⟨some ⟨g, 0, none⟩, cap, rfl, hnc, hcm, (by intro h; cases h), fun hne => ⟨g, 0, rfl, (h.lt g rfl).2, fun j u hu => ?_⟩⟩
    have hc := h.cells (g := g) rfl j (.int k u) (by rw [List.getElem?_map, hu]; rfl)
    have hadd : (⟨g, 0, none⟩ : Addr).add j = ⟨g, 0 + j, none⟩ := by unfold Addr.add; split <;> simp_all
    rw [← hadd]; exact hc
theorem Ints.made (k : IntKind) (w : World) (e : TypeId) (xs : List Int) (l : List Value) (h : l = xs.map (Value.int k)) (hl : xs.length ≤ maxLen) :
    Ints k (w.alloc (.cells l.toArray e)) (w.heap.size + 1) (.slice (some ⟨w.heap.size, 0, none⟩) xs.length xs.length) xs := by
  refine ⟨_, _, rfl, Nat.le_refl _, hl, (by intro h; cases h), fun _ => ⟨_, _, rfl, by omega, fun j u hu => ?_⟩⟩
  rw [Nat.zero_add]
  show (w.alloc (.cells l.toArray e)).cell? ⟨w.heap.size, j, none⟩ = _
  rw [cell_of_row _ w.heap.size j _ _ _ (heap_alloc_new w _), h]
  simp [hu]
/-- The first n of them: 's[:n]'. -/
theorem Ints.first {A : Option Addr} {c : Nat} (h : Ints k w B (.slice A xs.length c) xs) (n : Nat) (hn : n ≤ xs.length) : Ints k w B (.slice A n c) (xs.take n) := by
  obtain ⟨A', c', hv, hl, hm, hA, hx⟩ := h
  injection hv with e1 _ e2
  subst e1 e2
  have hlen : (xs.take n).length = n := by rw [List.length_take]; omega
  refine ⟨A, c, by rw [hlen], by omega, hm, fun h => ?_, fun hne => ?_⟩
  · obtain ⟨rfl, hc⟩ := hA h
    exact ⟨by simp, hc⟩
  · obtain ⟨b, o, e, hb, hc⟩ := hx (by rintro rfl; simp at hne)
    refine ⟨b, o, e, hb, fun j u hu => hc j u ?_⟩
    rw [List.getElem?_take] at hu
    split at hu
    · exact hu
    · cases hu
end

theorem spot_plain {w : World} {a : Addr} {v : Value} (h : w.cell? a = some v) : a = ⟨a.block, a.off, none⟩ := by
  have := World.cell?_spot h
  cases a
  simp_all
theorem add_flat (b o i : Nat) : (⟨b, o, none⟩ : Addr).add i = ⟨b, o + i, none⟩ := by unfold Addr.add; split <;> simp_all

/-- A slice of integers that came in. -/
theorem ints_open {H : Type} {enc : TypeId × Value → H} {P : Program} {w : World} {spare : Nat → Bool} {held : Bool} {fuel : Nat} {t e : TypeId} {v : Value} {k : IntKind} {x : DataW H × List MemPlace}
    (ht : P.underlying t = some (.slice e)) (he : P.underlying e = some (.int k)) (hc : P.cellsOf e = 1) (h : DataW.trod enc P w 0 spare held fuel t [v] = some x) :
    ∃ xs, Ints k w w.heap.size v xs ∧ ∀ n ∈ xs, (Lit.int k n).wf = true := by
  rcases open_ints ht he hc h with ⟨hcs, _⟩ | ⟨a, len, cap, zs, hcs, _, hl, hm, hz, _, hcell, hwf⟩
  · simp only [List.cons.injEq, and_true] at hcs
    subst hcs
    exact ⟨[], Ints.nil _ _ _, by simp⟩
  · simp only [List.cons.injEq, and_true] at hcs
    subst hcs
    have hlz : len ≤ zs.length := by rw [hz]; split <;> omega
    have hlen : (zs.take len).length = len := by simp; omega
    refine ⟨zs.take len, ⟨some a, cap, by rw [hlen], by rw [hlen]; exact hl, hm, (by intro h; cases h), fun hne => ?_⟩, fun n hn => hwf n (List.mem_of_mem_take hn)⟩
    have hpos : 0 < len := by
      rcases Nat.eq_zero_or_pos len with h0 | h0
      · rw [h0] at hne; simp at hne
      · exact h0
    have h0 := hcell 0 (by omega)
    have hadd0 : a.add 0 = a := by unfold Addr.add; simp
    rw [hadd0] at h0
    have hsp := spot_plain h0
    refine ⟨a.block, a.off, by rw [← hsp], World.block_lt_of_cell? _ _ h0, fun j u hu => ?_⟩
    have hj : j < len := by
      have := (List.getElem?_eq_some_iff.1 hu).1
      omega
    have hcj := hcell j (by omega)
    have hadd : a.add j = ⟨a.block, a.off + j, none⟩ := (congrArg (fun q : Addr => q.add j) hsp).trans (add_flat _ _ _)
    rw [hadd] at hcj
    rw [hcj]
    have hzj : zs.getD j 0 = zs[j]'(by omega) := by rw [List.getD, List.getElem?_eq_getElem (show j < zs.length by omega)]; rfl
    rw [List.getElem?_take, if_pos hj, List.getElem?_eq_getElem (by omega)] at hu
    simp at hu
    subst hu
    rw [hzj]

/-- append of integers onto a row of the call's own: the source reads as integers (it may be nil or empty). -/
theorem run_append_ints {P : Program} (w : World) (base : Nat) (t ty e : TypeId) (i : TypeInfo) (k : IntKind) (bytes : Nat) (ht : P.underlying t = some (.slice e)) (hi : P.info? e = some i)
    (hz : i.zero = some (.int k 0)) (hsize : i.size = 1) (hby : i.bytes = bytes) (v : Value) (n : Nat) (xs : List Value) (hown : w.ownsRow base e 1 v n xs)
    (B : Nat) (x : Value) (ys : List Int) (hr : Ints k w B x ys) (hn : n + ys.length ≤ maxLen) (hb : (n + ys.length) * bytes ≤ 140737488355328) (hbase : base ≤ w.heap.size) :
    ∃ v' w', (Builtin.append_ #[t, t] ty #[v, x]).run P w = .ok v' w' ∧ w'.ownsRow base e 1 v' (n + ys.length) (xs ++ ys.map (Value.int k)) ∧ w.grownBy w' v.ownBlock ∧
      (v'.ownBlock = v.ownBlock ∨ v'.ownBlock = some w.heap.size) := by
  obtain ⟨A, c, rfl, hl, hm, hA, hx⟩ := hr
  rcases A with _ | ad
  · obtain ⟨rfl, rfl⟩ := hA rfl
    refine ⟨v, w, ?_, by simpa using hown, ⟨rfl, rfl, rfl, Nat.le_refl _, fun _ _ _ => rfl⟩, .inl rfl⟩
    rcases hown.2 with ⟨rfl, rfl⟩ | ⟨g, cap, cur, rfl, _, _, hnc, _⟩
    · simp [Builtin.append_, run_underlying ht, sizeOf, typeInfo, hi, Builtin.lenOf, Builtin.firstCells]
    · simp [Builtin.append_, run_underlying ht, sizeOf, typeInfo, hi, Builtin.lenOf, Builtin.firstCells, hnc, storeCells]
  · have hcells : ∀ j u, (ys.map (Value.int k))[j]? = some u → w.cell? (ad.add j) = some u := by
      intro j u hu
      rw [List.getElem?_map] at hu
      cases hy : ys[j]? with
      | none => rw [hy] at hu; cases hu
      | some q =>
        rw [hy] at hu
        injection hu with hu
        subst hu
        have hne : ys ≠ [] := by rintro rfl; simp at hy
        obtain ⟨b, o, hAe, _, hc⟩ := hx hne
        injection hAe with hAe
        subst hAe
        rw [add_flat]; exact hc j q hy
    obtain ⟨v', w', hrun, h2, h3, _, h5⟩ := run_append_own_at (P := P) w base t ty e i (.int k 0) 1 bytes ht hi hz hsize hby rfl (by decide) v n xs hown ad ys.length c (ys.map (Value.int k))
      (by simp) hcells (by intro u hu; obtain ⟨q, _, rfl⟩ := List.mem_map.1 hu; rfl) hn hb hbase
    exact ⟨v', w', hrun, h2, h3, h5⟩

/-- At the operation. -/
theorem wpList_append_ints {P : Program} {w : World} {ops : Array Oper} {rest : List Oper} {o : Oper} {a : Act} {Q : Exit → Act → World → Prop} (hgd : o.guard = none) (s x : Operand) (t : TypeId)
    (ho : o.op = .call { callee := .builtin .append, args := #[s, x], argTypes := #[t, t] })
    (base : Nat) (e : TypeId) (i : TypeInfo) (k : IntKind) (bytes : Nat) (ht : P.underlying t = some (.slice e)) (hi : P.info? e = some i)
    (hz : i.zero = some (.int k 0)) (hsize : i.size = 1) (hby : i.bytes = bytes)
    (v : Value) (n : Nat) (xs : List Value) (hs : a.eval s = v) (hown : w.ownsRow base e 1 v n xs)
    (B : Nat) (u : Value) (ys : List Int) (hx : a.eval x = u) (hr : Ints k w B u ys) (hn : n + ys.length ≤ maxLen) (hb : (n + ys.length) * bytes ≤ 140737488355328) (hbase : base ≤ w.heap.size)
    (h : ∀ v' w', w'.ownsRow base e 1 v' (n + ys.length) (xs ++ ys.map (Value.int k)) → w.grownBy w' v.ownBlock → (v'.ownBlock = v.ownBlock ∨ v'.ownBlock = some w.heap.size) → wpList P ops Q rest (a.put o.dst v') w') :
    wpList P ops Q (o :: rest) a w := by
  refine wpList_plain hgd fun K hK => ?_
  obtain ⟨v', w', hrun, h2, h3, h4⟩ := run_append_ints (P := P) w base t o.type e i k bytes ht hi hz hsize hby v n xs hown B u ys hr hn hb hbase
  unfold Oper.wp execOp
  simp only [ho, resolve, invoke, builtin, Sem.run_bind, Sem.run_pure, Result.andThen_ok, List.map_toArray, List.map_cons, List.map_nil, hs, hx, hrun]
  exact hK _ _ (h v' w' h2 h3 h4)
end Go.Proofs.YtfkpdbmgiefnfaaDoor
