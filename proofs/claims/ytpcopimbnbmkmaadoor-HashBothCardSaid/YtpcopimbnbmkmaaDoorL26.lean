/-
  Texts joined: HsOpen, Hb160, HbPad. Conditions: those of each.
-/
import Derived.Test.YtpcopimbnbmkmaaDoorL25
import Derived.Test.YtpcopimbnbmkmaaDoorRows
import Derived.Test.YtpcopimbnbmkmaaDoorCards
import Derived.Test.YtpcopimbnbmkmaaDoorTie
import Derived.SevenTiedAt
import Derived.ChangeSame
import Derived.JoinedOf
import Derived.JoinedAt
import Derived.LaidMore
import Derived.LaidHandle
import Derived.Stop.Joined
import Derived.Deep.Slices
import Derived.Deep.Fields
import Derived.ProofKit
import Derived.OpenShut
import Derived.ChangeOld
import Derived.SizedLaws
import Derived.ChangeMaps5
import Derived.Lib.LaidTab
import Derived.Test.YtpcopimbnbmkmaaDoorL24
import Derived.Test.YtpcopimbnbmkmaaDoorL15
import Derived.Test.YtpcopimbnbmkmaaDoorL22
import Derived.Test.YtpcopimbnbmkmaaDoorL14
import Derived.Test.YtpcopimbnbmkmaaDoorL8
import Derived.Test.YtpcopimbnbmkmaaDoorL9
import Derived.Test.YtpcopimbnbmkmaaDoorL1
import Derived.Laws.Closers25b
/-
  From an argument that can be read as data to bytes in memory; and from the rows' listed variables to the roots that the walks read; a start that meets the condition. Conditions: none.
-/
namespace Go.Proofs.YtpcopimbnbmkmaaDoor
open Go.ChangeShapes Go.WideShapes Go.ChangeAt Go.RowKit Go.Deep

theorem b8_bv {k : Int} (h0 : 0 ≤ k) (h1 : k ≤ 255) : bv (b8 k) = .int .u8 k := bv_b8_of h0 (by omega)

theorem add_at (b o i : Nat) : (⟨b, o, none⟩ : Addr).add i = ⟨b, o + i, none⟩ := by unfold Addr.add; split <;> simp_all

theorem spot_none {w : World} {a : Addr} {v : Value} (h : w.cell? a = some v) : a = ⟨a.block, a.off, none⟩ := by
  have := World.cell?_spot h
  cases a
  simp_all

/-- A slice of bytes that came in. -/
theorem byt_open {H : Type} {enc : TypeId × Value → H} {P : Program} {w : World} {spare : Nat → Bool} {held : Bool} {fuel : Nat} {t e : TypeId} {v : Value} {x : DataW H × List MemPlace}
    (ht : P.underlying t = some (.slice e)) (he : P.underlying e = some (.int .u8)) (hc : P.cellsOf e = 1) (h : DataW.trod enc P w 0 spare held fuel t [v] = some x) : ∃ bs, Byt w w.heap.size v bs := by
  rcases open_ints ht he hc h with ⟨hcs, _⟩ | ⟨a, len, cap, zs, hcs, _, hl, hm, hz, _, hcell, hwf⟩
  · simp only [List.cons.injEq, and_true] at hcs
    subst hcs
    exact ⟨[], Byt.nil _ _⟩
  · simp only [List.cons.injEq, and_true] at hcs
    subst hcs
    have hlz : len ≤ zs.length := by rw [hz]; split <;> omega
    have hlen : ((zs.take len).map b8).length = len := by simp; omega
    refine ⟨(zs.take len).map b8, some a, cap, by rw [hlen], by rw [hlen]; exact hl, hm, (by intro h; cases h), fun hne => ?_⟩
    have hpos : 0 < len := by
      rcases Nat.eq_zero_or_pos len with h0 | h0
      · rw [h0] at hne; simp at hne
      · exact h0
    have h0 := hcell 0 (by omega)
    have hadd0 : a.add 0 = a := by unfold Addr.add; simp
    rw [hadd0] at h0
    have hsp := spot_none h0
    refine ⟨a.block, a.off, by rw [← hsp], World.block_lt_of_cell? _ _ h0, fun j u hu => ?_⟩
    have hj : j < len := by
      have := (List.getElem?_eq_some_iff.1 hu).1
      omega
    have hcj := hcell j (by omega)
    have hadd : a.add j = ⟨a.block, a.off + j, none⟩ := (congrArg (fun q : Addr => q.add j) hsp).trans (add_at _ _ _)
    rw [hadd] at hcj
    rw [hcj]
    have hzj : zs.getD j 0 = zs[j]'(by omega) := by rw [List.getD, List.getElem?_eq_getElem (show j < zs.length by omega)]; rfl
    rw [List.getElem?_map, List.getElem?_take, if_pos hj, List.getElem?_eq_getElem (by omega)] at hu
    simp at hu
    subst hu
    have hw := hwf (zs[j]'(by omega)) (List.getElem_mem _)
    rw [hzj]
    have hw2 := bounds_u8 hw
    rw [b8_bv]
    · exact hw2.1
    · have := hw2.2
      omega

theorem own : ownKnob Tryd.prog.godebug = none := by kernel_rfl
theorem laidOut : laidOutB Tryd.prog = true := by kernel_rfl

def laidL : List (String × DataW Unit) := [("strongbox/hash.leftOrder", Rows.laid_strongbox_hash_leftOrder), ("strongbox/hash.rightOrder", Rows.laid_strongbox_hash_rightOrder), ("strongbox/hash.leftTurns", Rows.laid_strongbox_hash_leftTurns), ("strongbox/hash.rightTurns", Rows.laid_strongbox_hash_rightTurns), ("strongbox/hash.squareRoots", Rows.laid_strongbox_hash_squareRoots), ("strongbox/hash.cubeRoots", Rows.laid_strongbox_hash_cubeRoots)]

theorem door_met (os : Os) (args : Array Value) : laidMetH Tryd.prog laidL ((World.doorLaid Tryd.prog 400 os).forCall (fun _ _ => 0) ⟨#[], args, []⟩).memory :=
  laidMetH_of_parts3 (fuel := 8) (laidMet_of_run' 8 (by kernel_rfl) (by kernel_rfl)) (by kernel_rfl) (by kernel_rfl)

theorem roots_of_laid {W : World} (h : laidMetH Tryd.prog laidL W) : Roots W := by
  rw [MakeChecks.laidMetH_plain _ _ _ (by kernel_rfl)] at h
  obtain ⟨ps, ⟨ga0, ta0, csa0, fa0, pa0, qa0, _, _, _, _, ⟨ga1, ta1, csa1, fa1, pa1, qa1, _, _, _, _, ⟨ga2, ta2, csa2, fa2, pa2, qa2, _, _, _, _, ⟨ga3, ta3, csa3, fa3, pa3, qa3, _, _, _, _, ⟨g4, t4, cs4, f4, p4, q4, hg4, ht4, hv4, hd4, ⟨g5, t5, cs5, f5, p5, q5, hg5, ht5, hv5, hd5, _, _⟩, _⟩, _⟩, _⟩, _⟩, _⟩, _, _⟩ := h
  obtain rfl := Option.some.inj ((show Tryd.prog.globalNamed "strongbox/hash.squareRoots" = some 0 by kernel_rfl).symm.trans hg4)
  obtain rfl := Option.some.inj ((show (Tryd.prog.globals[0]?).map (·.type) = some 55 by kernel_rfl).symm.trans ht4)
  obtain rfl := Option.some.inj ((show Tryd.prog.globalNamed "strongbox/hash.cubeRoots" = some 1 by kernel_rfl).symm.trans hg5)
  obtain rfl := Option.some.inj ((show (Tryd.prog.globals[1]?).map (·.type) = some 54 by kernel_rfl).symm.trans ht5)
  have e4 : (Rows.laid_strongbox_hash_squareRoots : DataW Unit) = Lib.tabData .u64 s512 := by kernel_rfl
  have e5 : (Rows.laid_strongbox_hash_cubeRoots : DataW Unit) = Lib.tabData .u64 k512 := by kernel_rfl
  rw [e4] at hd4
  rw [e5] at hd5
  have c4 := Lib.cells_of_tab Tryd.underlying55 Tryd.underlying42 (by kernel_rfl) (by kernel_rfl) hd4
  have c5 := Lib.cells_of_tab Tryd.underlying54 Tryd.underlying42 (by kernel_rfl) (by kernel_rfl) hd5
  have k4 : ∀ (t : Nat) (k : Int), s512[t]? = some k → W.cell? ⟨0, t, none⟩ = some (.int .u64 k) := fun t k hk => by
    have h := World.var?_cell hg4 hv4 t
    rw [h, ← Array.getElem?_toList, c4, List.getElem?_map, hk]
    rfl
  have k5 : ∀ (t : Nat) (k : Int), k512[t]? = some k → W.cell? ⟨1, t, none⟩ = some (.int .u64 k) := fun t k hk => by
    have h := World.var?_cell hg5 hv5 t
    rw [h, ← Array.getElem?_toList, c5, List.getElem?_map, hk]
    rfl
  exact ⟨⟨World.block_lt_of_cell? _ _ (k5 0 _ rfl), k5⟩, ⟨World.block_lt_of_cell? _ _ (k4 0 _ rfl), k4⟩⟩

theorem tabs_of_laid {W : World} (h : laidMetH Tryd.prog laidL W) : Rm.TabsIs W := by
  rw [MakeChecks.laidMetH_plain _ _ _ (by kernel_rfl)] at h
  obtain ⟨ps, ⟨g0, t0, cs0, f0, p0, q0, hg0, ht0, hv0, hd0, ⟨g1, t1, cs1, f1, p1, q1, hg1, ht1, hv1, hd1, ⟨g2, t2, cs2, f2, p2, q2, hg2, ht2, hv2, hd2, ⟨g3, t3, cs3, f3, p3, q3, hg3, ht3, hv3, hd3, _, _⟩, _⟩, _⟩, _⟩, _, _⟩ := h
  obtain rfl := Option.some.inj ((show Tryd.prog.globalNamed "strongbox/hash.leftOrder" = some 2 by kernel_rfl).symm.trans hg0)
  obtain rfl := Option.some.inj ((show (Tryd.prog.globals[2]?).map (·.type) = some 91 by kernel_rfl).symm.trans ht0)
  have e0 : (Rows.laid_strongbox_hash_leftOrder : DataW Unit) = Lib.tabData .u8 Rm.ord1 := by kernel_rfl
  rw [e0] at hd0
  have c0 := Lib.cells_of_tab Tryd.underlying91 Tryd.underlying5 (by kernel_rfl) (by kernel_rfl) hd0
  have k0 : ∀ (t : Nat) (k : Int), Rm.ord1[t]? = some k → W.cell? ⟨2, t, none⟩ = some (.int .u8 k) := fun t k hk => by
    have h := World.var?_cell hg0 hv0 t
    rw [h, ← Array.getElem?_toList, c0, List.getElem?_map, hk]
    rfl
  obtain rfl := Option.some.inj ((show Tryd.prog.globalNamed "strongbox/hash.rightOrder" = some 4 by kernel_rfl).symm.trans hg1)
  obtain rfl := Option.some.inj ((show (Tryd.prog.globals[4]?).map (·.type) = some 91 by kernel_rfl).symm.trans ht1)
  have e1 : (Rows.laid_strongbox_hash_rightOrder : DataW Unit) = Lib.tabData .u8 Rm.ord2 := by kernel_rfl
  rw [e1] at hd1
  have c1 := Lib.cells_of_tab Tryd.underlying91 Tryd.underlying5 (by kernel_rfl) (by kernel_rfl) hd1
  have k1 : ∀ (t : Nat) (k : Int), Rm.ord2[t]? = some k → W.cell? ⟨4, t, none⟩ = some (.int .u8 k) := fun t k hk => by
    have h := World.var?_cell hg1 hv1 t
    rw [h, ← Array.getElem?_toList, c1, List.getElem?_map, hk]
    rfl
  obtain rfl := Option.some.inj ((show Tryd.prog.globalNamed "strongbox/hash.leftTurns" = some 3 by kernel_rfl).symm.trans hg2)
  obtain rfl := Option.some.inj ((show (Tryd.prog.globals[3]?).map (·.type) = some 91 by kernel_rfl).symm.trans ht2)
  have e2 : (Rows.laid_strongbox_hash_leftTurns : DataW Unit) = Lib.tabData .u8 Rm.turn1 := by kernel_rfl
  rw [e2] at hd2
  have c2 := Lib.cells_of_tab Tryd.underlying91 Tryd.underlying5 (by kernel_rfl) (by kernel_rfl) hd2
  have k2 : ∀ (t : Nat) (k : Int), Rm.turn1[t]? = some k → W.cell? ⟨3, t, none⟩ = some (.int .u8 k) := fun t k hk => by
    have h := World.var?_cell hg2 hv2 t
    rw [h, ← Array.getElem?_toList, c2, List.getElem?_map, hk]
    rfl
  obtain rfl := Option.some.inj ((show Tryd.prog.globalNamed "strongbox/hash.rightTurns" = some 5 by kernel_rfl).symm.trans hg3)
  obtain rfl := Option.some.inj ((show (Tryd.prog.globals[5]?).map (·.type) = some 91 by kernel_rfl).symm.trans ht3)
  have e3 : (Rows.laid_strongbox_hash_rightTurns : DataW Unit) = Lib.tabData .u8 Rm.turn2 := by kernel_rfl
  rw [e3] at hd3
  have c3 := Lib.cells_of_tab Tryd.underlying91 Tryd.underlying5 (by kernel_rfl) (by kernel_rfl) hd3
  have k3 : ∀ (t : Nat) (k : Int), Rm.turn2[t]? = some k → W.cell? ⟨5, t, none⟩ = some (.int .u8 k) := fun t k hk => by
    have h := World.var?_cell hg3 hv3 t
    rw [h, ← Array.getElem?_toList, c3, List.getElem?_map, hk]
    rfl
  exact ⟨⟨World.block_lt_of_cell? _ _ (k0 0 _ rfl), k0⟩, ⟨World.block_lt_of_cell? _ _ (k1 0 _ rfl), k1⟩, ⟨World.block_lt_of_cell? _ _ (k2 0 _ rfl), k2⟩, ⟨World.block_lt_of_cell? _ _ (k3 0 _ rfl), k3⟩⟩
end Go.Proofs.YtpcopimbnbmkmaaDoor

/-
  Hash160 of the program and of the reference, walked. Conditions: sizes within the reach; the roots and the tables are laid.
-/
namespace Go.Proofs.YtpcopimbnbmkmaaDoor
open Go.RowKit

theorem info_d20 : (Tryd.prog.info? 33).map (·.size) = some 20 := by kernel_rfl
set_option maxRecDepth 100000 in
set_option maxHeartbeats 3200000 in
theorem hash160_any (B : Nat) (v : Value) (b : List UInt8) (W0 : World) (hb : Byt W0 B v b) (hB : B ≤ W0.heap.size) (hlen : b.length < 576460752303423488) (hroots : Roots W0) (htab : Rm.TabsIs W0) :
    Calls Tryd.prog 17 #[v] W0 fun e w' => e = .returned (digV (Rm.ripemd (sha256 b))) ∧ Below W0.heap.size W0 w' := by
  obtain ⟨A, c, rfl⟩ := hb.form
  have HB := Lib.hid hb
  clear hb
  have rA := IRow.new W0 33 .u8 (List.replicate 20 0)
  have bA : Below W0.heap.size W0 (W0.alloc (.cells ((List.replicate 20 (0 : Int)).map (Value.int .u8)).toArray 33)) := (Below.refl _ W0).alloc (Nat.le_refl _) _
  have HR := Lib.hid hroots
  have HT := Lib.hid htab
  clear hroots htab
  go_enter Tryd.func17, Tryd.ntmps17
  go_upto_region 1 with fail
  change Code.wp _ _ _ _ (W0.alloc (.cells ((List.replicate 20 (0 : Int)).map (Value.int .u8)).toArray 33))
  obtain ⟨wA, hwA⟩ : ∃ x, x = W0.alloc (.cells ((List.replicate 20 (0 : Int)).map (Value.int .u8)).toArray 33) := ⟨_, rfl⟩
  rw [← hwA] at rA bA ⊢
  obtain ⟨B0, hB0⟩ : ∃ B0, B0 = W0.heap.size := ⟨_, rfl⟩
  rw [← hB0] at rA bA ⊢
  have C1 := Lib.hid (sum256_any B _ b wA (HB.out.below (bA.mono (by omega))) (by have := bA.size; omega) hlen (HR.out.below (by rw [← hB0]; exact bA)))
  have RA := Lib.hid rA
  have BA := Lib.hid bA
  have HB0 := Lib.hid hB0
  have RO := Lib.hid (HR.out.below (show Below W0.heap.size W0 wA by rw [← hB0]; exact bA))
  clear hwA rA bA hB0
  go_wp2_with fail
  refine C1.out.mono ?_
  rintro e w2 ⟨rfl, hb2⟩
  have hsz : (nums (sha256 b)).length = 32 := by rw [nums_length, sha256_length]
  have HI := Lib.hid (show (Tryd.prog.info? 28).map (·.size) = some (nums (sha256 b)).length by rw [hsz]; exact info_h)
  have HL := Lib.hid (show (List.replicate 32 (0 : Int)).length = (nums (sha256 b)).length by rw [hsz]; rfl)
  have rA2 := RA.out.below hb2 RA.out.lt
  have bA2 := BA.out.trans (hb2.mono (by have := BA.out.size; have := HB0.out; omega))
  have rO := RO.out.below hb2
  have rC := IRow.new w2 28 .u8 (List.replicate 32 0)
  have rC2 := setRow_irow (ys := nums (sha256 b)) rC
  have bC : Below w2.heap.size w2 ((w2.alloc (.cells ((List.replicate 32 (0 : Int)).map (Value.int .u8)).toArray 28)).setRow w2.heap.size ((nums (sha256 b)).map (Value.int .u8)).toArray) := below_setRow ((Below.refl _ w2).alloc (Nat.le_refl _) _) (Nat.le_refl _) _
  have RA2 := Lib.hid rA2
  have BA2 := Lib.hid bA2
  have RO2 := Lib.hid rO
  have RC := Lib.hid rC
  have RC2 := Lib.hid rC2
  have BC := Lib.hid bC
  clear hb2 rA2 bA2 rO rC rC2 bC hsz
  unfold digV
  go_upto_region 2 with (refine wpList_store_irow rfl 28 (.tmp 3) (.tmp 5) rfl (g := w2.heap.size) (t := 28) (k := .u8) (xs := List.replicate 32 0) (ys := nums (sha256 b)) rfl rfl RC.out HI.out HL.out ?_)
  change Code.wp _ _ _ _ ((w2.alloc (.cells ((List.replicate 32 (0 : Int)).map (Value.int .u8)).toArray 28)).setRow w2.heap.size ((nums (sha256 b)).map (Value.int .u8)).toArray)
  obtain ⟨w3, hw3⟩ : ∃ x, x = (w2.alloc (.cells ((List.replicate 32 (0 : Int)).map (Value.int .u8)).toArray 28)).setRow w2.heap.size ((nums (sha256 b)).map (Value.int .u8)).toArray := ⟨_, rfl⟩
  rw [← hw3]
  have rC3 : IRow w3 w2.heap.size 28 .u8 (nums (sha256 b)) := by rw [hw3]; exact RC2.out
  have bC3 : Below w2.heap.size w2 w3 := by rw [hw3]; exact BC.out
  have rA3 := RA2.out.below bC3 RA2.out.lt
  have bA3 := BA2.out.trans (bC3.mono (by have := BA2.out.size; have := HB0.out; omega))
  have ro3 := RO2.out.below bC3
  have hby := rC3.bytes (by rw [sha256_length]; unfold maxLen; omega)
  rw [sha256_length] at hby
  have TB3 := HT.out.below (show Below W0.heap.size W0 w3 by rw [← HB0.out]; exact bA3)
  have C2 := Lib.hid (Rm.ripemd_any _ _ _ w3 hby (by have := rC3.lt; omega) (by rw [sha256_length]; omega) TB3)
  clear TB3
  have RA3 := Lib.hid rA3
  have BA3 := Lib.hid bA3
  clear hw3 rC3 bC3 rA3 bA3 ro3 hby RA2 BA2 RO2 RC RC2 BC HI HL
  dsimp only [Act.put]
  go_wp2_with fail
  refine C2.out.mono ?_
  rintro e w4 ⟨rfl, hb4⟩
  have hsz : (nums (Rm.ripemd (sha256 b))).length = 20 := by rw [nums_length, Rm.ripemd_length]
  have HI := Lib.hid (show (Tryd.prog.info? 33).map (·.size) = some (nums (Rm.ripemd (sha256 b))).length by rw [hsz]; exact info_d20)
  have HL := Lib.hid (show (List.replicate 20 (0 : Int)).length = (nums (Rm.ripemd (sha256 b))).length by rw [hsz]; rfl)
  have ra4 := RA3.out.below hb4 RA3.out.lt
  have b4 := BA3.out.trans (hb4.mono (by have := BA3.out.size; have := HB0.out; omega))
  have HFIN := Lib.hid (setRow_irow (ys := nums (Rm.ripemd (sha256 b))) ra4)
  have HBF := Lib.hid (below_setRow b4 (Nat.le_refl _) ((nums (Rm.ripemd (sha256 b))).map (Value.int .u8)).toArray)
  have RA4 := Lib.hid ra4
  clear ra4 b4 hb4 hsz
  unfold digV
  go_wp2_with (refine wpList_store_irow rfl 33 (.tmp 2) (.tmp 7) rfl (g := B0) (t := 33) (k := .u8) (xs := List.replicate 20 0) (ys := nums (Rm.ripemd (sha256 b))) rfl rfl RA4.out HI.out HL.out ?_)
  refine bodyPost_ret (v := digV (Rm.ripemd (sha256 b))) ?_ rfl ⟨rfl, by rw [← HB0.out]; exact HBF.out⟩
  obtain ⟨fr, hrw⟩ : ∃ fr, ((w4.setRow B0 ((nums (Rm.ripemd (sha256 b))).map (Value.int .u8)).toArray)).heap[B0]? = some (.cells ((nums (Rm.ripemd (sha256 b))).map (Value.int .u8)).toArray 33 fr) := ⟨_, HFIN.out⟩
  exact results_cell_row Tryd.results17 _ _ B0 33 ((nums (Rm.ripemd (sha256 b))).map (Value.int .u8)).toArray fr _ rfl hrw Tryd.underlying33 rfl (by rw [List.size_toArray, List.length_map]; exact HI.out)

set_option maxRecDepth 100000 in
set_option maxHeartbeats 3200000 in
theorem rhash160_any (B : Nat) (v : Value) (b : List UInt8) (W0 : World) (hb : Byt W0 B v b) (hB : B ≤ W0.heap.size) (hlen : b.length ≤ 100000) :
    Calls Tryd.prog 18 #[v] W0 fun e w' => e = .returned (digV (Rm.ripemd (sha256 b))) ∧ Below W0.heap.size W0 w' := by
  obtain ⟨A, c, rfl⟩ := hb.form
  have HB := Lib.hid hb
  clear hb
  have rA := IRow.new W0 33 .u8 (List.replicate 20 0)
  have bA : Below W0.heap.size W0 (W0.alloc (.cells ((List.replicate 20 (0 : Int)).map (Value.int .u8)).toArray 33)) := (Below.refl _ W0).alloc (Nat.le_refl _) _
  go_enter Tryd.func18, Tryd.ntmps18
  go_upto_region 1 with fail
  change Code.wp _ _ _ _ (W0.alloc (.cells ((List.replicate 20 (0 : Int)).map (Value.int .u8)).toArray 33))
  obtain ⟨wA, hwA⟩ : ∃ x, x = W0.alloc (.cells ((List.replicate 20 (0 : Int)).map (Value.int .u8)).toArray 33) := ⟨_, rfl⟩
  rw [← hwA] at rA bA ⊢
  obtain ⟨B0, hB0⟩ : ∃ B0, B0 = W0.heap.size := ⟨_, rfl⟩
  rw [← hB0] at rA bA ⊢
  have C1 := Lib.hid (rsum256_any B _ b wA (HB.out.below (bA.mono (by omega))) (by have := bA.size; omega) hlen)
  have RA := Lib.hid rA
  have BA := Lib.hid bA
  have HB0 := Lib.hid hB0
  clear hwA rA bA hB0
  go_wp2_with fail
  refine C1.out.mono ?_
  rintro e w2 ⟨rfl, hb2⟩
  have hsz : (nums (sha256 b)).length = 32 := by rw [nums_length, sha256_length]
  have HI := Lib.hid (show (Tryd.prog.info? 27).map (·.size) = some (nums (sha256 b)).length by rw [hsz]; exact info_h27)
  have HL := Lib.hid (show (List.replicate 32 (0 : Int)).length = (nums (sha256 b)).length by rw [hsz]; rfl)
  have rA2 := RA.out.below hb2 RA.out.lt
  have bA2 := BA.out.trans (hb2.mono (by have := BA.out.size; have := HB0.out; omega))
  have rC := IRow.new w2 27 .u8 (List.replicate 32 0)
  have rC2 := setRow_irow (ys := nums (sha256 b)) rC
  have bC : Below w2.heap.size w2 ((w2.alloc (.cells ((List.replicate 32 (0 : Int)).map (Value.int .u8)).toArray 27)).setRow w2.heap.size ((nums (sha256 b)).map (Value.int .u8)).toArray) := below_setRow ((Below.refl _ w2).alloc (Nat.le_refl _) _) (Nat.le_refl _) _
  have RA2 := Lib.hid rA2
  have BA2 := Lib.hid bA2
  have RC := Lib.hid rC
  have RC2 := Lib.hid rC2
  have BC := Lib.hid bC
  clear hb2 rA2 bA2 rC rC2 bC hsz
  unfold digV
  go_upto_region 2 with (refine wpList_store_irow rfl 27 (.tmp 3) (.tmp 5) rfl (g := w2.heap.size) (t := 27) (k := .u8) (xs := List.replicate 32 0) (ys := nums (sha256 b)) rfl rfl RC.out HI.out HL.out ?_)
  change Code.wp _ _ _ _ ((w2.alloc (.cells ((List.replicate 32 (0 : Int)).map (Value.int .u8)).toArray 27)).setRow w2.heap.size ((nums (sha256 b)).map (Value.int .u8)).toArray)
  obtain ⟨w3, hw3⟩ : ∃ x, x = (w2.alloc (.cells ((List.replicate 32 (0 : Int)).map (Value.int .u8)).toArray 27)).setRow w2.heap.size ((nums (sha256 b)).map (Value.int .u8)).toArray := ⟨_, rfl⟩
  rw [← hw3]
  have rC3 : IRow w3 w2.heap.size 27 .u8 (nums (sha256 b)) := by rw [hw3]; exact RC2.out
  have bC3 : Below w2.heap.size w2 w3 := by rw [hw3]; exact BC.out
  have rA3 := RA2.out.below bC3 RA2.out.lt
  have bA3 := BA2.out.trans (bC3.mono (by have := BA2.out.size; have := HB0.out; omega))
  have hby := rC3.bytes (by rw [sha256_length]; unfold maxLen; omega)
  rw [sha256_length] at hby
  have C2 := Lib.hid (Rm.rripemd_any _ _ _ w3 hby (by have := rC3.lt; omega) (by rw [sha256_length]; omega))
  have RA3 := Lib.hid rA3
  have BA3 := Lib.hid bA3
  clear hw3 rC3 bC3 rA3 bA3 hby RA2 BA2 RC RC2 BC HI HL
  dsimp only [Act.put]
  go_wp2_with fail
  refine C2.out.mono ?_
  rintro e w4 ⟨rfl, hb4⟩
  have hsz : (nums (Rm.ripemd (sha256 b))).length = 20 := by rw [nums_length, Rm.ripemd_length]
  have HI := Lib.hid (show (Tryd.prog.info? 33).map (·.size) = some (nums (Rm.ripemd (sha256 b))).length by rw [hsz]; exact info_d20)
  have HL := Lib.hid (show (List.replicate 20 (0 : Int)).length = (nums (Rm.ripemd (sha256 b))).length by rw [hsz]; rfl)
  have ra4 := RA3.out.below hb4 RA3.out.lt
  have b4 := BA3.out.trans (hb4.mono (by have := BA3.out.size; have := HB0.out; omega))
  have HFIN := Lib.hid (setRow_irow (ys := nums (Rm.ripemd (sha256 b))) ra4)
  have HBF := Lib.hid (below_setRow b4 (Nat.le_refl _) ((nums (Rm.ripemd (sha256 b))).map (Value.int .u8)).toArray)
  have RA4 := Lib.hid ra4
  clear ra4 b4 hb4 hsz
  unfold digV
  go_wp2_with (refine wpList_store_irow rfl 33 (.tmp 2) (.tmp 7) rfl (g := B0) (t := 33) (k := .u8) (xs := List.replicate 20 0) (ys := nums (Rm.ripemd (sha256 b))) rfl rfl RA4.out HI.out HL.out ?_)
  refine bodyPost_ret (v := digV (Rm.ripemd (sha256 b))) ?_ rfl ⟨rfl, by rw [← HB0.out]; exact HBF.out⟩
  obtain ⟨fr, hrw⟩ : ∃ fr, ((w4.setRow B0 ((nums (Rm.ripemd (sha256 b))).map (Value.int .u8)).toArray)).heap[B0]? = some (.cells ((nums (Rm.ripemd (sha256 b))).map (Value.int .u8)).toArray 33 fr) := ⟨_, HFIN.out⟩
  exact results_cell_row Tryd.results18 _ _ B0 33 ((nums (Rm.ripemd (sha256 b))).map (Value.int .u8)).toArray fr _ rfl hrw Tryd.underlying33 rfl (by rw [List.size_toArray, List.length_map]; exact HI.out)

end Go.Proofs.YtpcopimbnbmkmaaDoor

/-
  hash.hmacPad, walked: a key filled up with zeros, each byte turned by the same one. Conditions: the key has at most 128 bytes.
-/
namespace Go.Proofs.YtpcopimbnbmkmaaDoor
open Go.RowKit

theorem zero_128 (W : World) : (zeroValue 41).run Tryd.prog W = .ok (.agg ((List.replicate 128 (0 : Int)).map (Value.int .u8)).toArray) W := by kernel_rfl
theorem info_128 : (Tryd.prog.info? 41).map (·.size) = some 128 := by kernel_rfl
/-- A byte turned by another. -/
def xorB (a p : UInt8) : UInt8 := b8 (bits .xor .u8 (a.toNat : Int) (p.toNat : Int))
theorem xorB_nat (a p : UInt8) : ((xorB a p).toNat : Int) = bits .xor .u8 (a.toNat : Int) (p.toNat : Int) := by
  have h0 := bits_lo_u8 .xor (a.toNat : Int) (p.toNat : Int)
  have h1 := bits_hi_u8 .xor (a.toNat : Int) (p.toNat : Int)
  unfold xorB
  rw [b8_toNat]
  omega
/-- A key filled up with zeros. -/
def zeroed (key : List UInt8) : List UInt8 := key ++ List.replicate (128 - key.length) 0
/-- A filled key turned by a byte. -/
def padK (key : List UInt8) (p : UInt8) : List UInt8 := (zeroed key).map (fun u => xorB u p)
theorem zeroed_length {key : List UInt8} (h : key.length ≤ 128) : (zeroed key).length = 128 := by
  unfold zeroed
  rw [List.length_append, List.length_replicate]
  omega
theorem padK_length {key : List UInt8} (p : UInt8) (h : key.length ≤ 128) : (padK key p).length = 128 := by
  unfold padK
  rw [List.length_map, zeroed_length h]
theorem mixed_set {xs ys : List UInt8} {i : Nat} {x y : UInt8} (hx : xs[i]? = some x) (hy : ys[i]? = some y) : (nums (xs.take i ++ ys.drop i)).set i (x.toNat : Int) = nums (xs.take (i + 1) ++ ys.drop (i + 1)) := by
  obtain ⟨hxl, hx2⟩ := List.getElem?_eq_some_iff.1 hx
  obtain ⟨hyl, hy2⟩ := List.getElem?_eq_some_iff.1 hy
  have e : ys.drop i = y :: ys.drop (i + 1) := by rw [List.drop_eq_getElem_cons hyl, hy2]
  have hl : ((xs.take i).map (fun u : UInt8 => (u.toNat : Int))).length = i := by rw [List.length_map, List.length_take]; omega
  unfold nums
  rw [e, List.map_append, List.map_cons, List.set_append_right _ _ (by omega), hl, Nat.sub_self, List.set_cons_zero, List.take_add_one, hx, List.map_append, List.map_append]
  simp
theorem mixed_at {xs ys : List UInt8} {i : Nat} {y : UInt8} (hx : i ≤ xs.length) (hy : ys[i]? = some y) : (nums (xs.take i ++ ys.drop i))[i]? = some (y.toNat : Int) := by
  have hl : (xs.take i).length = i := by rw [List.length_take]; omega
  unfold nums
  rw [List.getElem?_map, List.getElem?_append_right (by omega), hl, Nat.sub_self, List.getElem?_drop, Nat.add_zero, hy]
  rfl
theorem over_key (key : List UInt8) : over ((List.replicate 128 (0 : Int)).map (Value.int .u8)) 0 (key.take key.length) = (nums (zeroed key)).map (Value.int .u8) := by
  unfold over zeroed nums
  rw [List.take_length, List.take_zero, List.nil_append, Nat.zero_add, List.length_map, ← List.map_drop, List.drop_replicate, List.map_append, List.map_append, List.map_map]
  congr 1
  rw [List.map_replicate, List.map_replicate, List.map_replicate]
  rfl

set_option maxRecDepth 100000 in
set_option maxHeartbeats 6400000 in
theorem hpad_any (B : Nat) (x : Value) (key : List UInt8) (p : UInt8) (k : Int) (w : World) (hk : k = (p.toNat : Int)) (hx : Byt w B x key) (hB : B ≤ w.heap.size) (hl : key.length ≤ 128) :
    Calls Tryd.prog 35 #[x, .int .u8 k] w fun e w' => e = .returned (digV (padK key p)) ∧ Below w.heap.size w w' := by
  subst hk
  obtain ⟨A, c, rfl⟩ := hx.form
  have z128 := zero_128
  have r1 := IRow.new w 41 .u8 (List.replicate 128 0)
  have b1 : Below w.heap.size w (w.alloc (.cells ((List.replicate 128 (0 : Int)).map (Value.int .u8)).toArray 41)) := (Below.refl _ w).alloc (Nat.le_refl _) _
  have s1 : (w.alloc (.cells ((List.replicate 128 (0 : Int)).map (Value.int .u8)).toArray 41)).heap.size = w.heap.size + 1 := by simp
  obtain ⟨wA, hwA⟩ : ∃ z, z = w.alloc (.cells ((List.replicate 128 (0 : Int)).map (Value.int .u8)).toArray 41) := ⟨_, rfl⟩
  rw [← hwA] at r1 b1 s1
  have r2 := IRow.new wA 41 .u8 (List.replicate 128 0)
  have b2 : Below wA.heap.size wA (wA.alloc (.cells ((List.replicate 128 (0 : Int)).map (Value.int .u8)).toArray 41)) := (Below.refl _ wA).alloc (Nat.le_refl _) _
  obtain ⟨wB, hwB⟩ : ∃ z, z = wA.alloc (.cells ((List.replicate 128 (0 : Int)).map (Value.int .u8)).toArray 41) := ⟨_, rfl⟩
  rw [← hwB] at r2 b2
  obtain ⟨GA, hGA⟩ : ∃ g, g = w.heap.size := ⟨_, rfl⟩
  rw [← hGA] at r1 b1 s1
  rw [s1] at r2 b2
  have rA2 := r1.below b2 (by omega)
  have b3 := b1.trans (b2.mono (by omega : GA ≤ GA + 1))
  have sx : Src wB (GA + 1) (.slice A key.length c) key := Src.of_byt (hx.below (b3.mono (by omega))) (by have := b3.size; omega) (by omega)
  have rV : VRow wB (GA + 1) 41 ((List.replicate 128 (0 : Int)).map (Value.int .u8)) := r2
  have rC := rV.setRow ((nums (zeroed key)).map (Value.int .u8))
  have rCI : IRow (wB.setRow (GA + 1) ((nums (zeroed key)).map (Value.int .u8)).toArray) (GA + 1) 41 .u8 (nums (zeroed key)) := rC
  have rA3 := rA2.below (below_setRow (Below.refl (GA + 1) wB) (Nat.le_refl _) ((nums (zeroed key)).map (Value.int .u8)).toArray) (by omega)
  have b4 := below_setRow b3 (by omega : GA ≤ GA + 1) ((nums (zeroed key)).map (Value.int .u8)).toArray
  obtain ⟨wC, hwC⟩ : ∃ z, z = wB.setRow (GA + 1) ((nums (zeroed key)).map (Value.int .u8)).toArray := ⟨_, rfl⟩
  rw [← hwC] at rCI rA3 b4
  have HWC := Lib.hid (show wB.setRow (GA + 1) (over ((List.replicate 128 (0 : Int)).map (Value.int .u8)) 0 (key.take key.length)).toArray = wC by rw [over_key, hwC])
  have HW := Lib.hid (show wB = (w.alloc (.cells ((List.replicate 128 (0 : Int)).map (Value.int .u8)).toArray 41)).alloc (.cells ((List.replicate 128 (0 : Int)).map (Value.int .u8)).toArray 41) by rw [hwB, hwA])
  have HGA := Lib.hid hGA
  have SX := Lib.hid sx
  have RV := Lib.hid rV
  have RC := Lib.hid rCI
  have RA := Lib.hid rA3
  have B4 := Lib.hid b4
  have HMN := Lib.hid (show key.length = min key.length 128 by omega)
  have HF := Lib.hid (show 0 + key.length ≤ ((List.replicate 128 (0 : Int)).map (Value.int .u8)).length by rw [List.length_map, List.length_replicate]; omega)
  have HZL := Lib.hid (zeroed_length hl)
  have HPL := Lib.hid (padK_length p hl)
  have hkc : (key.length : Int) ≤ 128 := by omega
  clear hx r1 b1 s1 hwA r2 b2 hwB rA2 b3 sx rV rC rCI rA3 b4 hwC hGA
  go_enter Tryd.func35, Tryd.ntmps35
  go_upto_region 2 with fail
  change Code.wp _ _ _ _ ((w.alloc (.cells ((List.replicate 128 (0 : Int)).map (Value.int .u8)).toArray 41)).alloc (.cells ((List.replicate 128 (0 : Int)).map (Value.int .u8)).toArray 41))
  rw [← HW.out]
  have q1 : (w.alloc (.cells ((List.replicate 128 (0 : Int)).map (Value.int .u8)).toArray 41)).heap.size = GA + 1 := by rw [HGA.out]; simp
  try rw [q1]
  try rw [← HGA.out]
  clear q1
  try dsimp only [Act.put]
  go_upto_region 3 with (refine wpList_copy_src rfl (.tmp 7) (.tmp 8) rfl (GA + 1) 0 128 128 41 _ RV.out rfl rfl SX.out key.length HMN.out HF.out ?_)
  change Code.wp _ _ _ _ (wB.setRow (GA + 1) (over ((List.replicate 128 (0 : Int)).map (Value.int .u8)) 0 (key.take key.length)).toArray)
  rw [HWC.out]
  try dsimp only [Act.put]
  go_wp2_with fail
  go_loopw [10] (fun v10 wr => ∃ i : Nat, i ≤ 128 ∧ v10 = .int .i64 (i : Int) ∧ IRow wr (GA + 1) 41 .u8 (nums ((padK key p).take i ++ (zeroed key).drop i)) ∧ IRow wr GA 41 .u8 (List.replicate 128 0) ∧ Below GA w wr) (fun v10 _ => 128 - (intOf v10).toNat)
  case atStart => exact ⟨0, by omega, rfl, by rw [List.take_zero, List.nil_append, List.drop_zero]; exact RC.out, RA.out, B4.out⟩
  case round =>
    obtain ⟨i, hi, rfl, hrow, hres, hbel⟩ := hrel
    by_cases h128 : i < 128
    · obtain ⟨y, hy⟩ : ∃ y, (zeroed key)[i]? = some y := ⟨_, List.getElem?_eq_getElem (by rw [HZL.out]; exact h128)⟩
      have hp : (padK key p)[i]? = some (xorB y p) := by unfold padK; rw [List.getElem?_map, hy]; rfl
      have hcg : wr.cell? ⟨GA + 1, i, none⟩ = some (.int .u8 (y.toNat : Int)) := hrow.cell (mixed_at (by rw [HPL.out]; omega) hy)
      have hfg := hrow.free i
      have hset := hrow.set i (bits .xor .u8 (y.toNat : Int) (p.toNat : Int))
      have hm := mixed_set hp hy
      rw [xorB_nat] at hm
      rw [hm] at hset
      have bi : (i : Int) < 128 := by omega
      have HSET := Lib.hid hset
      have HRES := Lib.hid hres
      have HBEL := Lib.hid hbel
      clear hp hset hm hrow hy hres hbel
      go_wp2_with fail
      refine ⟨⟨i + 1, by omega, by go_num, HSET.out, ?_, HBEL.out.setCell (p := ⟨GA + 1, i, none⟩) (by show GA ≤ GA + 1; omega) _⟩, by simp [intOf]; omega⟩
      exact (Below.heap_setCell wr _ _ _ (by intro h; first | (have h' : GA = GA + 1 := h; omega) | (have h' : GA + 1 = GA := h; omega))).trans HRES.out
    · obtain rfl : i = 128 := by omega
      have e128 : ((128 : Nat) : Int) = 128 := rfl
      rw [e128]
      rw [List.take_of_length_le (by rw [HPL.out]; omega), List.drop_of_length_le (by rw [HZL.out]; omega), List.append_nil] at hrow
      obtain ⟨PK, hPK⟩ : ∃ l, l = nums (padK key p) := ⟨_, rfl⟩
      have hpl : PK.length = 128 := by rw [hPK, nums_length, HPL.out]
      rw [← hPK] at hrow
      have HFIN := Lib.hid (setRow_irow (ys := PK) hres)
      have HB := Lib.hid (below_setRow hbel (Nat.le_refl _) (PK.map (Value.int .u8)).toArray)
      have HROW := Lib.hid hrow
      have HRES := Lib.hid hres
      have HPKL := Lib.hid hpl
      have HPK := Lib.hid hPK
      clear e128 hrow hbel hres h128 hpl hPK
      go_wp2_with (first
        | (refine wpList_load_irow rfl 41 (.tmp 5) rfl (g := GA + 1) (t := 41) (k := .u8) (xs := PK) rfl HROW.out Tryd.underlying41 (by rw [HPKL.out]; exact info_128) ?_)
        | (refine wpList_store_irow rfl 41 (.tmp 4) (.tmp 20) rfl (g := GA) (t := 41) (k := .u8) (xs := List.replicate 128 0) (ys := PK) rfl rfl HRES.out (by rw [HPKL.out]; exact info_128) (by rw [HPKL.out]; rfl) ?_))
      refine bodyPost_ret (v := .agg (PK.map (Value.int .u8)).toArray) ?_ rfl ⟨by rw [HPK.out]; rfl, by rw [← HGA.out]; exact HB.out⟩
      obtain ⟨fr, hrw⟩ : ∃ fr, ((wr.setRow GA (PK.map (Value.int .u8)).toArray)).heap[GA]? = some (.cells (PK.map (Value.int .u8)).toArray 41 fr) := ⟨_, HFIN.out⟩
      exact results_cell_row Tryd.results35 _ _ GA 41 (PK.map (Value.int .u8)).toArray fr _ rfl hrw Tryd.underlying41 rfl (by rw [List.size_toArray, List.length_map, HPKL.out]; exact info_128)
end Go.Proofs.YtpcopimbnbmkmaaDoor
