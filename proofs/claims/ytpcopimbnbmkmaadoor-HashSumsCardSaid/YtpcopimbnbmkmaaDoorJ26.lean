/-
  HashSums returns true for every input, and leaves each argument as it was. Conditions: none beyond the statement's own (the listed variables hold what the program's text lays; the card ties them).
-/
import Derived.Test.YtpcopimbnbmkmaaDoorJ25
import Derived.Test.YtpcopimbnbmkmaaDoorRows
import Derived.Test.YtpcopimbnbmkmaaDoorCards
import Derived.Test.YtpcopimbnbmkmaaDoorTie
import Derived.SevenTiedAt
import Derived.ChangeSame
import Derived.JoinedOf
import Derived.JoinedAt
import Derived.LaidMore
import Derived.LaidHandle
import Derived.Stop.Joined
import Derived.Deep.Slices
import Derived.Deep.Fields
import Derived.ProofKit
import Derived.OpenShut
import Derived.ChangeOld
import Derived.SizedLaws
import Derived.ChangeMaps5
import Derived.Lib.LaidTab
/-
  From an argument that can be read as data to bytes in memory; and from the rows' listed variables to the roots that the walks read; a start that meets the condition. Conditions: none.
-/
namespace Go.Proofs.YtpcopimbnbmkmaaDoor
open Go.ChangeShapes Go.WideShapes Go.ChangeAt Go.RowKit Go.Deep

theorem b8_bv {k : Int} (h0 : 0 ≤ k) (h1 : k ≤ 255) : bv (b8 k) = .int .u8 k := bv_b8_of h0 (by omega)

theorem add_at (b o i : Nat) : (⟨b, o, none⟩ : Addr).add i = ⟨b, o + i, none⟩ := by unfold Addr.add; split <;> simp_all

theorem spot_none {w : World} {a : Addr} {v : Value} (h : w.cell? a = some v) : a = ⟨a.block, a.off, none⟩ := by
  have := World.cell?_spot h
  cases a
  simp_all

/-- A slice of bytes that came in. -/
theorem byt_open {H : Type} {enc : TypeId × Value → H} {P : Program} {w : World} {spare : Nat → Bool} {held : Bool} {fuel : Nat} {t e : TypeId} {v : Value} {x : DataW H × List MemPlace}
    (ht : P.underlying t = some (.slice e)) (he : P.underlying e = some (.int .u8)) (hc : P.cellsOf e = 1) (h : DataW.trod enc P w 0 spare held fuel t [v] = some x) : ∃ bs, Byt w w.heap.size v bs := by
  rcases open_ints ht he hc h with ⟨hcs, _⟩ | ⟨a, len, cap, zs, hcs, _, hl, hm, hz, _, hcell, hwf⟩
  · simp only [List.cons.injEq, and_true] at hcs
    subst hcs
    exact ⟨[], Byt.nil _ _⟩
  · simp only [List.cons.injEq, and_true] at hcs
    subst hcs
    have hlz : len ≤ zs.length := by rw [hz]; split <;> omega
    have hlen : ((zs.take len).map b8).length = len := by simp; omega
    refine ⟨(zs.take len).map b8, some a, cap, by rw [hlen], by rw [hlen]; exact hl, hm, (by intro h; cases h), fun hne => ?_⟩
    have hpos : 0 < len := by
      rcases Nat.eq_zero_or_pos len with h0 | h0
      · rw [h0] at hne; simp at hne
      · exact h0
    have h0 := hcell 0 (by omega)
    have hadd0 : a.add 0 = a := by unfold Addr.add; simp
    rw [hadd0] at h0
    have hsp := spot_none h0
    refine ⟨a.block, a.off, by rw [← hsp], World.block_lt_of_cell? _ _ h0, fun j u hu => ?_⟩
    have hj : j < len := by
      have := (List.getElem?_eq_some_iff.1 hu).1
      omega
    have hcj := hcell j (by omega)
    have hadd : a.add j = ⟨a.block, a.off + j, none⟩ := (congrArg (fun q : Addr => q.add j) hsp).trans (add_at _ _ _)
    rw [hadd] at hcj
    rw [hcj]
    have hzj : zs.getD j 0 = zs[j]'(by omega) := by rw [List.getD, List.getElem?_eq_getElem (show j < zs.length by omega)]; rfl
    rw [List.getElem?_map, List.getElem?_take, if_pos hj, List.getElem?_eq_getElem (by omega)] at hu
    simp at hu
    subst hu
    have hw := hwf (zs[j]'(by omega)) (List.getElem_mem _)
    rw [hzj]
    have hw2 := bounds_u8 hw
    rw [b8_bv]
    · exact hw2.1
    · have := hw2.2
      omega

theorem own : ownKnob Tryd.prog.godebug = none := by kernel_rfl
theorem laidOut : laidOutB Tryd.prog = true := by kernel_rfl

def laidL : List (String × DataW Unit) := [("strongbox/hash.leftOrder", Rows.laid_strongbox_hash_leftOrder), ("strongbox/hash.rightOrder", Rows.laid_strongbox_hash_rightOrder), ("strongbox/hash.leftTurns", Rows.laid_strongbox_hash_leftTurns), ("strongbox/hash.rightTurns", Rows.laid_strongbox_hash_rightTurns), ("strongbox/hash.squareRoots", Rows.laid_strongbox_hash_squareRoots), ("strongbox/hash.cubeRoots", Rows.laid_strongbox_hash_cubeRoots)]

theorem door_met (os : Os) (args : Array Value) : laidMetH Tryd.prog laidL ((World.doorLaid Tryd.prog 400 os).forCall (fun _ _ => 0) ⟨#[], args, []⟩).memory :=
  laidMetH_of_parts3 (fuel := 8) (laidMet_of_run' 8 (by kernel_rfl) (by kernel_rfl)) (by kernel_rfl) (by kernel_rfl)

theorem roots_of_laid {W : World} (h : laidMetH Tryd.prog laidL W) : Roots W := by
  rw [MakeChecks.laidMetH_plain _ _ _ (by kernel_rfl)] at h
  obtain ⟨ps, ⟨ga0, ta0, csa0, fa0, pa0, qa0, _, _, _, _, ⟨ga1, ta1, csa1, fa1, pa1, qa1, _, _, _, _, ⟨ga2, ta2, csa2, fa2, pa2, qa2, _, _, _, _, ⟨ga3, ta3, csa3, fa3, pa3, qa3, _, _, _, _, ⟨g4, t4, cs4, f4, p4, q4, hg4, ht4, hv4, hd4, ⟨g5, t5, cs5, f5, p5, q5, hg5, ht5, hv5, hd5, _, _⟩, _⟩, _⟩, _⟩, _⟩, _⟩, _, _⟩ := h
  obtain rfl := Option.some.inj ((show Tryd.prog.globalNamed "strongbox/hash.squareRoots" = some 0 by kernel_rfl).symm.trans hg4)
  obtain rfl := Option.some.inj ((show (Tryd.prog.globals[0]?).map (·.type) = some 55 by kernel_rfl).symm.trans ht4)
  obtain rfl := Option.some.inj ((show Tryd.prog.globalNamed "strongbox/hash.cubeRoots" = some 1 by kernel_rfl).symm.trans hg5)
  obtain rfl := Option.some.inj ((show (Tryd.prog.globals[1]?).map (·.type) = some 54 by kernel_rfl).symm.trans ht5)
  have e4 : (Rows.laid_strongbox_hash_squareRoots : DataW Unit) = Lib.tabData .u64 s512 := by kernel_rfl
  have e5 : (Rows.laid_strongbox_hash_cubeRoots : DataW Unit) = Lib.tabData .u64 k512 := by kernel_rfl
  rw [e4] at hd4
  rw [e5] at hd5
  have c4 := Lib.cells_of_tab Tryd.underlying55 Tryd.underlying42 (by kernel_rfl) (by kernel_rfl) hd4
  have c5 := Lib.cells_of_tab Tryd.underlying54 Tryd.underlying42 (by kernel_rfl) (by kernel_rfl) hd5
  have k4 : ∀ (t : Nat) (k : Int), s512[t]? = some k → W.cell? ⟨0, t, none⟩ = some (.int .u64 k) := fun t k hk => by
    have h := World.var?_cell hg4 hv4 t
    rw [h, ← Array.getElem?_toList, c4, List.getElem?_map, hk]
    rfl
  have k5 : ∀ (t : Nat) (k : Int), k512[t]? = some k → W.cell? ⟨1, t, none⟩ = some (.int .u64 k) := fun t k hk => by
    have h := World.var?_cell hg5 hv5 t
    rw [h, ← Array.getElem?_toList, c5, List.getElem?_map, hk]
    rfl
  exact ⟨⟨World.block_lt_of_cell? _ _ (k5 0 _ rfl), k5⟩, ⟨World.block_lt_of_cell? _ _ (k4 0 _ rfl), k4⟩⟩

theorem tabs_of_laid {W : World} (h : laidMetH Tryd.prog laidL W) : Rm.TabsIs W := by
  rw [MakeChecks.laidMetH_plain _ _ _ (by kernel_rfl)] at h
  obtain ⟨ps, ⟨g0, t0, cs0, f0, p0, q0, hg0, ht0, hv0, hd0, ⟨g1, t1, cs1, f1, p1, q1, hg1, ht1, hv1, hd1, ⟨g2, t2, cs2, f2, p2, q2, hg2, ht2, hv2, hd2, ⟨g3, t3, cs3, f3, p3, q3, hg3, ht3, hv3, hd3, _, _⟩, _⟩, _⟩, _⟩, _, _⟩ := h
  obtain rfl := Option.some.inj ((show Tryd.prog.globalNamed "strongbox/hash.leftOrder" = some 2 by kernel_rfl).symm.trans hg0)
  obtain rfl := Option.some.inj ((show (Tryd.prog.globals[2]?).map (·.type) = some 91 by kernel_rfl).symm.trans ht0)
  have e0 : (Rows.laid_strongbox_hash_leftOrder : DataW Unit) = Lib.tabData .u8 Rm.ord1 := by kernel_rfl
  rw [e0] at hd0
  have c0 := Lib.cells_of_tab Tryd.underlying91 Tryd.underlying5 (by kernel_rfl) (by kernel_rfl) hd0
  have k0 : ∀ (t : Nat) (k : Int), Rm.ord1[t]? = some k → W.cell? ⟨2, t, none⟩ = some (.int .u8 k) := fun t k hk => by
    have h := World.var?_cell hg0 hv0 t
    rw [h, ← Array.getElem?_toList, c0, List.getElem?_map, hk]
    rfl
  obtain rfl := Option.some.inj ((show Tryd.prog.globalNamed "strongbox/hash.rightOrder" = some 4 by kernel_rfl).symm.trans hg1)
  obtain rfl := Option.some.inj ((show (Tryd.prog.globals[4]?).map (·.type) = some 91 by kernel_rfl).symm.trans ht1)
  have e1 : (Rows.laid_strongbox_hash_rightOrder : DataW Unit) = Lib.tabData .u8 Rm.ord2 := by kernel_rfl
  rw [e1] at hd1
  have c1 := Lib.cells_of_tab Tryd.underlying91 Tryd.underlying5 (by kernel_rfl) (by kernel_rfl) hd1
  have k1 : ∀ (t : Nat) (k : Int), Rm.ord2[t]? = some k → W.cell? ⟨4, t, none⟩ = some (.int .u8 k) := fun t k hk => by
    have h := World.var?_cell hg1 hv1 t
    rw [h, ← Array.getElem?_toList, c1, List.getElem?_map, hk]
    rfl
  obtain rfl := Option.some.inj ((show Tryd.prog.globalNamed "strongbox/hash.leftTurns" = some 3 by kernel_rfl).symm.trans hg2)
  obtain rfl := Option.some.inj ((show (Tryd.prog.globals[3]?).map (·.type) = some 91 by kernel_rfl).symm.trans ht2)
  have e2 : (Rows.laid_strongbox_hash_leftTurns : DataW Unit) = Lib.tabData .u8 Rm.turn1 := by kernel_rfl
  rw [e2] at hd2
  have c2 := Lib.cells_of_tab Tryd.underlying91 Tryd.underlying5 (by kernel_rfl) (by kernel_rfl) hd2
  have k2 : ∀ (t : Nat) (k : Int), Rm.turn1[t]? = some k → W.cell? ⟨3, t, none⟩ = some (.int .u8 k) := fun t k hk => by
    have h := World.var?_cell hg2 hv2 t
    rw [h, ← Array.getElem?_toList, c2, List.getElem?_map, hk]
    rfl
  obtain rfl := Option.some.inj ((show Tryd.prog.globalNamed "strongbox/hash.rightTurns" = some 5 by kernel_rfl).symm.trans hg3)
  obtain rfl := Option.some.inj ((show (Tryd.prog.globals[5]?).map (·.type) = some 91 by kernel_rfl).symm.trans ht3)
  have e3 : (Rows.laid_strongbox_hash_rightTurns : DataW Unit) = Lib.tabData .u8 Rm.turn2 := by kernel_rfl
  rw [e3] at hd3
  have c3 := Lib.cells_of_tab Tryd.underlying91 Tryd.underlying5 (by kernel_rfl) (by kernel_rfl) hd3
  have k3 : ∀ (t : Nat) (k : Int), Rm.turn2[t]? = some k → W.cell? ⟨5, t, none⟩ = some (.int .u8 k) := fun t k hk => by
    have h := World.var?_cell hg3 hv3 t
    rw [h, ← Array.getElem?_toList, c3, List.getElem?_map, hk]
    rfl
  exact ⟨⟨World.block_lt_of_cell? _ _ (k0 0 _ rfl), k0⟩, ⟨World.block_lt_of_cell? _ _ (k1 0 _ rfl), k1⟩, ⟨World.block_lt_of_cell? _ _ (k2 0 _ rfl), k2⟩, ⟨World.block_lt_of_cell? _ _ (k3 0 _ rfl), k3⟩⟩
end Go.Proofs.YtpcopimbnbmkmaaDoor

/-
  HashSums returns true for every input, and leaves each argument as it was. Conditions: none beyond the statement's own (the listed variables hold what the program's text lays; the card ties them).
-/
namespace Go.Proofs.YtpcopimbnbmkmaaDoor
open Go.ChangeShapes Go.WideShapes Go.ChangeAt Go.RowKit Go.ChangeMaps

set_option maxRecDepth 100000 in
theorem hashSums_lifted (os : Os) (started : os.Started) (H : Type) (enc : TypeId × Value → H) :
    ReturnsInHanded {} Tryd.checked os 3 .any (fun w args => (Rows.hashSumsSpec.pre enc Tryd.prog Tryd.f3 [] false w args ∧ laidMetH Tryd.prog laidL w) ∧ sizedMet enc Tryd.prog Tryd.f3 (OpenSpec.ofChange Rows.hashSumsSpec) false w args)
      (Rows.hashSumsSpec.post enc Tryd.prog Tryd.f3 false true false false) := by
  refine returnsInHanded_of_change_and (C := Tryd.checked) (X := fun w _ => laidMetH Tryd.prog laidL w) (fun _ _ _ hh h => h.of_heap hh) own started (by kernel_rfl) Tryd.func3
    (ChangeSpec.witness_shaped (enc := enc) (C := Tryd.checked) (os := os) (X := fun w _ => laidMetH Tryd.prog laidL w) false (World.doorLaid Tryd.prog 400 os) #[.slice none 0 0] 8 rfl (World.shaped_of_RefB (by kernel_rfl) (by kernel_rfl)) (by kernel_rfl) (by kernel_rfl) (by kernel_rfl) (door_met os _)) ?_
  intro W base args ds gs before hval0 hW _ hsz hL _
  have hval : ∀ (j : Nat) t v, Tryd.f3.params[j]? = some t → args[j]? = some v → Value.okWide Tryd.prog W .any base t v := hval0
  have hW' := hW
  obtain ⟨p, q, hA0, hV, rfl, hfz, hnd⟩ := hW
  have hA : DataW.TrodAll enc Tryd.prog W 0 (fun _ => true) true Tryd.f3.params.toList args.toList ds p := hA0
  rw [Tryd.params3] at hA hval
  obtain ⟨v0, d0, rfl, rfl, h0⟩ := trodAll_one hA
  obtain ⟨rfl, rfl⟩ := trodVars_none hV
  obtain ⟨a0, len0, cap0, rfl⟩ := okWide_slice Tryd.underlying22 (hval 0 22 v0 rfl rfl)
  have lt0 : ∀ x ∈ p, x.block < W.heap.size := by obtain ⟨m, hm⟩ := h0; exact DataW.trod_lt m _ _ _ hm
  obtain ⟨bs0, hbs0⟩ : ∃ bs, Byt W W.heap.size (.slice a0 len0 cap0) bs := by
    obtain ⟨m, hm⟩ := h0
    exact byt_open Tryd.underlying22 Tryd.underlying5 (by kernel_rfl) hm
  clear hA0 hval0
  refine (sums_law W.heap.size _ bs0 W (roots_of_laid hL) (tabs_of_laid hL) hbs0 (Nat.le_refl _)).mono fun e W' ⟨he, bel⟩ => ?_
  subst he
  exact ⟨_, rfl, _, _, _, [], _, [], hW', trodAll_mk1 (shut_bool Tryd.underlying4 _), trodAll_mk1 (Below.trod laidOut (by kernel_rfl) (of_decide_eq_true (by kernel_rfl)) h0 bel lt0), rfl, bel.frame _, fun h => by cases h⟩

theorem hashSums_row : Rows.HashSumsSaid :=
  OpenClaim.holds_of_wide 3 Tryd.f3 rfl rfl rfl rfl rfl rfl rfl ⟨rfl, rfl, rfl, rfl, rfl⟩ rfl rfl rfl rfl rfl (by kernel_rfl) Tryd.func3 (by kernel_rfl)
    (of_decide_eq_true (by kernel_rfl)) (by unfold Func.isWrapper; first | (rw [if_pos (by decide +kernel)]; kernel_rfl) | (rw [if_neg (by decide +kernel)]; exact ⟨rfl, rfl⟩))
    (fun os started H enc _ => hashSums_lifted os started H enc)

theorem hashSums_holds : Rows.HashSumsCardSaid :=
  Claim7.holds_tied_plain_at .later [] [.data, .data, .data, .data, .data, .data] true _ false
    hashSums_row (fun _ h => by cases h) (by kernel_rfl) (fun _ h => by cases h) hashSums_row_tie rfl ⟨rfl, rfl⟩ (by kernel_rfl) rfl
    (fun f fn hf hfn => by
      obtain rfl : f = 3 := Option.some.inj ((show Tryd.prog.funcNamed "strongbox/strongboxlaw02.HashSums" = some 3 by kernel_rfl).symm.trans hf) |>.symm
      obtain rfl : fn = Tryd.f3 := (Option.some.inj (Tryd.func3.symm.trans hfn)).symm
      exact ⟨by kernel_rfl, fun j t ht => by
        rw [Tryd.params3] at ht
        have hm : t ∈ [22] := by simpa using Array.mem_of_getElem? ht
        have hall : ([22].all fun u => !Tryd.prog.wantsStandIn u) = true := by kernel_rfl
        exact (show Tryd.prog.wantsStandIn t = false by simpa using List.all_eq_true.1 hall t hm)⟩)
    (by kernel_rfl)
#print axioms hashSums_holds
end Go.Proofs.YtpcopimbnbmkmaaDoor
