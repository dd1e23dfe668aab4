/-
  From an argument that can be read as data to bytes in memory; and from the rows' listed variables to the codes that the walks read. Conditions: none.
-/
import Derived.Test.YtpaafkhlelljcaaDoorBcStep
import Derived.Test.YtpaafkhlelljcaaDoorChk
import Derived.Test.YtpaafkhlelljcaaDoorRows
import Derived.Test.YtpaafkhlelljcaaDoorCards
import Derived.Test.YtpaafkhlelljcaaDoorTie
import Derived.SevenTiedAt
import Derived.ChangeSame
import Derived.JoinedOf
import Derived.JoinedAt
import Derived.LaidMore
import Derived.LaidHandle
import Derived.Stop.Joined
import Derived.Deep.Slices
import Derived.Deep.Fields
import Derived.ProofKit
import Derived.OpenShut
import Derived.ChangeOld
import Derived.SizedLaws
import Derived.ChangeMaps5
import Derived.Lib.LaidTab
namespace Go.Proofs.YtpaafkhlelljcaaDoor
open Go.ChangeShapes Go.WideShapes Go.ChangeAt Go.RowKit Go.Deep

theorem b8_bv {k : Int} (h0 : 0 ≤ k) (h1 : k ≤ 255) : bv (b8 k) = .int .u8 k := bv_b8_of h0 (by omega)

theorem add_at (b o i : Nat) : (⟨b, o, none⟩ : Addr).add i = ⟨b, o + i, none⟩ := by unfold Addr.add; split <;> simp_all

theorem spot_none {w : World} {a : Addr} {v : Value} (h : w.cell? a = some v) : a = ⟨a.block, a.off, none⟩ := by
  have := World.cell?_spot h
  cases a
  simp_all

/-- A slice of bytes that came in. -/
theorem byt_open {H : Type} {enc : TypeId × Value → H} {P : Program} {w : World} {spare : Nat → Bool} {held : Bool} {fuel : Nat} {t e : TypeId} {v : Value} {x : DataW H × List MemPlace}
    (ht : P.underlying t = some (.slice e)) (he : P.underlying e = some (.int .u8)) (hc : P.cellsOf e = 1) (h : DataW.trod enc P w 0 spare held fuel t [v] = some x) : ∃ bs, Byt w w.heap.size v bs := by
  rcases open_ints ht he hc h with ⟨hcs, _⟩ | ⟨a, len, cap, zs, hcs, _, hl, hm, hz, _, hcell, hwf⟩
  · simp only [List.cons.injEq, and_true] at hcs
    subst hcs
    exact ⟨[], Byt.nil _ _⟩
  · simp only [List.cons.injEq, and_true] at hcs
    subst hcs
    have hlz : len ≤ zs.length := by rw [hz]; split <;> omega
    have hlen : ((zs.take len).map b8).length = len := by simp; omega
    refine ⟨(zs.take len).map b8, some a, cap, by rw [hlen], by rw [hlen]; exact hl, hm, (by intro h; cases h), fun hne => ?_⟩
    have hpos : 0 < len := by
      rcases Nat.eq_zero_or_pos len with h0 | h0
      · rw [h0] at hne; simp at hne
      · exact h0
    have h0 := hcell 0 (by omega)
    have hadd0 : a.add 0 = a := by unfold Addr.add; simp
    rw [hadd0] at h0
    have hsp := spot_none h0
    refine ⟨a.block, a.off, by rw [← hsp], World.block_lt_of_cell? _ _ h0, fun j u hu => ?_⟩
    have hj : j < len := by
      have := (List.getElem?_eq_some_iff.1 hu).1
      omega
    have hcj := hcell j (by omega)
    have hadd : a.add j = ⟨a.block, a.off + j, none⟩ := (congrArg (fun q : Addr => q.add j) hsp).trans (add_at _ _ _)
    rw [hadd] at hcj
    rw [hcj]
    have hzj : zs.getD j 0 = zs[j]'(by omega) := by rw [List.getD, List.getElem?_eq_getElem (show j < zs.length by omega)]; rfl
    rw [List.getElem?_map, List.getElem?_take, if_pos hj, List.getElem?_eq_getElem (by omega)] at hu
    simp at hu
    subst hu
    have hw := hwf (zs[j]'(by omega)) (List.getElem_mem _)
    rw [hzj]
    have hw2 := bounds_u8 hw
    rw [b8_bv]
    · exact hw2.1
    · have := hw2.2
      omega

theorem own : ownKnob Tryd.prog.godebug = none := by kernel_rfl
theorem laidOut : laidOutB Tryd.prog = true := by kernel_rfl

def laidL : List (String × DataW Unit) := [("unicode/utf8.acceptRanges", Rows.laid_unicode_utf8_acceptRanges), ("strongbox/text.bech32Code", Rows.laid_strongbox_text_bech32Code), ("strongbox/text.descriptorCode", Rows.laid_strongbox_text_descriptorCode), ("unicode.CaseRanges", Rows.laid_unicode_CaseRanges), ("unicode/utf8.first", Rows.laid_unicode_utf8_first)]

theorem code_fields : ∃ f0 f1 : Field, Tryd.prog.underlying 77 = some (.struct #[f0, f1]) ∧ f0.type = 3 ∧ f0.offset = 0 ∧ f1.type = 75 ∧ f1.offset = 1 :=
  ⟨_, _, Tryd.underlying77, rfl, rfl, rfl, rfl⟩

theorem bech_of_laid {W : World} (h : laidMetH Tryd.prog laidL W) : BechIs W := by
  rw [MakeChecks.laidMetH_plain _ _ _ (by kernel_rfl)] at h
  obtain ⟨ps, ⟨ga1, ta1, csa1, fa1, pa1, qa1, _, _, _, _, ⟨g0, t0, cs0, f0, p0, q0, hg0, ht0, hv0, hd0, _, _⟩, _⟩, _, _⟩ := h
  obtain rfl := Option.some.inj ((show Tryd.prog.globalNamed "strongbox/text.bech32Code" = some 1 by kernel_rfl).symm.trans hg0)
  obtain rfl := Option.some.inj ((show (Tryd.prog.globals[1]?).map (·.type) = some 77 by kernel_rfl).symm.trans ht0)
  obtain ⟨g1, g2, hu, e1, e2, e3, e4⟩ := code_fields
  obtain ⟨y0, y1, n, hx, hl, hy0, hy1⟩ := trod_struct2 hu hd0
  have c1 : Tryd.prog.cellsOf 3 = 1 := by kernel_rfl
  have c5 : Tryd.prog.cellsOf 75 = 5 := by kernel_rfl
  have c6 : Tryd.prog.cellsOf 77 = 6 := by kernel_rfl
  rw [e1, e2, c1] at hy0
  rw [e3, e4, c5] at hy1
  rw [c6] at hl
  obtain ⟨m, hm, hm2, _⟩ := DataW.trod_int Tryd.underlying3 hy0
  have hdat := congrArg Prod.fst hx
  have hdat2 : (Rows.laid_strongbox_text_bech32Code : DataW Unit) = .agg [y0.1, y1.1] := hdat
  unfold Rows.laid_strongbox_text_bech32Code at hdat2
  injection hdat2 with hdat2
  injection hdat2 with h35 hrest
  injection hrest with htab _
  rw [hm2] at h35
  injection h35 with h35
  injection h35 with _ h35
  obtain ⟨d1, q1⟩ := y1
  have htab2 : d1 = Lib.tabData .u64 [996825010, 642813549, 513874426, 1027748829, 705979059] := htab.symm
  rw [htab2] at hy1
  have hcs := Lib.cells_of_tab Tryd.underlying75 Tryd.underlying61 (by kernel_rfl) c5 hy1
  have hdl : (cs0.toList.drop 1).length = 5 := by rw [List.length_drop]; omega
  rw [List.take_of_length_le (by omega)] at hcs
  rw [List.drop_zero] at hm
  have hall : cs0.toList = [.int .i64 25, .int .u64 996825010, .int .u64 642813549, .int .u64 513874426, .int .u64 1027748829, .int .u64 705979059] := by
    rw [← List.take_append_drop 1 cs0.toList, hm, hcs, ← h35]
    rfl
  have hcs0 : cs0 = #[.int .i64 25, .int .u64 996825010, .int .u64 642813549, .int .u64 513874426, .int .u64 1027748829, .int .u64 705979059] := by
    apply Array.toList_inj.1
    exact hall
  have k := fun o => World.var?_cell hg0 hv0 o
  rw [hcs0] at k
  exact ⟨World.block_lt_of_cell? _ _ (k 0), k 0, k 1, k 2, k 3, k 4, k 5⟩

theorem code_of_laid {W : World} (h : laidMetH Tryd.prog laidL W) : CodeIs W := by
  rw [MakeChecks.laidMetH_plain _ _ _ (by kernel_rfl)] at h
  obtain ⟨ps, ⟨ga1, ta1, csa1, fa1, pa1, qa1, _, _, _, _, ⟨ga2, ta2, csa2, fa2, pa2, qa2, _, _, _, _, ⟨g0, t0, cs0, f0, p0, q0, hg0, ht0, hv0, hd0, _, _⟩, _⟩, _⟩, _, _⟩ := h
  obtain rfl := Option.some.inj ((show Tryd.prog.globalNamed "strongbox/text.descriptorCode" = some 0 by kernel_rfl).symm.trans hg0)
  obtain rfl := Option.some.inj ((show (Tryd.prog.globals[0]?).map (·.type) = some 77 by kernel_rfl).symm.trans ht0)
  obtain ⟨g1, g2, hu, e1, e2, e3, e4⟩ := code_fields
  obtain ⟨y0, y1, n, hx, hl, hy0, hy1⟩ := trod_struct2 hu hd0
  have c1 : Tryd.prog.cellsOf 3 = 1 := by kernel_rfl
  have c5 : Tryd.prog.cellsOf 75 = 5 := by kernel_rfl
  have c6 : Tryd.prog.cellsOf 77 = 6 := by kernel_rfl
  rw [e1, e2, c1] at hy0
  rw [e3, e4, c5] at hy1
  rw [c6] at hl
  obtain ⟨m, hm, hm2, _⟩ := DataW.trod_int Tryd.underlying3 hy0
  have hdat := congrArg Prod.fst hx
  have hdat2 : (Rows.laid_strongbox_text_descriptorCode : DataW Unit) = .agg [y0.1, y1.1] := hdat
  unfold Rows.laid_strongbox_text_descriptorCode at hdat2
  injection hdat2 with hdat2
  injection hdat2 with h35 hrest
  injection hrest with htab _
  rw [hm2] at h35
  injection h35 with h35
  injection h35 with _ h35
  obtain ⟨d1, q1⟩ := y1
  have htab2 : d1 = Lib.tabData .u64 [1056006543753, 730107360018, 118834127661, 236335490938, 430795026429] := htab.symm
  rw [htab2] at hy1
  have hcs := Lib.cells_of_tab Tryd.underlying75 Tryd.underlying61 (by kernel_rfl) c5 hy1
  have hdl : (cs0.toList.drop 1).length = 5 := by rw [List.length_drop]; omega
  rw [List.take_of_length_le (by omega)] at hcs
  rw [List.drop_zero] at hm
  have hall : cs0.toList = [.int .i64 35, .int .u64 1056006543753, .int .u64 730107360018, .int .u64 118834127661, .int .u64 236335490938, .int .u64 430795026429] := by
    rw [← List.take_append_drop 1 cs0.toList, hm, hcs, ← h35]
    rfl
  have hcs0 : cs0 = #[.int .i64 35, .int .u64 1056006543753, .int .u64 730107360018, .int .u64 118834127661, .int .u64 236335490938, .int .u64 430795026429] := by
    apply Array.toList_inj.1
    exact hall
  have k := fun o => World.var?_cell hg0 hv0 o
  rw [hcs0] at k
  exact ⟨World.block_lt_of_cell? _ _ (k 0), k 0, k 1, k 2, k 3, k 4, k 5⟩
end Go.Proofs.YtpaafkhlelljcaaDoor
