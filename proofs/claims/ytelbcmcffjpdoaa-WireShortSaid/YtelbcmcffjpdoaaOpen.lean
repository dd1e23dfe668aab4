/-
  From an argument that can be read as data to bytes in memory: a slice of bytes, and a slice of the laws' acts. Conditions: none.
-/
import Derived.Test.YtelbcmcffjpdoaaWrites
import Derived.Deep.Slices
import Derived.Deep.Fields
import Derived.ProofKit
import Derived.OpenShut
import Derived.ChangeOld
namespace Go.Proofs.Ytelbcmcffjpdoaa
open Go.ChangeShapes Go.WideShapes Go.ChangeAt Go.RowKit Go.Deep

theorem b8_bv {k : Int} (h0 : 0 ≤ k) (h1 : k ≤ 255) : bv (b8 k) = .int .u8 k := bv_b8_of h0 (by omega)

theorem add_at (b o i : Nat) : (⟨b, o, none⟩ : Addr).add i = ⟨b, o + i, none⟩ := by unfold Addr.add; split <;> simp_all

theorem spot_none {w : World} {a : Addr} {v : Value} (h : w.cell? a = some v) : a = ⟨a.block, a.off, none⟩ := by
  have := World.cell?_spot h
  cases a
  simp_all

/-- A slice of bytes that came in. -/
theorem byt_open {H : Type} {enc : TypeId × Value → H} {P : Program} {w : World} {spare : Nat → Bool} {held : Bool} {fuel : Nat} {t e : TypeId} {v : Value} {x : DataW H × List MemPlace}
    (ht : P.underlying t = some (.slice e)) (he : P.underlying e = some (.int .u8)) (hc : P.cellsOf e = 1) (h : DataW.trod enc P w 0 spare held fuel t [v] = some x) : ∃ bs, Byt w w.heap.size v bs := by
  rcases open_ints ht he hc h with ⟨hcs, _⟩ | ⟨a, len, cap, zs, hcs, _, hl, hm, hz, _, hcell, hwf⟩
  · simp only [List.cons.injEq, and_true] at hcs
    subst hcs
    exact ⟨[], Byt.nil _ _⟩
  · simp only [List.cons.injEq, and_true] at hcs
    subst hcs
    have hlz : len ≤ zs.length := by rw [hz]; split <;> omega
    have hlen : ((zs.take len).map b8).length = len := by simp; omega
    refine ⟨(zs.take len).map b8, some a, cap, by rw [hlen], by rw [hlen]; exact hl, hm, (by intro h; cases h), fun hne => ?_⟩
    have hpos : 0 < len := by
      rcases Nat.eq_zero_or_pos len with h0 | h0
      · rw [h0] at hne; simp at hne
      · exact h0
    have h0 := hcell 0 (by omega)
    have hadd0 : a.add 0 = a := by unfold Addr.add; simp
    rw [hadd0] at h0
    have hsp := spot_none h0
    refine ⟨a.block, a.off, by rw [← hsp], World.block_lt_of_cell? _ _ h0, fun j u hu => ?_⟩
    have hj : j < len := by
      have := (List.getElem?_eq_some_iff.1 hu).1
      omega
    have hcj := hcell j (by omega)
    have hadd : a.add j = ⟨a.block, a.off + j, none⟩ := (congrArg (fun q : Addr => q.add j) hsp).trans (add_at _ _ _)
    rw [hadd] at hcj
    rw [hcj]
    have hzj : zs.getD j 0 = zs[j]'(by omega) := by rw [List.getD, List.getElem?_eq_getElem (show j < zs.length by omega)]; rfl
    rw [List.getElem?_map, List.getElem?_take, if_pos hj, List.getElem?_eq_getElem (by omega)] at hu
    simp at hu
    subst hu
    have hw := hwf (zs[j]'(by omega)) (List.getElem_mem _)
    rw [hzj]
    have hw2 := bounds_u8 hw
    rw [b8_bv]
    · exact hw2.1
    · have := hw2.2
      omega


theorem cells_act : Try.prog.cellsOf 31 = 3 := by kernel_rfl
theorem cells_u8 : Try.prog.cellsOf 5 = 1 := by kernel_rfl
theorem one_act : ∀ (i : Nat) (f : Field), (match Try.prog.underlying 31 with | some (.struct fs) => fs[i]? | _ => none) = some f → f.offset = i ∧ Try.prog.cellsOf f.type = 1 := by
  rw [Try.underlying31]
  exact hone_of (by kernel_rfl)

/-- A slice of acts that came in: nil or empty, or the acts lie there. -/
theorem acts_open {H : Type} {enc : TypeId × Value → H} {w : World} {held : Bool} {fuel : Nat} {v : Value} {x : DataW H × List MemPlace}
    (h : DataW.trod enc Try.prog w 0 (fun _ => true) held fuel 22 [v] = some x) :
    (∃ A cap, v = .slice A 0 cap) ∨ ∃ b off len cap al, v = .slice (some ⟨b, off, none⟩) len cap ∧ al.length = len ∧ len ≤ 9223372036854775807 ∧ Acts w w.heap.size b off al := by
  rcases open_slice Try.underlying22 h with ⟨hcs, _⟩ | ⟨a, len, cap, m, n, D, Pl, hcs, _, hl, hm, hmm, _, hel⟩
  · simp only [List.cons.injEq, and_true] at hcs
    exact .inl ⟨none, 0, hcs⟩
  · simp only [List.cons.injEq, and_true] at hcs
    subst hcs
    simp only [if_true] at hmm
    rcases Nat.eq_zero_or_pos len with h0 | hpos
    · subst h0
      exact .inl ⟨_, _, rfl⟩
    · rw [cells_act] at hel
      have key : ∀ i, i < len → ∃ c : Ac, w.cell? (a.add (i * 3)) = some (.int .i64 c.kd) ∧ w.cell? ((a.add (i * 3)).add 1) = some (.int .u64 c.n) ∧ w.cell? ((a.add (i * 3)).add 2) = some c.b ∧
          0 ≤ c.n ∧ c.n < 18446744073709551616 ∧ Byt w w.heap.size c.b c.bs := by
        intro i hi
        obtain ⟨cs', hc, ht⟩ := hel i (by omega)
        obtain ⟨_, hcl, hat⟩ := World.cells?_some hc
        obtain ⟨ys, n', _, _, _, hyl, hf⟩ := DataW.trod_struct Try.underlying31 ht
        match cs', hcl with
        | [c0, c1, c2], _ =>
          have g0 := hat 0 (by omega)
          have g1 := hat 1 (by omega)
          have g2 := hat 2 (by omega)
          have f0 : DataW.trod enc Try.prog w 0 (fun _ => true) held n' 3 (List.take (Try.prog.cellsOf 3) (List.drop 0 [c0, c1, c2])) = ys[0]? := hf 0 _ rfl
          have f1 : DataW.trod enc Try.prog w 0 (fun _ => true) held n' 29 (List.take (Try.prog.cellsOf 29) (List.drop 1 [c0, c1, c2])) = ys[1]? := hf 1 _ rfl
          have f2 : DataW.trod enc Try.prog w 0 (fun _ => true) held n' 24 (List.take (Try.prog.cellsOf 24) (List.drop 2 [c0, c1, c2])) = ys[2]? := hf 2 _ rfl
          rw [show Try.prog.cellsOf 3 = 1 by kernel_rfl] at f0
          rw [show Try.prog.cellsOf 29 = 1 by kernel_rfl] at f1
          rw [show Try.prog.cellsOf 24 = 1 by kernel_rfl] at f2
          have hy3 : ys.length = 3 := hyl
          rw [List.getElem?_eq_getElem (by omega)] at f0 f1 f2
          obtain ⟨k0, e0, _, _⟩ := DataW.trod_int Try.underlying3 f0
          obtain ⟨k1, e1, _, w1⟩ := DataW.trod_int Try.underlying29 f1
          have w1' := bounds_u64 w1
          obtain ⟨bs, hbs⟩ := byt_open slice_u8 Try.underlying5 cells_u8 f2
          simp at e0 e1
          subst e0 e1
          refine ⟨⟨k0, k1, c2, bs⟩, ?_, g1, g2, w1'.1, ?_, hbs⟩
          · have hz : (a.add (i * 3)).add 0 = a.add (i * 3) := by unfold Addr.add; simp
            rw [hz] at g0
            exact g0
          · have := w1'.2
            simp only
            omega
      have hdef : ∃ f : Nat → Ac, ∀ i, i < len → w.cell? (a.add (i * 3)) = some (.int .i64 (f i).kd) ∧ w.cell? ((a.add (i * 3)).add 1) = some (.int .u64 (f i).n) ∧ w.cell? ((a.add (i * 3)).add 2) = some (f i).b ∧
          0 ≤ (f i).n ∧ (f i).n < 18446744073709551616 ∧ Byt w w.heap.size (f i).b (f i).bs := by
        refine ⟨fun i => if h : i < len then Classical.choose (key i h) else ⟨0, 0, .bool false, []⟩, fun i hi => ?_⟩
        simp only [hi, dif_pos]
        exact Classical.choose_spec (key i hi)
      obtain ⟨f, hfa⟩ := hdef
      have hsp : a = ⟨a.block, a.off, none⟩ := by
        have h0 := (hfa 0 hpos).1
        have hz : a.add (0 * 3) = a := by unfold Addr.add; simp
        rw [hz] at h0
        exact spot_none h0
      have hadd : ∀ i, a.add i = ⟨a.block, a.off + i, none⟩ := fun i => (congrArg (fun q : Addr => q.add i) hsp).trans (add_at _ _ _)
      refine .inr ⟨a.block, a.off, len, cap, (List.range len).map f, by rw [← hsp], by simp, by unfold maxLen at hm; omega, ?_, fun i hi => ?_⟩
      · have h0 := (hfa 0 hpos).1
        rw [hadd] at h0
        exact World.block_lt_of_cell? w ⟨a.block, a.off + 0 * 3, none⟩ h0
      · have hi' : i < len := by simpa using hi
        have he : ((List.range len).map f)[i] = f i := by simp
        rw [he]
        have hh := hfa i hi'
        rw [hadd, add_at, add_at] at hh
        exact hh

end Go.Proofs.Ytelbcmcffjpdoaa
