/-
  From an argument that can be read as data to memory: a slice of the fees laws' acts. Conditions: none.
-/
import Derived.Test.YtfhpodeppmnopaaFeLawE
import Derived.Test.YtfhpodeppmnopaaFeOpen0
namespace Go.Proofs.Ytfhpodeppmnopaa
open Go.ChangeShapes Go.WideShapes Go.ChangeAt Go.RowKit Go.Deep

theorem b8_bv {k : Int} (h0 : 0 ≤ k) (h1 : k ≤ 255) : bv (b8 k) = .int .u8 k := bv_b8_of h0 (by omega)

theorem add_at (b o i : Nat) : (⟨b, o, none⟩ : Addr).add i = ⟨b, o + i, none⟩ := by unfold Addr.add; split <;> simp_all

theorem spot_none {w : World} {a : Addr} {v : Value} (h : w.cell? a = some v) : a = ⟨a.block, a.off, none⟩ := by
  have := World.cell?_spot h
  cases a
  simp_all

/-- A slice of bytes that came in. -/
theorem byt_open {H : Type} {enc : TypeId × Value → H} {P : Program} {w : World} {spare : Nat → Bool} {held : Bool} {fuel : Nat} {t e : TypeId} {v : Value} {x : DataW H × List MemPlace}
    (ht : P.underlying t = some (.slice e)) (he : P.underlying e = some (.int .u8)) (hc : P.cellsOf e = 1) (h : DataW.trod enc P w 0 spare held fuel t [v] = some x) : ∃ bs, Byt w w.heap.size v bs := by
  rcases open_ints ht he hc h with ⟨hcs, _⟩ | ⟨a, len, cap, zs, hcs, _, hl, hm, hz, _, hcell, hwf⟩
  · simp only [List.cons.injEq, and_true] at hcs
    subst hcs
    exact ⟨[], Byt.nil _ _⟩
  · simp only [List.cons.injEq, and_true] at hcs
    subst hcs
    have hlz : len ≤ zs.length := by rw [hz]; split <;> omega
    have hlen : ((zs.take len).map b8).length = len := by simp; omega
    refine ⟨(zs.take len).map b8, some a, cap, by rw [hlen], by rw [hlen]; exact hl, hm, (by intro h; cases h), fun hne => ?_⟩
    have hpos : 0 < len := by
      rcases Nat.eq_zero_or_pos len with h0 | h0
      · rw [h0] at hne; simp at hne
      · exact h0
    have h0 := hcell 0 (by omega)
    have hadd0 : a.add 0 = a := by unfold Addr.add; simp
    rw [hadd0] at h0
    have hsp := spot_none h0
    refine ⟨a.block, a.off, by rw [← hsp], World.block_lt_of_cell? _ _ h0, fun j u hu => ?_⟩
    have hj : j < len := by
      have := (List.getElem?_eq_some_iff.1 hu).1
      omega
    have hcj := hcell j (by omega)
    have hadd : a.add j = ⟨a.block, a.off + j, none⟩ := (congrArg (fun q : Addr => q.add j) hsp).trans (add_at _ _ _)
    rw [hadd] at hcj
    rw [hcj]
    have hzj : zs.getD j 0 = zs[j]'(by omega) := by rw [List.getD, List.getElem?_eq_getElem (show j < zs.length by omega)]; rfl
    rw [List.getElem?_map, List.getElem?_take, if_pos hj, List.getElem?_eq_getElem (by omega)] at hu
    simp at hu
    subst hu
    have hw := hwf (zs[j]'(by omega)) (List.getElem_mem _)
    rw [hzj]
    have hw2 := bounds_u8 hw
    rw [b8_bv]
    · exact hw2.1
    · have := hw2.2
      omega


theorem cells_fact : Try.prog.cellsOf 38 = 5 := by kernel_rfl
theorem cells_fu8 : Try.prog.cellsOf 5 = 1 := by kernel_rfl

/-- A slice of acts that came in. -/
theorem acts_open {H : Type} {enc : TypeId × Value → H} {w : World} {held : Bool} {fuel : Nat} {v : Value} {x : DataW H × List MemPlace}
    (h : DataW.trod enc Try.prog w 0 (fun _ => true) held fuel 22 [v] = some x) :
    ∃ al, ActS w w.heap.size v al := by
  rcases open_slice Try.underlying22 h with ⟨hcs, _⟩ | ⟨a, len, cap, m, n, D, Pl, hcs, _, hl, hm, hmm, _, hel⟩
  · simp only [List.cons.injEq, and_true] at hcs
    exact ⟨[], none, 0, hcs, by simp, by simp, fun h => absurd rfl h⟩
  · simp only [List.cons.injEq, and_true] at hcs
    subst hcs
    simp only [if_true] at hmm
    rcases Nat.eq_zero_or_pos len with h0 | hpos
    · subst h0
      exact ⟨[], _, _, rfl, by simp, by simp, fun h => absurd rfl h⟩
    · rw [cells_fact] at hel
      have key : ∀ i, i < len → ∃ c : AcP, c.ok ∧ ∃ bv, w.cell? (a.add (i * 5)) = some (.int .i64 c.kd) ∧ w.cell? ((a.add (i * 5)).add 1) = some (.int .u8 (c.id.toNat : Int)) ∧ w.cell? ((a.add (i * 5)).add 2) = some (.int .i64 c.rate) ∧
          w.cell? ((a.add (i * 5)).add 3) = some (.int .i64 c.ht) ∧ w.cell? ((a.add (i * 5)).add 4) = some bv ∧ Byt w w.heap.size bv c.ids := by
        intro i hi
        obtain ⟨cs', hc, ht⟩ := hel i (by omega)
        obtain ⟨_, hcl, hat⟩ := World.cells?_some hc
        obtain ⟨ys, n', _, _, _, hyl, hf⟩ := DataW.trod_struct Try.underlying38 ht
        match cs', hcl with
        | [c0, c1, c2, c3, c4], _ =>
          have g0 := hat 0 (by omega)
          have g1 := hat 1 (by omega)
          have g2 := hat 2 (by omega)
          have g3 := hat 3 (by omega)
          have g4 := hat 4 (by omega)
          have f0 : DataW.trod enc Try.prog w 0 (fun _ => true) held n' 3 (List.take (Try.prog.cellsOf 3) (List.drop 0 [c0, c1, c2, c3, c4])) = ys[0]? := hf 0 _ rfl
          have f1 : DataW.trod enc Try.prog w 0 (fun _ => true) held n' 5 (List.take (Try.prog.cellsOf 5) (List.drop 1 [c0, c1, c2, c3, c4])) = ys[1]? := hf 1 _ rfl
          have f2 : DataW.trod enc Try.prog w 0 (fun _ => true) held n' 2 (List.take (Try.prog.cellsOf 2) (List.drop 2 [c0, c1, c2, c3, c4])) = ys[2]? := hf 2 _ rfl
          have f3 : DataW.trod enc Try.prog w 0 (fun _ => true) held n' 3 (List.take (Try.prog.cellsOf 3) (List.drop 3 [c0, c1, c2, c3, c4])) = ys[3]? := hf 3 _ rfl
          have f4 : DataW.trod enc Try.prog w 0 (fun _ => true) held n' 36 (List.take (Try.prog.cellsOf 36) (List.drop 4 [c0, c1, c2, c3, c4])) = ys[4]? := hf 4 _ rfl
          rw [show Try.prog.cellsOf 3 = 1 by kernel_rfl] at f0 f3
          rw [show Try.prog.cellsOf 5 = 1 by kernel_rfl] at f1
          rw [show Try.prog.cellsOf 2 = 1 by kernel_rfl] at f2
          rw [show Try.prog.cellsOf 36 = 1 by kernel_rfl] at f4
          have hy5 : ys.length = 5 := hyl
          rw [List.getElem?_eq_getElem (by omega)] at f0 f1 f2 f3 f4
          obtain ⟨k0, e0, _, _⟩ := DataW.trod_int Try.underlying3 f0
          obtain ⟨k1, e1, _, w1⟩ := DataW.trod_int Try.underlying5 f1
          obtain ⟨k2, e2, _, w2⟩ := DataW.trod_int Try.underlying2 f2
          obtain ⟨k3, e3, _, w3⟩ := DataW.trod_int Try.underlying3 f3
          have w1' := bounds_u8 w1
          have w2' := bounds_i64 w2
          have w3' := bounds_i64 w3
          obtain ⟨bs, hbs⟩ := byt_open slice_u8 Try.underlying5 cells_fu8 f4
          simp at e0 e1 e2 e3
          subst e0 e1 e2 e3
          have hk1 : ((UInt8.ofNat k1.toNat).toNat : Int) = k1 := by
            rw [UInt8.toNat_ofNat_of_lt' (by have := w1'.1; have := w1'.2; show k1.toNat < 256; omega)]
            have := w1'.1
            omega
          refine ⟨⟨k0, UInt8.ofNat k1.toNat, k2, k3, bs⟩, ⟨w2', w3'⟩, c4, ?_, ?_, g2, g3, g4, hbs⟩
          · have hz : (a.add (i * 5)).add 0 = a.add (i * 5) := by unfold Addr.add; simp
            rw [hz] at g0
            exact g0
          · rw [hk1]
            exact g1
      have hdef : ∃ f : Nat → AcP, ∀ i, i < len → (f i).ok ∧ ∃ bv, w.cell? (a.add (i * 5)) = some (.int .i64 (f i).kd) ∧ w.cell? ((a.add (i * 5)).add 1) = some (.int .u8 ((f i).id.toNat : Int)) ∧ w.cell? ((a.add (i * 5)).add 2) = some (.int .i64 (f i).rate) ∧
          w.cell? ((a.add (i * 5)).add 3) = some (.int .i64 (f i).ht) ∧ w.cell? ((a.add (i * 5)).add 4) = some bv ∧ Byt w w.heap.size bv (f i).ids := by
        refine ⟨fun i => if h : i < len then Classical.choose (key i h) else ⟨0, 0, 0, 0, []⟩, fun i hi => ?_⟩
        simp only [hi, dif_pos]
        exact Classical.choose_spec (key i hi)
      obtain ⟨f, hfa⟩ := hdef
      have hsp : a = ⟨a.block, a.off, none⟩ := by
        obtain ⟨_, _, h0, _⟩ := hfa 0 hpos
        have hz : a.add (0 * 5) = a := by unfold Addr.add; simp
        rw [hz] at h0
        exact spot_none h0
      have hadd : ∀ i, a.add i = ⟨a.block, a.off + i, none⟩ := fun i => (congrArg (fun q : Addr => q.add i) hsp).trans (add_at _ _ _)
      refine ⟨(List.range len).map f, some a, cap, by simp, by unfold maxLen at hm; simp; omega, ?_, fun _ => ⟨a.block, a.off, by rw [← hsp], ?_, fun i c hc => ?_⟩⟩
      · intro c hc
        obtain ⟨i, hi, rfl⟩ := List.mem_map.1 hc
        exact (hfa i (List.mem_range.1 hi)).1
      · obtain ⟨_, _, h0, _⟩ := hfa 0 hpos
        rw [hadd] at h0
        exact World.block_lt_of_cell? w ⟨a.block, a.off + 0 * 5, none⟩ h0
      · have hi' : i < len := by simpa using (List.getElem?_eq_some_iff.1 hc).1
        have he : c = f i := by
          rw [List.getElem?_map, List.getElem?_range hi'] at hc
          exact (Option.some.inj hc).symm
        subst he
        obtain ⟨_, bv, hh⟩ := hfa i hi'
        rw [hadd, add_at, add_at, add_at, add_at] at hh
        refine ⟨bv, fun j v hv => ?_, hh.2.2.2.2.2⟩
        rcases j with _ | _ | _ | _ | _ | j
        · cases hv; exact hh.1
        · cases hv; exact hh.2.1
        · cases hv; exact hh.2.2.1
        · cases hv; exact hh.2.2.2.1
        · cases hv; exact hh.2.2.2.2.1
        · exact absurd (List.getElem?_eq_some_iff.1 hv).1 (by simp [acC])

end Go.Proofs.Ytfhpodeppmnopaa
