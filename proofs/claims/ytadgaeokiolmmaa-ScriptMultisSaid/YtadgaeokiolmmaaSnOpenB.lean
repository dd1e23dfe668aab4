/-
  From an argument that can be read as data to slices of bytes in memory. Conditions: none.
-/
import Derived.Test.YtadgaeokiolmmaaSnOpen
import Derived.Test.YtadgaeokiolmmaaSnCat
namespace Go.Proofs.Ytadgaeokiolmmaa
open Go.ChangeShapes Go.WideShapes Go.ChangeAt Go.RowKit Go.Deep

theorem bag_open {H : Type} {enc : TypeId × Value → H} {P : Program} {w : World} {spare : Nat → Bool} {held : Bool} {fuel : Nat} {t e q : TypeId} {v : Value} {x : DataW H × List MemPlace}
    (ht : P.underlying t = some (.slice e)) (he : P.underlying e = some (.slice q)) (hq : P.underlying q = some (.int .u8)) (ce : P.cellsOf e = 1) (cq : P.cellsOf q = 1) (h : DataW.trod enc P w 0 spare held fuel t [v] = some x) : ∃ L, BagR w w.heap.size v L := by
  rcases open_slice1 ht ce h with ⟨hcs, _⟩ | ⟨a, len, cap, m, n, V, D, Pl, hcs, _, hl, hm, hmm, _, hx⟩
  · simp only [List.cons.injEq, and_true] at hcs
    subst hcs
    exact ⟨[], ⟨none, 0, rfl, Nat.le_refl _, by unfold maxLen; omega, fun h => absurd rfl h⟩, fun _ h => by cases h⟩
  · simp only [List.cons.injEq, and_true] at hcs
    subst hcs
    have hlm : len ≤ m := by rw [hmm]; split <;> omega
    obtain ⟨f, hf⟩ := choose_lt (α := List UInt8) (p := fun i bs => Byt w w.heap.size (V i) bs) (n := len) (fun i hi => byt_open he hq cq (hx i (by omega)).2)
    have hlen : ((List.range len).map fun i => (V i, f i)).length = len := by simp
    refine ⟨(List.range len).map fun i => (V i, f i), ⟨some a, cap, by rw [hlen], by rw [hlen]; exact hl, hm, fun hne => ?_⟩, fun p hp => ?_⟩
    · have hpos : 0 < len := by
        rcases Nat.eq_zero_or_pos len with h0 | h0
        · rw [h0] at hne; simp at hne
        · exact h0
      have h0 := (hx 0 (by omega)).1
      have hadd0 : a.add 0 = a := by unfold Addr.add; simp
      rw [hadd0] at h0
      have hsp := spot_none h0
      refine ⟨a.block, a.off, by rw [← hsp], World.block_lt_of_cell? _ _ h0, fun j p hp => ?_⟩
      have hj : j < len := by
        have := (List.getElem?_eq_some_iff.1 hp).1
        omega
      have hcj := (hx j (by omega)).1
      have hadd : a.add j = ⟨a.block, a.off + j, none⟩ := (congrArg (fun q : Addr => q.add j) hsp).trans (add_at _ _ _)
      rw [hadd] at hcj
      rw [hcj]
      rw [List.getElem?_map, List.getElem?_range hj] at hp
      rw [← Option.some.inj hp]
    · obtain ⟨i, hi, rfl⟩ := List.mem_map.1 hp
      exact hf i (List.mem_range.1 hi)
theorem cells_bag : Try.prog.cellsOf 22 = 1 := by kernel_rfl
theorem bag_came {H : Type} {enc : TypeId × Value → H} {w : World} {v : Value} {d : DataW H} {p : List MemPlace} (h : DataW.Trod enc Try.prog w 0 (fun _ => true) true 46 v d p) (hv : ∃ A n c, v = .slice A n c) : ∃ L, BagR w w.heap.size v L := by
  obtain ⟨A, n, c, rfl⟩ := hv
  obtain ⟨fuel, hf⟩ := h
  exact bag_open Try.underlying46 slice_u8 Try.underlying5 cells_bag cells_u8 hf
end Go.Proofs.Ytadgaeokiolmmaa
