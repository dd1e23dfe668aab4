/-
  A range over the map of those that wait, each of the entries that came being among others. Conditions: none.
-/
import Derived.Test.YtfhpodeppmnopaaFeClone2
import Derived.Maps.RangeRun
import Derived.Maps.Range
namespace Go.Proofs.Ytfhpodeppmnopaa
open Go.RowKit Go.Maps Go.ChangeMaps

/-- A range under way: what came lies in V. -/
def ItAt (w : World) (c b r : Nat) (W V : List Ent) : Prop :=
  ∃ es clock since seen c0, w.heap[b]? = some (.map es clock) ∧ MapKept.Stamped es clock ∧ es.toList.map (fun e => (e.key, e.val)) = W.map (fun e => (nmV c e.id, wtV e)) ∧
    w.heap[r]? = some (.mapIter (some b) since seen c0) ∧ (∀ x ∈ es.toList, x.born < since) ∧ since ≤ c0 ∧ since ≤ clock ∧ (∀ x ∈ es.toList, seen.contains x.born = true → ∃ e ∈ V, x.key = nmV c e.id ∧ x.val = wtV e)

theorem wtV_inj {a b : Ent} (h : wtV a = wtV b) : a.bk = b.bk ∧ a.ht = b.ht := by
  unfold wtV at h
  simp at h
  exact ⟨by have := h.1; omega, h.2⟩
theorem ent_eq {c : Nat} {a b : Ent} (h1 : nmV c a.id = nmV c b.id) (h2 : wtV a = wtV b) : a = b := by
  have i := nmV_inj h1
  have j := wtV_inj h2
  cases a
  cases b
  simp only at i j
  rw [i, j.1, j.2]

section
variable {w w' : World} {c b r : Nat} {W V : List Ent}
theorem ItAt.turns {P : Nat → Prop} (h : ItAt w c b r W V) (ht : Turns P w w') (hb : ¬ P b) (hr : ¬ P r) : ItAt w' c b r W V := by
  obtain ⟨es, clock, since, seen, c0, g1, g2, g3, g4, g5⟩ := h
  exact ⟨es, clock, since, seen, c0, (ht.block b (Array.getElem?_eq_some_iff.1 g1).1 hb).trans g1, g2, g3, (ht.block r (Array.getElem?_eq_some_iff.1 g4).1 hr).trans g4, g5⟩
theorem ItAt.same (h1 : w'.heap[b]? = w.heap[b]?) (h2 : w'.heap[r]? = w.heap[r]?) : w'.rangeLeft b r = w.rangeLeft b r := by
  unfold World.rangeLeft
  rw [h1, h2]
theorem ItAt.lt (h : ItAt w c b r W V) : b < w.heap.size ∧ r < w.heap.size ∧ b ≠ r := by
  obtain ⟨es, clock, since, seen, c0, g1, g2, g3, g4, g5⟩ := h
  exact ⟨(Array.getElem?_eq_some_iff.1 g1).1, (Array.getElem?_eq_some_iff.1 g4).1, fun q => by rw [q, g4] at g1; cases g1⟩
theorem MapAt.range (h : MapAt w c (some b) W) (V : List Ent) : ∃ w1, (Instr.range 57 (.map (some b))).run Try.prog w = .ok (.pointer (some ⟨w.heap.size, 0, none⟩)) w1 ∧ ItAt w1 c b w.heap.size W V ∧ Below w.heap.size w w1 := by
  obtain ⟨es, clock, hb, hs, hp⟩ := h
  have hlt : b < w.heap.size := (Array.getElem?_eq_some_iff.1 hb).1
  refine ⟨_, run_range_map w _ _ _ b es clock map_type hb, ⟨es, clock, clock, #[], clock, (heap_alloc_old w _ hlt).trans hb, hs, hp, heap_alloc_new w _, hs.1, Nat.le_refl _, Nat.le_refl _, fun x _ q => ?_⟩, (Below.refl _ w).alloc (Nat.le_refl _) _⟩
  simp at q
/-- The step. -/
theorem ItAt.next (h : ItAt w c b r W V) (ty : TypeId) :
    ((Instr.next (.pointer (some ⟨r, 0, none⟩)) false ty).run Try.prog w = .ok (.tuple #[.bool false]) w ∧ ∀ e ∈ W, e ∈ V) ∨
    ∃ e ∈ W, ∃ w', (Instr.next (.pointer (some ⟨r, 0, none⟩)) false ty).run Try.prog w = .ok (.tuple #[.bool true, nmV c e.id, wtV e]) w' ∧ (Instr.entry (.pointer (some ⟨r, 0, none⟩))).run Try.prog w' = .ok (.tuple #[nmV c e.id, wtV e]) w' ∧
      w'.rangeLeft b r < w.rangeLeft b r ∧ (e ∈ V → ItAt w' c b r W V) ∧ Turns (fun i => i = r) w w' := by
  have hne := h.lt.2.2
  obtain ⟨es, clock, since, seen, c0, hb, hs, hp, hr, hold, hsc, hsk, hdone⟩ := h
  rcases run_next_at (P := Try.prog) w ty r b since c0 seen es clock hr hb hold hsc with ⟨h0, hrun⟩ | ⟨x, hx, w1, hal, hrun⟩
  · refine .inl ⟨hrun, fun e he => ?_⟩
    obtain ⟨i, hi⟩ := List.mem_iff_getElem?.1 he
    obtain ⟨x, hx, hk, hv⟩ := entries_back hp hi
    obtain ⟨e', he', hk', hv'⟩ := hdone x (List.mem_of_getElem? hx) (all_seen es seen h0 x (List.mem_of_getElem? hx))
    rw [ent_eq (hk.symm.trans hk') (hv.symm.trans hv')]
    exact he'
  · obtain ⟨hem, hes⟩ := mem_left hx
    obtain ⟨i, hi⟩ := List.mem_iff_getElem?.1 hem
    obtain ⟨e, he, hk, hv⟩ := entries_at hp hi
    have hr1 : w1.heap[r]? = some (.mapIter (some b) since seen c0) := by rcases hal with rfl | rfl <;> exact hr
    have hb1 : w1.heap[b]? = some (.map es clock) := by rcases hal with rfl | rfl <;> exact hb
    have hset := MapKept.heap_set (o' := .mapIter (some b) since (seen.push x.born) clock) hr1
    have hb' : (setBlock w1 r (.mapIter (some b) since (seen.push x.born) clock)).heap[b]? = some (.map es clock) := (hset.2 b hne).trans hb1
    have hr' : (setBlock w1 r (.mapIter (some b) since (seen.push x.born) clock)).heap[r]? = some (.mapIter (some b) since (seen.push x.born) clock) := hset.1
    refine .inr ⟨e, List.mem_of_getElem? he, setBlock w1 r (.mapIter (some b) since (seen.push x.born) clock), by rw [← hk, ← hv]; exact hrun, by rw [← hk, ← hv]; exact run_entry_at _ r b since seen es clock x hr' hb' hem hs.2.1, ?_, fun hV => ?_, ?_⟩
    · unfold World.rangeLeft
      rw [hb', hr', hb, hr]
      exact left_shrinks es seen x hx
    · refine ⟨es, clock, since, seen.push x.born, clock, hb', hs, hp, hr', hold, hsk, hsk, fun y hy q => ?_⟩
      rw [contains_push, Bool.or_eq_true] at q
      rcases q with q | q
      · exact hdone y hy q
      · have hbn : y.born = x.born := by simpa using q
        have hyx : y = x := by
          obtain ⟨a, ha, hya⟩ := List.getElem_of_mem hy
          obtain ⟨a2, ha2, hxa⟩ := List.getElem_of_mem hem
          have hnd := List.pairwise_iff_getElem.1 hs.2.1
          rcases Nat.lt_trichotomy a a2 with hl | hl | hl
          · have := hnd a a2 (by simpa using ha) (by simpa using ha2) hl
            simp [hya, hxa, hbn] at this
          · subst hl
            rw [← hya, ← hxa]
          · have := hnd a2 a (by simpa using ha2) (by simpa using ha) hl
            simp [hya, hxa, hbn] at this
        exact ⟨e, hV, by rw [hyx]; exact hk, by rw [hyx]; exact hv⟩
    · have hoth : ∀ i, i ≠ r → (setBlock w1 r (.mapIter (some b) since (seen.push x.born) clock)).heap[i]? = w.heap[i]? := fun i hi => (hset.2 i hi).trans (by rcases hal with rfl | rfl <;> rfl)
      rcases hal with rfl | rfl <;> exact ⟨rfl, rfl, rfl, by simp [setBlock], fun i _ hn => hoth i hn⟩
end
end Go.Proofs.Ytfhpodeppmnopaa
