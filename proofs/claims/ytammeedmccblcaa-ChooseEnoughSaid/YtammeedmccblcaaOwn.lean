/-
  A row of bytes of the call's own: what may be read, and what a store changes. Conditions: none.
-/
import Derived.Test.YtammeedmccblcaaOp
namespace Go.Proofs.Ytammeedmccblcaa
open Go.RowKit

/-- The slice value v owns these bytes, in a block from base on. -/
def OwnB (w : World) (base : Nat) (v : Value) (ys : List UInt8) : Prop := w.ownsRow base 5 1 v ys.length (ys.map bv)
theorem OwnB.nil (w : World) (base : Nat) : OwnB w base (.slice none 0 0) [] := World.ownsRow_nil _ _ _ _
theorem OwnB.form {w : World} {base : Nat} {v : Value} {ys : List UInt8} (h : OwnB w base v ys) : ∃ A c, v = .slice A ys.length c := own_form h
theorem OwnB.block {w : World} {base : Nat} {v : Value} {ys : List UInt8} (h : OwnB w base v ys) (hn : 0 < ys.length) : ∃ g c, v = .slice (some ⟨g, 0, none⟩) ys.length c ∧ base ≤ g ∧ g < w.heap.size ∧ ys.length ≤ c := by
  rcases h.2 with ⟨_, h0⟩ | ⟨g, cap, cur, rfl, hb, hg, hnc, _⟩
  · omega
  · exact ⟨g, cap, rfl, hb, (Array.getElem?_eq_some_iff.1 hg).1, hnc⟩
theorem OwnB.cell {w : World} {base g n c k : Nat} {q : UInt8} {ys : List UInt8} (h : OwnB w base (.slice (some ⟨g, 0, none⟩) n c) ys) (hk : ys[k]? = some q) : w.cell? ⟨g, k, none⟩ = some (bv q) := by
  have h1 := World.ownsRow.cells (g := g) h rfl k (bv q) (by rw [List.getElem?_map, hk]; rfl)
  have hadd : (⟨g, 0, none⟩ : Addr).add k = ⟨g, 0 + k, none⟩ := by unfold Addr.add; split <;> simp_all
  rw [hadd, Nat.zero_add] at h1
  exact h1
theorem OwnB.free {w : World} {base g n c : Nat} {ys : List UInt8} (h : OwnB w base (.slice (some ⟨g, 0, none⟩) n c) ys) (k : Nat) : w.frozen? ⟨g, k, none⟩ = false := by
  rcases h.2 with ⟨e, _⟩ | ⟨g', cap, cur, e, _, hg, _⟩
  · cases e
  · injection e with e1 _ _
    injection e1 with e1
    injection e1 with e1
    subst e1
    simp [World.frozen?, hg]
theorem OwnB.set {w : World} {base g n c : Nat} {ys : List UInt8} (h : OwnB w base (.slice (some ⟨g, 0, none⟩) n c) ys) (k : Nat) (q : UInt8) : OwnB (w.setCell ⟨g, k, none⟩ (bv q)) base (.slice (some ⟨g, 0, none⟩) n c) (ys.set k q) := by
  unfold OwnB at h ⊢
  rw [List.length_set]
  refine ⟨by simp, ?_⟩
  rcases h.2 with ⟨e, _⟩ | ⟨g', cap, cur, e, hb, hg, hnc, hcm, hcs, ht⟩
  · cases e
  · have e' := e
    injection e' with e1 _ _
    injection e1 with e1
    injection e1 with e1
    subst e1
    refine .inr ⟨g, cap, cur.setIfInBounds k (bv q), e, hb, ?_, hnc, hcm, by simpa using hcs, ?_⟩
    · simp [World.setCell, Array.getElem?_modify, hg]
    · rw [Array.toList_setIfInBounds, List.map_set, ← ht]
      exact List.take_set
theorem OwnB.byt {w : World} {base : Nat} {v : Value} {ys : List UInt8} (h : OwnB w base v ys) : Byt w w.heap.size v ys := Byt.of_own h
end Go.Proofs.Ytammeedmccblcaa
