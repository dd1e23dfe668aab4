/-
  Two books and two boxes side by side. Conditions: none.
-/
import Derived.Test.YtfhpodeppmnopaaFeLawC
import Derived.Test.YtfhpodeppmnopaaFeSame
namespace Go.Proofs.Ytfhpodeppmnopaa
open Go.RowKit

theorem cnt_no_map {w : World} {g c : Nat} {m : Option Nat} {A : Nat → Int} {I : Nat → Nat → Int} {W : List Ent} (h : CntAt w g m A I) (hm : MapAt w c (some g) W) : False := by
  obtain ⟨us, hu, _⟩ := h
  obtain ⟨es, clock, hb, _⟩ := hm
  have hu' : w.heap[g]? = some (.cells us.toArray 59 (0, 0)) := hu
  rw [hu'] at hb
  cases hb
structure TwoAt (w wr : World) (g1 : Nat) (m1 : Option Nat) (S1 : Bs) (B1 : Nat) (us1 : List Value) (g2 : Nat) (m2 : Option Nat) (S2 : Bs) (B2 : Nat) (us2 : List Value) : Prop where
  a : CoAt w wr g1 m1 S1 B1 us1
  b : CoAt w wr g2 m2 S2 B2 us2
  ne : g1 ≠ g2
  nm : ∀ x, m1 = some x → m2 ≠ some x
  nB : B1 ≠ B2
section
variable {w wr w2 : World} {g1 : Nat} {m1 m1' : Option Nat} {S1 S1' : Bs} {B1 : Nat} {us1 us1' : List Value} {g2 : Nat} {m2 : Option Nat} {S2 : Bs} {B2 : Nat} {us2 : List Value}
theorem TwoAt.swap (h : TwoAt w wr g1 m1 S1 B1 us1 g2 m2 S2 B2 us2) : TwoAt w wr g2 m2 S2 B2 us2 g1 m1 S1 B1 us1 := ⟨h.b, h.a, fun q => h.ne q.symm, fun x p q => h.nm x q p, fun q => h.nB q.symm⟩
theorem TwoAt.drew (h : TwoAt w wr g1 m1 S1 B1 us1 g2 m2 S2 B2 us2) : TwoAt w wr.drew g1 m1 S1 B1 us1 g2 m2 S2 B2 us2 := ⟨h.a.drew, h.b.drew, h.ne, h.nm, h.nB⟩
theorem TwoAt.below (h : TwoAt w wr g1 m1 S1 B1 us1 g2 m2 S2 B2 us2) (hb : Below wr.heap.size wr w2) : TwoAt w w2 g1 m1 S1 B1 us1 g2 m2 S2 B2 us2 := ⟨h.a.below hb, h.b.below hb, h.ne, h.nm, h.nB⟩
/-- An act done to the first. -/
theorem TwoAt.done (h : TwoAt w wr g1 m1 S1 B1 us1 g2 m2 S2 B2 us2) (ho : Owned w w2 7 g1 m1' S1') (hr : RefV w2 7 us1' S1') (ht : Turns (fun i => i = g1 ∨ m1 = some i) wr w2) (hf : m1' = m1 ∨ ∀ b, m1' = some b → wr.heap.size ≤ b) :
    VRow w2 B1 30 us1 ∧ TwoAt w (w2.setRow B1 us1'.toArray) g1 m1' S1' B1 us1' g2 m2 S2 B2 us2 := by
  obtain ⟨q1, c1⟩ := h.a.done ho hr ht
  have e1 : ¬ (g2 = g1 ∨ m1 = some g2) := by
    rintro (q | q)
    · exact h.ne q.symm
    · have hm := h.a.own.1.2
      rw [q] at hm
      exact cnt_no_map h.b.own.1.1 hm
  have e2 : ∀ x, m2 = some x → ¬ (x = g1 ∨ m1 = some x) := by
    rintro x hx (q | q)
    · have hm := h.b.own.1.2
      rw [hx, q] at hm
      exact cnt_no_map h.a.own.1.1 hm
    · exact h.nm x q hx
  have k2 : BookAt w2 7 g2 m2 S2 := h.b.own.1.turns ht e1 e2
  have t : Turns (fun i => i = B1) w2 (w2.setRow B1 us1'.toArray) := Turns.setRow (S := fun i => i = B1) (Turns.refl _ w2) (fun _ => rfl) _
  have a2 := q1.apart (by decide) k2
  have r2 : RefV w2 7 us2 S2 := by
    obtain ⟨hcnt, sl, hsl, hws⟩ := h.b.ref
    exact ⟨hcnt, sl, hsl, hws.turns ht (hws.apart h.a.own.1)⟩
  have q2 : VRow w2 B2 30 us2 := h.b.r5.turns ht (h.b.r5.apart (by decide) h.a.own.1)
  refine ⟨q1, c1, ⟨⟨k2.turns t (fun q => a2 (.inl q.symm)) (fun b hb q => a2 (.inr (by rw [hb, q]))), c1.own.2.1, h.b.own.2.2⟩, BlkAt.turned r2 q1 t, q2.turns t (fun q => h.nB q.symm), h.b.ge5⟩, h.ne, fun x hx q => ?_, h.nB⟩
  rcases hf with rfl | hf
  · exact h.nm x hx q
  · have h1 := hf x hx
    have h2 := h.b.own.1.2.lt q
    omega
end

/-- Both references' counts and waits, compared. -/
theorem sameW_iff {W1 W2 : List Ent} : SameW W1 W2 ↔ W1.length = W2.length ∧ ∀ (i : Nat) (e : Ent), W1[i]? = some e → ∃ (j : Nat) (e' : Ent), W2[j]? = some e' ∧ e = e' := by
  constructor
  · intro h
    refine ⟨h.1, fun i e hi => ?_⟩
    obtain ⟨j, hj⟩ := List.mem_iff_getElem?.1 (h.2 e (List.mem_of_getElem? hi))
    exact ⟨j, e, hj, rfl⟩
  · intro h
    refine ⟨h.1, fun e he => ?_⟩
    obtain ⟨i, hi⟩ := List.mem_iff_getElem?.1 he
    obtain ⟨j, e', hj, q⟩ := h.2 i e hi
    rw [q]
    exact List.mem_of_getElem? hj
theorem sameB_self (S : Bs) : SameB S S := by
  refine ⟨?_, rfl, fun e he => he⟩
  unfold cntSame
  simp
end Go.Proofs.Ytfhpodeppmnopaa
