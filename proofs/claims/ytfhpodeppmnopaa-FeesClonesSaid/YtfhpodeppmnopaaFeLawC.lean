/-
  FeesCounts returns true. Conditions: the acts are data.
-/
import Derived.Test.YtfhpodeppmnopaaFeLawE
import Derived.Test.YtfhpodeppmnopaaFeIs
namespace Go.Proofs.Ytfhpodeppmnopaa
open Go.RowKit

/-- What playing keeps. -/
structure CoAt (w wr : World) (g : Nat) (m : Option Nat) (S : Bs) (G5 : Nat) (us : List Value) : Prop where
  own : Owned w wr 7 g m S
  ref : RefV wr 7 us S
  r5 : VRow wr G5 30 us
  ge5 : w.heap.size ≤ G5
theorem CoAt.drew {w wr : World} {g : Nat} {m : Option Nat} {S : Bs} {G5 : Nat} {us : List Value} (h : CoAt w wr g m S G5 us) : CoAt w wr.drew g m S G5 us := ⟨h.own.drew, h.ref.drew, h.r5, h.ge5⟩
theorem CoAt.below {w wr w2 : World} {g : Nat} {m : Option Nat} {S : Bs} {G5 : Nat} {us : List Value} (h : CoAt w wr g m S G5 us) (hb : Below wr.heap.size wr w2) : CoAt w w2 g m S G5 us := ⟨h.own.below hb, h.ref.below hb, h.r5.below hb h.r5.lt, h.ge5⟩
/-- An act done, and the box written. -/
theorem CoAt.done {w wr w2 : World} {g : Nat} {m m' : Option Nat} {S S' : Bs} {G5 : Nat} {us us' : List Value} (h : CoAt w wr g m S G5 us) (ho : Owned w w2 7 g m' S') (hr : RefV w2 7 us' S') (ht : Turns (fun i => i = g ∨ m = some i) wr w2) :
    VRow w2 G5 30 us ∧ CoAt w (w2.setRow G5 us'.toArray) g m' S' G5 us' := by
  have q5 : VRow w2 G5 30 us := h.r5.turns ht (h.r5.apart (by decide) h.own.1)
  have t : Turns (fun i => i = G5) w2 (w2.setRow G5 us'.toArray) := Turns.setRow (S := fun i => i = G5) (Turns.refl _ w2) (fun _ => rfl) _
  have ha := q5.apart (by decide) ho.1
  exact ⟨q5, ⟨ho.1.turns t (fun q => ha (.inl q.symm)) (fun b hb q => ha (.inr (by rw [hb, q]))), below_setRow ho.2.1 h.ge5 _, ho.2.2⟩, BlkAt.turned hr q5 t, q5.setRow us', h.ge5⟩
def CoRel (w wr : World) (g G5 : Nat) (al : List AcP) (s : Value) : Prop := ∃ (i : Nat) (m : Option Nat) (us : List Value), i ≤ al.length ∧ i ≤ 60 ∧ s = .int .i64 (i : Int) ∧ CoAt w wr g m ((al.take i).foldl actF bs0) G5 us

end Go.Proofs.Ytfhpodeppmnopaa
