/-
  text.FromHex, and the reference's. Conditions: sizes within the reach.
-/
import Derived.Test.YtpaafkhlelljcaaDoorVal
namespace Go.Proofs.YtpaafkhlelljcaaDoor
open Go.RowKit

def pairB (cs : List UInt8) (k : Nat) : UInt8 := b8 (16 * valB (cs.getD (2 * k) 0) + valB (cs.getD (2 * k + 1) 0))
def outL (cs : List UInt8) (n : Nat) : List UInt8 := (List.range n).map (pairB cs)
def GoodHex (cs : List UInt8) : Prop := cs.length % 2 = 0 ∧ ∀ c ∈ cs, 0 ≤ valB c
theorem outL_length (cs : List UInt8) (n : Nat) : (outL cs n).length = n := by simp [outL]
theorem outL_succ (cs : List UInt8) (n : Nat) : outL cs (n + 1) = outL cs n ++ [pairB cs n] := by simp [outL, List.range_succ]
theorem outL_take (cs : List UInt8) {k n : Nat} (h : k ≤ n) : (outL cs n).take k = outL cs k := by
  unfold outL
  rw [← List.map_take, List.take_range, Nat.min_eq_left h]
theorem outL_at (cs : List UInt8) {k n : Nat} (h : k < n) : (outL cs n)[k]? = some (pairB cs k) := by
  unfold outL
  rw [List.getElem?_map, List.getElem?_range h]
  rfl

/-- What the reference's FromHex answers. -/
def RefFromPost (w : World) (cs : List UInt8) (e : Ending) (w' : World) : Prop :=
  Below w.heap.size w w' ∧ (GoodHex cs ∧ (∃ v, e = .returned (.tuple #[v, .bool true]) ∧ w'.ownsRow w.heap.size 5 1 v (outL cs (cs.length / 2)).length ((outL cs (cs.length / 2)).map bv)) ∨
    ¬ GoodHex cs ∧ e = .returned (.tuple #[.slice none 0 0, .bool false]))

end Go.Proofs.YtpaafkhlelljcaaDoor
