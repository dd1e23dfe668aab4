/-
  The law StrongboxWaited: what is told was waited for. Conditions: the arguments are data.
-/
import Derived.Test.YtfhpodeppmnopaaFeName
import Derived.Test.YtfhpodeppmnopaaFeSum
import Derived.Test.YtfhpodeppmnopaaInts
namespace Go.Proofs.Ytfhpodeppmnopaa
open Go.RowKit

/-- A book of the call's own. -/
def Owned (w w' : World) (c g : Nat) (m : Option Nat) (S : Bs) : Prop := BookAt w' c g m S ∧ Below w.heap.size w w' ∧ w.heap.size ≤ g ∧ ∀ b, m = some b → w.heap.size ≤ b
theorem below_turns {P : Nat → Prop} {a b c : World} (h : Below a.heap.size a b) (ht : Turns P b c) (hP : ∀ i, P i → a.heap.size ≤ i) : Below a.heap.size a c :=
  ⟨ht.os.trans h.os, ht.tape.trans h.tape, ht.output.trans h.output, Nat.le_trans h.size ht.size, fun k hk => (ht.block k (Nat.lt_of_lt_of_le hk h.size) (fun q => by have := hP k q; omega)).trans (h.block k hk)⟩
theorem Owned.drew {w w' : World} {c g : Nat} {m : Option Nat} {S : Bs} (h : Owned w w' c g m S) : Owned w w'.drew c g m S := ⟨h.1.drew, h.2.1.drew, h.2.2⟩
theorem Owned.below {w w' w'' : World} {c g : Nat} {m : Option Nat} {S : Bs} (h : Owned w w' c g m S) (hb : Below w'.heap.size w' w'') : Owned w w'' c g m S := ⟨h.1.below hb, h.2.1.trans (hb.mono h.2.1.size), h.2.2⟩
/-- Behind Enter. -/
theorem Owned.entered {w w1 w2 : World} {c g : Nat} {m : Option Nat} {S S' : Bs} (h : Owned w w1 c g m S) (he : Entered w1 w2 c g m S') : ∃ m', Owned w w2 c g m' S' := by
  obtain ⟨m', hb, ht, hm⟩ := he
  refine ⟨m', hb, below_turns h.2.1 ht (fun i hi => ?_), h.2.2.1, fun b hb => ?_⟩
  · rcases hi with rfl | hi
    · exact h.2.2.1
    · exact h.2.2.2 i hi
  · rcases hm with rfl | ⟨_, b', hb', hl⟩
    · exact h.2.2.2 b hb
    · rw [hb'] at hb
      injection hb with hb
      have := h.2.1.size
      omega
theorem irow_not_book {w : World} {G g : Nat} {t : TypeId} {k : IntKind} {xs : List Int} {m : Option Nat} {A : Nat → Int} {I : Nat → Nat → Int} (h : IRow w G t k xs) (ht : t ≠ 59) (hc : CntAt w g m A I) : G ≠ g := by
  rintro rfl
  obtain ⟨us, hu, _⟩ := hc
  have h1 : w.heap[G]? = _ := hu
  have h2 : w.heap[G]? = _ := h
  rw [h1] at h2
  injection h2 with h2
  injection h2 with _ h2
  exact ht h2.symm
/-- Behind Block. -/
theorem Owned.turned {w w1 w2 : World} {c g : Nat} {m : Option Nat} {S S' : Bs} (h : Owned w w1 c g m S) (hb : BookAt w2 c g m S') (ht : Turns (fun i => i = g ∨ m = some i) w1 w2) : Owned w w2 c g m S' := by
  refine ⟨hb, below_turns h.2.1 ht (fun i hi => ?_), h.2.2⟩
  rcases hi with rfl | hi
  · exact h.2.2.1
  · exact h.2.2.2 i hi

theorem wrap_small {x : Int} (h0 : -9223372036854775808 ≤ x) (h1 : x ≤ 9223372036854775807) : wrap64 x = x := by unfold wrap64; omega
/-- The lowest rate of a bucket. -/
def lowL (k : Nat) : Int := ((1000 * 2 ^ k : Nat) : Int)
theorem lowL_next (k : Nat) : lowL k * 2 = lowL (k + 1) := by unfold lowL; rw [Nat.pow_succ]; omega
theorem lowL_bound {k : Nat} (hk : k < 24) : 0 ≤ lowL k ∧ lowL k * 2 ≤ 1000000000000 := by
  have hp2 : 2 ^ k ≤ 2 ^ 23 := Nat.pow_le_pow_right (by omega) (by omega)
  unfold lowL
  omega
theorem lowL_wrap {k : Nat} (hk : k < 24) : wrap64 (lowL k * 2) = lowL k * 2 := by
  have hp2 : 2 ^ k ≤ 2 ^ 23 := Nat.pow_le_pow_right (by omega) (by omega)
  unfold lowL wrap64
  omega
/-- The sums behind k rounds. -/
def SumAt (S : Bs) (mm s : Nat) (a b l kk : Value) : Prop := ∃ k : Nat, k ≤ 24 ∧ a = .int .i64 (upf S.A mm k) ∧ b = .int .i64 (upf (fun k => S.I k s) mm k) ∧ l = .int .i64 (lowL k) ∧ kk = .int .i64 (k : Int)
theorem meas_plus {n i : Nat} (hi : i < n) : n - (intOf (.int .i64 ((i : Int) + 1))).toNat < n - (intOf (.int .i64 (i : Int))).toNat := by
  simp [intOf]
  omega

end Go.Proofs.Ytfhpodeppmnopaa
