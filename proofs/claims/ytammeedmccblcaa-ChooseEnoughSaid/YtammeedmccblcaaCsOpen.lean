/-
  From an argument that can be read as data to coins in memory, and to a task's cells. Conditions: none.
-/
import Derived.Test.YtammeedmccblcaaCsLawF
import Derived.Test.YtammeedmccblcaaRows
import Derived.ChangeSame
import Derived.JoinedOf
import Derived.JoinedAt
import Derived.Deep.Slices
import Derived.Deep.Fields
import Derived.ProofKit
import Derived.OpenShut
import Derived.ChangeOld
namespace Go.Proofs.Ytammeedmccblcaa.Cs
open Go.ChangeShapes Go.WideShapes Go.ChangeAt Go.RowKit Go.Deep

theorem add_at (b o i : Nat) : (⟨b, o, none⟩ : Addr).add i = ⟨b, o + i, none⟩ := by unfold Addr.add; split <;> simp_all
theorem spot_none {w : World} {a : Addr} {v : Value} (h : w.cell? a = some v) : a = ⟨a.block, a.off, none⟩ := by
  have := World.cell?_spot h
  cases a
  simp_all
theorem two_of : ∀ (cs : List Value), cs.length = 2 → ∃ a b, cs = [a, b]
  | [a, b], _ => ⟨a, b, rfl⟩
theorem five_of : ∀ (cs : List Value), cs.length = 5 → ∃ a b c d e, cs = [a, b, c, d, e]
  | [a, b, c, d, e], _ => ⟨a, b, c, d, e, rfl⟩
theorem own : ownKnob Try.prog.godebug = none := by kernel_rfl
theorem laidOut : laidOutB Try.prog = true := by kernel_rfl

section
variable {H : Type} {enc : TypeId × Value → H} {w : World} {held : Bool} {fuel : Nat} {x : DataW H × List MemPlace}
def Co (c : Int × Int) : Prop := -9223372036854775808 ≤ c.1 ∧ c.1 ≤ 9223372036854775807 ∧ -9223372036854775808 ≤ c.2 ∧ c.2 ≤ 9223372036854775807
/-- A coin's cells. -/
theorem coin_open {cs : List Value} (h : DataW.trod enc Try.prog w 0 (fun _ => true) held fuel 37 cs = some x) : ∃ c : Int × Int, cs = crC c ∧ Co c := by
  obtain ⟨ys, n, _, rfl, hcl, hyl, hf⟩ := DataW.trod_struct Try.underlying37 h
  have hc : cs.length = 2 := hcl.trans (by kernel_rfl)
  have hy2 : ys.length = 2 := hyl
  obtain ⟨a, b, rfl⟩ := two_of cs hc
  have f0 : DataW.trod enc Try.prog w 0 (fun _ => true) held n 2 (List.take (Try.prog.cellsOf 2) (List.drop 0 [a, b])) = ys[0]? := hf 0 _ rfl
  have f1 : DataW.trod enc Try.prog w 0 (fun _ => true) held n 3 (List.take (Try.prog.cellsOf 3) (List.drop 1 [a, b])) = ys[1]? := hf 1 _ rfl
  rw [show Try.prog.cellsOf 2 = 1 by kernel_rfl, List.getElem?_eq_getElem (by omega)] at f0
  rw [show Try.prog.cellsOf 3 = 1 by kernel_rfl, List.getElem?_eq_getElem (by omega)] at f1
  obtain ⟨k0, e0, _, w0⟩ := DataW.trod_int Try.underlying2 f0
  obtain ⟨k1, e1, _, w1⟩ := DataW.trod_int Try.underlying3 f1
  simp at e0 e1
  subst e0 e1
  have w0' := bounds_i64 w0
  have w1' := bounds_i64 w1
  exact ⟨(k0, k1), rfl, w0'.1, by have := w0'.2; show k0 ≤ 9223372036854775807; omega, w1'.1, by have := w1'.2; show k1 ≤ 9223372036854775807; omega⟩
/-- A task's cells. -/
theorem task_open {cs : List Value} (h : DataW.trod enc Try.prog w 0 (fun _ => true) held fuel 25 cs = some x) :
    ∃ need extra rate tries seed : Int, cs = tkC need extra rate tries seed ∧ need ≤ 9223372036854775807 := by
  obtain ⟨ys, n, _, rfl, hcl, hyl, hf⟩ := DataW.trod_struct Try.underlying25 h
  have hc : cs.length = 5 := hcl.trans (by kernel_rfl)
  have hy2 : ys.length = 5 := hyl
  obtain ⟨a, b, c, d, e, rfl⟩ := five_of cs hc
  have f0 : DataW.trod enc Try.prog w 0 (fun _ => true) held n 2 (List.take (Try.prog.cellsOf 2) (List.drop 0 [a, b, c, d, e])) = ys[0]? := hf 0 _ rfl
  have f1 : DataW.trod enc Try.prog w 0 (fun _ => true) held n 2 (List.take (Try.prog.cellsOf 2) (List.drop 1 [a, b, c, d, e])) = ys[1]? := hf 1 _ rfl
  have f2 : DataW.trod enc Try.prog w 0 (fun _ => true) held n 2 (List.take (Try.prog.cellsOf 2) (List.drop 2 [a, b, c, d, e])) = ys[2]? := hf 2 _ rfl
  have f3 : DataW.trod enc Try.prog w 0 (fun _ => true) held n 3 (List.take (Try.prog.cellsOf 3) (List.drop 3 [a, b, c, d, e])) = ys[3]? := hf 3 _ rfl
  have f4 : DataW.trod enc Try.prog w 0 (fun _ => true) held n 23 (List.take (Try.prog.cellsOf 23) (List.drop 4 [a, b, c, d, e])) = ys[4]? := hf 4 _ rfl
  rw [show Try.prog.cellsOf 2 = 1 by kernel_rfl, List.getElem?_eq_getElem (by omega)] at f0 f1 f2
  rw [show Try.prog.cellsOf 3 = 1 by kernel_rfl, List.getElem?_eq_getElem (by omega)] at f3
  rw [show Try.prog.cellsOf 23 = 1 by kernel_rfl, List.getElem?_eq_getElem (by omega)] at f4
  obtain ⟨k0, e0, _, w0⟩ := DataW.trod_int Try.underlying2 f0
  obtain ⟨k1, e1, _, _⟩ := DataW.trod_int Try.underlying2 f1
  obtain ⟨k2, e2, _, _⟩ := DataW.trod_int Try.underlying2 f2
  obtain ⟨k3, e3, _, _⟩ := DataW.trod_int Try.underlying3 f3
  obtain ⟨k4, e4, _, _⟩ := DataW.trod_int Try.underlying23 f4
  simp at e0 e1 e2 e3 e4
  subst e0 e1 e2 e3 e4
  have w0' := bounds_i64 w0
  exact ⟨k0, k1, k2, k3, k4, rfl, by have := w0'.2; omega⟩
/-- A slice of rows that came in. -/
theorem rows_open {α : Type} [Inhabited α] (f : α → List Value) (Ok : α → Prop) (k : Nat) (hk : 0 < k) {t e : TypeId} (ht : Try.prog.underlying t = some (.slice e)) (ce : Try.prog.cellsOf e = k)
    (hone : ∀ {n : Nat} {cs : List Value} {x : DataW H × List MemPlace}, DataW.trod enc Try.prog w 0 (fun _ => true) held n e cs = some x → ∃ y, cs = f y ∧ Ok y)
    (hlen : ∀ y, Ok y → (f y).length = k) {v : Value} (h : DataW.trod enc Try.prog w 0 (fun _ => true) held fuel t [v] = some x) :
    ∃ X : List α, RowR w w.heap.size v X.length (X.flatMap f) ∧ (∀ y ∈ X, Ok y) := by
  rcases open_slice ht h with ⟨hcs, _⟩ | ⟨a, len, cap, m, n, D, Pl, hcs, _, hl, hm, hmm, rfl, hel⟩
  · simp only [List.cons.injEq, and_true] at hcs
    subst hcs
    exact ⟨[], RowR.nil _ _, (fun _ h => by cases h)⟩
  · simp only [List.cons.injEq, and_true] at hcs
    subst hcs
    have hlm : len ≤ m := by rw [hmm]; split <;> omega
    rw [ce] at hel
    obtain ⟨g, hg⟩ := choose_lt (α := α) (p := fun i y => Ok y ∧ ∀ j u, (f y)[j]? = some u → w.cell? ((a.add (i * k)).add j) = some u) (n := len) (fun i hi => by
      obtain ⟨cs', hc, htr⟩ := hel i (by omega)
      obtain ⟨_, hcl, hat⟩ := World.cells?_some hc
      obtain ⟨y, rfl, hy⟩ := hone htr
      refine ⟨y, hy, fun j u hu => ?_⟩
      have hj := (List.getElem?_eq_some_iff.1 hu).1
      rw [hat j (by omega), ← hu])
    have hlen2 : ((List.range len).map g).length = len := by simp
    have hok : ∀ y ∈ (List.range len).map g, Ok y := fun y hy => by
      obtain ⟨i, hi, rfl⟩ := List.mem_map.1 hy
      exact (hg i (List.mem_range.1 hi)).1
    refine ⟨(List.range len).map g, ⟨some a, cap, by rw [hlen2], by rw [hlen2]; exact hl, hm, fun hne => ?_⟩, hok⟩
    rw [hlen2] at hne
    have hpos : 0 < len := Nat.pos_of_ne_zero hne
    have hl0 := hlen _ (hg 0 hpos).1
    have h0 := (hg 0 hpos).2 0 _ (List.getElem?_eq_getElem (by omega))
    have hz : (a.add (0 * k)).add 0 = a := by rw [Nat.zero_mul]; unfold Addr.add; simp
    rw [hz] at h0
    have hsp := spot_none h0
    have hadd : ∀ i, a.add i = ⟨a.block, a.off + i, none⟩ := fun i => (congrArg (fun q : Addr => q.add i) hsp).trans (add_at _ _ _)
    refine ⟨a.block, a.off, by rw [← hsp], World.block_lt_of_cell? _ _ h0, fun j u hu => ?_⟩
    obtain ⟨i, y, r, hi, hr, rfl⟩ := flat_of f k _ (fun y hy => hlen y (hok y hy)) j u hu
    have hi' : i < len := by have := (List.getElem?_eq_some_iff.1 hi).1; omega
    have he : y = g i := by
      rw [List.getElem?_map, List.getElem?_range hi'] at hi
      exact (Option.some.inj hi).symm
    subst he
    have hc := (hg i hi').2 r u hr
    rw [hadd, add_at, Nat.add_assoc] at hc
    exact hc
theorem coins_open {v : Value} (h : DataW.trod enc Try.prog w 0 (fun _ => true) held fuel 22 [v] = some x) : ∃ X, CrR w w.heap.size v X ∧ CoinsOk X :=
  rows_open crC Co 2 (by decide) Try.underlying22 (by kernel_rfl) (fun h => coin_open h) (fun y _ => rfl) h
end
end Go.Proofs.Ytammeedmccblcaa.Cs
