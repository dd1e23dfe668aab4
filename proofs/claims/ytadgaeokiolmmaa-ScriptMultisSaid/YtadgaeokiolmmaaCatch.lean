/-
  What the reader's steps that fail leave: the deferred function, and the one generic function that every reading goes through. Conditions: sizes within the reach.
-/
import Derived.Test.YtadgaeokiolmmaaSize
import Derived.Defers
import Derived.Recover
import Derived.BigRegion
namespace Go.Proofs.Ytadgaeokiolmmaa
open Go.RowKit

def EndsAs (W : World → Prop) (e : Exit) (a : Act) (w' : World) : Prop := e = .normal ∧ a.defers = [] ∧ W w'

theorem tassert (x : Value) (w : World) : (Instr.typeAssert (.iface 121 x) 20 121 true).run Try.prog w = .ok (.tuple #[x, .bool true]) w := by kernel_rfl

/-- What the deferred function leaves behind a failure: the reader is where it was, and has the error. -/
def Caught (w : World) (r : Nat) (v : Value) (k : Int) (w' : World) : Prop :=
  w'.heap[r]? = some (.cells #[v, .int .i64 k] 103 (0, 0)) ∧ Turns (fun i => i = r) w w'

theorem caught_of {w : World} {r : Nat} {v v0 : Value} {k e0 : Int} {o : Obj} (h : w.heap[r]? = some (.cells #[v0, .int .i64 e0] 103 (0, 0))) :
    Caught w r v k (((w.alloc o).setCell ⟨r, 0, none⟩ v).setCell ⟨r, 1, none⟩ (.int .i64 k)).drew := by
  have hlt : r < w.heap.size := (Array.getElem?_eq_some_iff.1 h).1
  have h1 : (w.alloc o).heap[r]? = some (.cells #[v0, .int .i64 e0] 103 (0, 0)) := (Below.heap_alloc _ _ _ hlt).trans h
  refine ⟨?_, ((((Turns.refl (fun i => i = r) w).alloc o).setCell (p := ⟨r, 0, none⟩) (fun _ => rfl) v).setCell (p := ⟨r, 1, none⟩) (fun _ => rfl) _).drew⟩
  show (((w.alloc o).setCell ⟨r, 0, none⟩ v).setCell ⟨r, 1, none⟩ (.int .i64 k)).heap[r]? = _
  simp [World.setCell, Array.getElem?_modify, h1]

theorem idle_u8 (s rb : Addr) (w : World) :
    CallsD Try.prog 90 #[.pointer (some s), .pointer (some rb)] .returning w fun e u' w' => e = .returned (.tuple #[]) ∧ u' = .returning ∧ w = w' := by
  refine callsD_of_wpS Try.func90 rfl fun c₀ cs hu => ?_
  apply wpS_seq
  apply wpS_region
  simp [wpOpsS, go_sem, recoverD, hu, Try.ntmps90, Exit.thenS]
  apply wpS_seq
  apply wpS_region
  simp [wpOpsS, go_sem, Exit.thenS]
  refine wpS_cond (t := false) (by simp [Act.eval, Array.replicate]) ?_
  simp only [Bool.false_eq_true, if_false]
  refine wpS_of_wp (wp_skip ?_)
  cases c₀
  simp_all [bodyPostS, results, Try.results90]

set_option maxHeartbeats 800000 in
theorem catch_u8 (s rb r : Nat) (k : Int) (older : List PanicEntry) (w : World) (A : Option Addr) (sn sc : Nat) (v0 : Value) (e0 : Int)
    (h1 : w.cell? ⟨s, 0, none⟩ = some (.slice A sn sc)) (h2 : w.cell? ⟨rb, 0, none⟩ = some (.pointer (some ⟨r, 0, none⟩))) (h3 : w.heap[r]? = some (.cells #[v0, .int .i64 e0] 103 (0, 0))) (hsr : s ≠ r) (hbr : rb ≠ r) :
    CallsD Try.prog 90 #[.pointer (some ⟨s, 0, none⟩), .pointer (some ⟨rb, 0, none⟩)] (.panicking ({ v := .iface 121 (.agg #[.int .i64 k]), recovered := false } :: older)) w fun e u' w' =>
      e = .returned (.tuple #[]) ∧ u' = .panicking ({ v := .iface 121 (.agg #[.int .i64 k]), recovered := true } :: older) ∧ Caught w r (.slice A sn sc) k w' := by
  have hlt : r < w.heap.size := (Array.getElem?_eq_some_iff.1 h3).1
  have hA : ∀ o, (w.alloc o).heap[r]? = some (.cells #[v0, .int .i64 e0] 103 (0, 0)) := fun o => (Below.heap_alloc _ _ _ hlt).trans h3
  have hs1 : ∀ o, (w.alloc o).cell? ⟨s, 0, none⟩ = some (.slice A sn sc) := fun o => cell_later (Below.alloc (Below.refl _ _) (Nat.le_refl _) o) h1
  have hs2 : ∀ o, (w.alloc o).cell? ⟨rb, 0, none⟩ = some (.pointer (some ⟨r, 0, none⟩)) := fun o => cell_later (Below.alloc (Below.refl _ _) (Nat.le_refl _) o) h2
  have hs3 : ∀ o, (w.alloc o).cell? ⟨r, 0, none⟩ = some v0 := fun o => cell_of_row _ r 0 _ _ _ (hA o)
  have hs4 : ∀ o, (w.alloc o).cell? ⟨r, 1, none⟩ = some (.int .i64 e0) := fun o => cell_of_row _ r 1 _ _ _ (hA o)
  have hs5 : ∀ o j, (w.alloc o).frozen? ⟨r, j, none⟩ = false := fun o j => by simp [World.frozen?, hA o]
  have hq1 : ∀ o u j, ((w.alloc o).setCell ⟨r, j, none⟩ u).cell? ⟨s, 0, none⟩ = some (.slice A sn sc) := fun o u j => (World.cell?_setCell_other _ _ _ _ (by intro e; injection e with e; exact hsr e.symm)).trans (hs1 o)
  have hq2 : ∀ o u j, ((w.alloc o).setCell ⟨r, j, none⟩ u).cell? ⟨rb, 0, none⟩ = some (.pointer (some ⟨r, 0, none⟩)) := fun o u j => (World.cell?_setCell_other _ _ _ _ (by intro e; injection e with e; exact hbr e.symm)).trans (hs2 o)
  have hq3 : ∀ x u j, ((w.alloc (.cells #[x] 121)).setCell ⟨r, j, none⟩ u).cell? ⟨w.heap.size, 0, none⟩ = some x := fun x u j => (World.cell?_setCell_other _ _ _ _ (by intro e; injection e with e; omega)).trans (cell_of_row _ _ 0 _ _ _ (heap_alloc_new w _))
  have hq4 : ∀ o u, ((w.alloc o).setCell ⟨r, 0, none⟩ u).cell? ⟨r, 1, none⟩ = some (.int .i64 e0) := fun o u => (World.cell?_setCell_other _ _ _ _ (by intro e; injection e with e1 e2; cases e2)).trans (hs4 o)
  have hq5 : ∀ o u, ((w.alloc o).setCell ⟨r, 1, none⟩ u).cell? ⟨r, 0, none⟩ = some v0 := fun o u => (World.cell?_setCell_other _ _ _ _ (by intro e; injection e with e1 e2; cases e2)).trans (hs3 o)
  have hq6 : ∀ o u j i, ((w.alloc o).setCell ⟨r, j, none⟩ u).frozen? ⟨r, i, none⟩ = false := fun o u j i => (World.frozen?_setCell _ _ _ _).trans (hs5 o i)
  have H3 := Lib.hid h3
  clear hA h3 h1 h2 hlt
  have hta := tassert
  refine callsD_of_wpS Try.func90 rfl fun c₀ cs hu => ?_
  apply wpS_seq
  apply wpS_region
  simp [wpOpsS, go_sem, recoverD, hu, Try.ntmps90, Exit.thenS]
  apply wpS_seq
  apply wpS_region
  simp [wpOpsS, go_sem, Exit.thenS]
  refine wpS_cond (t := true) (by simp [Act.eval, Array.replicate]) ?_
  simp only [if_true]
  refine wpS_of_wp ?_
  refine Code.wp_mono (Q := EndsAs (Caught w r (.slice A sn sc) k)) ?_ ?_
  · rintro e a w' ⟨rfl, hd, hc⟩
    exact ⟨hd, _, rfl, _, by simp [results, Try.results90], rfl, rfl, hc⟩
  · simp only [Array.replicate_succ, Array.replicate_zero, List.push_toArray, List.append_toArray, List.nil_append, List.cons_append, List.setIfInBounds_toArray, List.set]
    go_wp2
    go_region
    exact ⟨rfl, rfl, caught_of H3.out⟩

theorem idle_u16 (s rb : Addr) (w : World) :
    CallsD Try.prog 99 #[.pointer (some s), .pointer (some rb)] .returning w fun e u' w' => e = .returned (.tuple #[]) ∧ u' = .returning ∧ w = w' := by
  refine callsD_of_wpS Try.func99 rfl fun c₀ cs hu => ?_
  apply wpS_seq
  apply wpS_region
  simp [wpOpsS, go_sem, recoverD, hu, Try.ntmps99, Exit.thenS]
  apply wpS_seq
  apply wpS_region
  simp [wpOpsS, go_sem, Exit.thenS]
  refine wpS_cond (t := false) (by simp [Act.eval, Array.replicate]) ?_
  simp only [Bool.false_eq_true, if_false]
  refine wpS_of_wp (wp_skip ?_)
  cases c₀
  simp_all [bodyPostS, results, Try.results99]

set_option maxHeartbeats 800000 in
theorem catch_u16 (s rb r : Nat) (k : Int) (older : List PanicEntry) (w : World) (A : Option Addr) (sn sc : Nat) (v0 : Value) (e0 : Int)
    (h1 : w.cell? ⟨s, 0, none⟩ = some (.slice A sn sc)) (h2 : w.cell? ⟨rb, 0, none⟩ = some (.pointer (some ⟨r, 0, none⟩))) (h3 : w.heap[r]? = some (.cells #[v0, .int .i64 e0] 103 (0, 0))) (hsr : s ≠ r) (hbr : rb ≠ r) :
    CallsD Try.prog 99 #[.pointer (some ⟨s, 0, none⟩), .pointer (some ⟨rb, 0, none⟩)] (.panicking ({ v := .iface 121 (.agg #[.int .i64 k]), recovered := false } :: older)) w fun e u' w' =>
      e = .returned (.tuple #[]) ∧ u' = .panicking ({ v := .iface 121 (.agg #[.int .i64 k]), recovered := true } :: older) ∧ Caught w r (.slice A sn sc) k w' := by
  have hlt : r < w.heap.size := (Array.getElem?_eq_some_iff.1 h3).1
  have hA : ∀ o, (w.alloc o).heap[r]? = some (.cells #[v0, .int .i64 e0] 103 (0, 0)) := fun o => (Below.heap_alloc _ _ _ hlt).trans h3
  have hs1 : ∀ o, (w.alloc o).cell? ⟨s, 0, none⟩ = some (.slice A sn sc) := fun o => cell_later (Below.alloc (Below.refl _ _) (Nat.le_refl _) o) h1
  have hs2 : ∀ o, (w.alloc o).cell? ⟨rb, 0, none⟩ = some (.pointer (some ⟨r, 0, none⟩)) := fun o => cell_later (Below.alloc (Below.refl _ _) (Nat.le_refl _) o) h2
  have hs3 : ∀ o, (w.alloc o).cell? ⟨r, 0, none⟩ = some v0 := fun o => cell_of_row _ r 0 _ _ _ (hA o)
  have hs4 : ∀ o, (w.alloc o).cell? ⟨r, 1, none⟩ = some (.int .i64 e0) := fun o => cell_of_row _ r 1 _ _ _ (hA o)
  have hs5 : ∀ o j, (w.alloc o).frozen? ⟨r, j, none⟩ = false := fun o j => by simp [World.frozen?, hA o]
  have hq1 : ∀ o u j, ((w.alloc o).setCell ⟨r, j, none⟩ u).cell? ⟨s, 0, none⟩ = some (.slice A sn sc) := fun o u j => (World.cell?_setCell_other _ _ _ _ (by intro e; injection e with e; exact hsr e.symm)).trans (hs1 o)
  have hq2 : ∀ o u j, ((w.alloc o).setCell ⟨r, j, none⟩ u).cell? ⟨rb, 0, none⟩ = some (.pointer (some ⟨r, 0, none⟩)) := fun o u j => (World.cell?_setCell_other _ _ _ _ (by intro e; injection e with e; exact hbr e.symm)).trans (hs2 o)
  have hq3 : ∀ x u j, ((w.alloc (.cells #[x] 121)).setCell ⟨r, j, none⟩ u).cell? ⟨w.heap.size, 0, none⟩ = some x := fun x u j => (World.cell?_setCell_other _ _ _ _ (by intro e; injection e with e; omega)).trans (cell_of_row _ _ 0 _ _ _ (heap_alloc_new w _))
  have hq4 : ∀ o u, ((w.alloc o).setCell ⟨r, 0, none⟩ u).cell? ⟨r, 1, none⟩ = some (.int .i64 e0) := fun o u => (World.cell?_setCell_other _ _ _ _ (by intro e; injection e with e1 e2; cases e2)).trans (hs4 o)
  have hq5 : ∀ o u, ((w.alloc o).setCell ⟨r, 1, none⟩ u).cell? ⟨r, 0, none⟩ = some v0 := fun o u => (World.cell?_setCell_other _ _ _ _ (by intro e; injection e with e1 e2; cases e2)).trans (hs3 o)
  have hq6 : ∀ o u j i, ((w.alloc o).setCell ⟨r, j, none⟩ u).frozen? ⟨r, i, none⟩ = false := fun o u j i => (World.frozen?_setCell _ _ _ _).trans (hs5 o i)
  have H3 := Lib.hid h3
  clear hA h3 h1 h2 hlt
  have hta := tassert
  refine callsD_of_wpS Try.func99 rfl fun c₀ cs hu => ?_
  apply wpS_seq
  apply wpS_region
  simp [wpOpsS, go_sem, recoverD, hu, Try.ntmps99, Exit.thenS]
  apply wpS_seq
  apply wpS_region
  simp [wpOpsS, go_sem, Exit.thenS]
  refine wpS_cond (t := true) (by simp [Act.eval, Array.replicate]) ?_
  simp only [if_true]
  refine wpS_of_wp ?_
  refine Code.wp_mono (Q := EndsAs (Caught w r (.slice A sn sc) k)) ?_ ?_
  · rintro e a w' ⟨rfl, hd, hc⟩
    exact ⟨hd, _, rfl, _, by simp [results, Try.results99], rfl, rfl, hc⟩
  · simp only [Array.replicate_succ, Array.replicate_zero, List.push_toArray, List.append_toArray, List.nil_append, List.cons_append, List.setIfInBounds_toArray, List.set]
    go_wp2
    go_region
    exact ⟨rfl, rfl, caught_of H3.out⟩

theorem idle_u32 (s rb : Addr) (w : World) :
    CallsD Try.prog 100 #[.pointer (some s), .pointer (some rb)] .returning w fun e u' w' => e = .returned (.tuple #[]) ∧ u' = .returning ∧ w = w' := by
  refine callsD_of_wpS Try.func100 rfl fun c₀ cs hu => ?_
  apply wpS_seq
  apply wpS_region
  simp [wpOpsS, go_sem, recoverD, hu, Try.ntmps100, Exit.thenS]
  apply wpS_seq
  apply wpS_region
  simp [wpOpsS, go_sem, Exit.thenS]
  refine wpS_cond (t := false) (by simp [Act.eval, Array.replicate]) ?_
  simp only [Bool.false_eq_true, if_false]
  refine wpS_of_wp (wp_skip ?_)
  cases c₀
  simp_all [bodyPostS, results, Try.results100]

set_option maxHeartbeats 800000 in
theorem catch_u32 (s rb r : Nat) (k : Int) (older : List PanicEntry) (w : World) (A : Option Addr) (sn sc : Nat) (v0 : Value) (e0 : Int)
    (h1 : w.cell? ⟨s, 0, none⟩ = some (.slice A sn sc)) (h2 : w.cell? ⟨rb, 0, none⟩ = some (.pointer (some ⟨r, 0, none⟩))) (h3 : w.heap[r]? = some (.cells #[v0, .int .i64 e0] 103 (0, 0))) (hsr : s ≠ r) (hbr : rb ≠ r) :
    CallsD Try.prog 100 #[.pointer (some ⟨s, 0, none⟩), .pointer (some ⟨rb, 0, none⟩)] (.panicking ({ v := .iface 121 (.agg #[.int .i64 k]), recovered := false } :: older)) w fun e u' w' =>
      e = .returned (.tuple #[]) ∧ u' = .panicking ({ v := .iface 121 (.agg #[.int .i64 k]), recovered := true } :: older) ∧ Caught w r (.slice A sn sc) k w' := by
  have hlt : r < w.heap.size := (Array.getElem?_eq_some_iff.1 h3).1
  have hA : ∀ o, (w.alloc o).heap[r]? = some (.cells #[v0, .int .i64 e0] 103 (0, 0)) := fun o => (Below.heap_alloc _ _ _ hlt).trans h3
  have hs1 : ∀ o, (w.alloc o).cell? ⟨s, 0, none⟩ = some (.slice A sn sc) := fun o => cell_later (Below.alloc (Below.refl _ _) (Nat.le_refl _) o) h1
  have hs2 : ∀ o, (w.alloc o).cell? ⟨rb, 0, none⟩ = some (.pointer (some ⟨r, 0, none⟩)) := fun o => cell_later (Below.alloc (Below.refl _ _) (Nat.le_refl _) o) h2
  have hs3 : ∀ o, (w.alloc o).cell? ⟨r, 0, none⟩ = some v0 := fun o => cell_of_row _ r 0 _ _ _ (hA o)
  have hs4 : ∀ o, (w.alloc o).cell? ⟨r, 1, none⟩ = some (.int .i64 e0) := fun o => cell_of_row _ r 1 _ _ _ (hA o)
  have hs5 : ∀ o j, (w.alloc o).frozen? ⟨r, j, none⟩ = false := fun o j => by simp [World.frozen?, hA o]
  have hq1 : ∀ o u j, ((w.alloc o).setCell ⟨r, j, none⟩ u).cell? ⟨s, 0, none⟩ = some (.slice A sn sc) := fun o u j => (World.cell?_setCell_other _ _ _ _ (by intro e; injection e with e; exact hsr e.symm)).trans (hs1 o)
  have hq2 : ∀ o u j, ((w.alloc o).setCell ⟨r, j, none⟩ u).cell? ⟨rb, 0, none⟩ = some (.pointer (some ⟨r, 0, none⟩)) := fun o u j => (World.cell?_setCell_other _ _ _ _ (by intro e; injection e with e; exact hbr e.symm)).trans (hs2 o)
  have hq3 : ∀ x u j, ((w.alloc (.cells #[x] 121)).setCell ⟨r, j, none⟩ u).cell? ⟨w.heap.size, 0, none⟩ = some x := fun x u j => (World.cell?_setCell_other _ _ _ _ (by intro e; injection e with e; omega)).trans (cell_of_row _ _ 0 _ _ _ (heap_alloc_new w _))
  have hq4 : ∀ o u, ((w.alloc o).setCell ⟨r, 0, none⟩ u).cell? ⟨r, 1, none⟩ = some (.int .i64 e0) := fun o u => (World.cell?_setCell_other _ _ _ _ (by intro e; injection e with e1 e2; cases e2)).trans (hs4 o)
  have hq5 : ∀ o u, ((w.alloc o).setCell ⟨r, 1, none⟩ u).cell? ⟨r, 0, none⟩ = some v0 := fun o u => (World.cell?_setCell_other _ _ _ _ (by intro e; injection e with e1 e2; cases e2)).trans (hs3 o)
  have hq6 : ∀ o u j i, ((w.alloc o).setCell ⟨r, j, none⟩ u).frozen? ⟨r, i, none⟩ = false := fun o u j i => (World.frozen?_setCell _ _ _ _).trans (hs5 o i)
  have H3 := Lib.hid h3
  clear hA h3 h1 h2 hlt
  have hta := tassert
  refine callsD_of_wpS Try.func100 rfl fun c₀ cs hu => ?_
  apply wpS_seq
  apply wpS_region
  simp [wpOpsS, go_sem, recoverD, hu, Try.ntmps100, Exit.thenS]
  apply wpS_seq
  apply wpS_region
  simp [wpOpsS, go_sem, Exit.thenS]
  refine wpS_cond (t := true) (by simp [Act.eval, Array.replicate]) ?_
  simp only [if_true]
  refine wpS_of_wp ?_
  refine Code.wp_mono (Q := EndsAs (Caught w r (.slice A sn sc) k)) ?_ ?_
  · rintro e a w' ⟨rfl, hd, hc⟩
    exact ⟨hd, _, rfl, _, by simp [results, Try.results100], rfl, rfl, hc⟩
  · simp only [Array.replicate_succ, Array.replicate_zero, List.push_toArray, List.append_toArray, List.nil_append, List.cons_append, List.setIfInBounds_toArray, List.set]
    go_wp2
    go_region
    exact ⟨rfl, rfl, caught_of H3.out⟩

theorem idle_list (s rb : Addr) (w : World) :
    CallsD Try.prog 92 #[.pointer (some s), .pointer (some rb)] .returning w fun e u' w' => e = .returned (.tuple #[]) ∧ u' = .returning ∧ w = w' := by
  refine callsD_of_wpS Try.func92 rfl fun c₀ cs hu => ?_
  apply wpS_seq
  apply wpS_region
  simp [wpOpsS, go_sem, recoverD, hu, Try.ntmps92, Exit.thenS]
  apply wpS_seq
  apply wpS_region
  simp [wpOpsS, go_sem, Exit.thenS]
  refine wpS_cond (t := false) (by simp [Act.eval, Array.replicate]) ?_
  simp only [Bool.false_eq_true, if_false]
  refine wpS_of_wp (wp_skip ?_)
  cases c₀
  simp_all [bodyPostS, results, Try.results92]

set_option maxHeartbeats 800000 in
theorem catch_list (s rb r : Nat) (k : Int) (older : List PanicEntry) (w : World) (A : Option Addr) (sn sc : Nat) (v0 : Value) (e0 : Int)
    (h1 : w.cell? ⟨s, 0, none⟩ = some (.slice A sn sc)) (h2 : w.cell? ⟨rb, 0, none⟩ = some (.pointer (some ⟨r, 0, none⟩))) (h3 : w.heap[r]? = some (.cells #[v0, .int .i64 e0] 103 (0, 0))) (hsr : s ≠ r) (hbr : rb ≠ r) :
    CallsD Try.prog 92 #[.pointer (some ⟨s, 0, none⟩), .pointer (some ⟨rb, 0, none⟩)] (.panicking ({ v := .iface 121 (.agg #[.int .i64 k]), recovered := false } :: older)) w fun e u' w' =>
      e = .returned (.tuple #[]) ∧ u' = .panicking ({ v := .iface 121 (.agg #[.int .i64 k]), recovered := true } :: older) ∧ Caught w r (.slice A sn sc) k w' := by
  have hlt : r < w.heap.size := (Array.getElem?_eq_some_iff.1 h3).1
  have hA : ∀ o, (w.alloc o).heap[r]? = some (.cells #[v0, .int .i64 e0] 103 (0, 0)) := fun o => (Below.heap_alloc _ _ _ hlt).trans h3
  have hs1 : ∀ o, (w.alloc o).cell? ⟨s, 0, none⟩ = some (.slice A sn sc) := fun o => cell_later (Below.alloc (Below.refl _ _) (Nat.le_refl _) o) h1
  have hs2 : ∀ o, (w.alloc o).cell? ⟨rb, 0, none⟩ = some (.pointer (some ⟨r, 0, none⟩)) := fun o => cell_later (Below.alloc (Below.refl _ _) (Nat.le_refl _) o) h2
  have hs3 : ∀ o, (w.alloc o).cell? ⟨r, 0, none⟩ = some v0 := fun o => cell_of_row _ r 0 _ _ _ (hA o)
  have hs4 : ∀ o, (w.alloc o).cell? ⟨r, 1, none⟩ = some (.int .i64 e0) := fun o => cell_of_row _ r 1 _ _ _ (hA o)
  have hs5 : ∀ o j, (w.alloc o).frozen? ⟨r, j, none⟩ = false := fun o j => by simp [World.frozen?, hA o]
  have hq1 : ∀ o u j, ((w.alloc o).setCell ⟨r, j, none⟩ u).cell? ⟨s, 0, none⟩ = some (.slice A sn sc) := fun o u j => (World.cell?_setCell_other _ _ _ _ (by intro e; injection e with e; exact hsr e.symm)).trans (hs1 o)
  have hq2 : ∀ o u j, ((w.alloc o).setCell ⟨r, j, none⟩ u).cell? ⟨rb, 0, none⟩ = some (.pointer (some ⟨r, 0, none⟩)) := fun o u j => (World.cell?_setCell_other _ _ _ _ (by intro e; injection e with e; exact hbr e.symm)).trans (hs2 o)
  have hq3 : ∀ x u j, ((w.alloc (.cells #[x] 121)).setCell ⟨r, j, none⟩ u).cell? ⟨w.heap.size, 0, none⟩ = some x := fun x u j => (World.cell?_setCell_other _ _ _ _ (by intro e; injection e with e; omega)).trans (cell_of_row _ _ 0 _ _ _ (heap_alloc_new w _))
  have hq4 : ∀ o u, ((w.alloc o).setCell ⟨r, 0, none⟩ u).cell? ⟨r, 1, none⟩ = some (.int .i64 e0) := fun o u => (World.cell?_setCell_other _ _ _ _ (by intro e; injection e with e1 e2; cases e2)).trans (hs4 o)
  have hq5 : ∀ o u, ((w.alloc o).setCell ⟨r, 1, none⟩ u).cell? ⟨r, 0, none⟩ = some v0 := fun o u => (World.cell?_setCell_other _ _ _ _ (by intro e; injection e with e1 e2; cases e2)).trans (hs3 o)
  have hq6 : ∀ o u j i, ((w.alloc o).setCell ⟨r, j, none⟩ u).frozen? ⟨r, i, none⟩ = false := fun o u j i => (World.frozen?_setCell _ _ _ _).trans (hs5 o i)
  have H3 := Lib.hid h3
  clear hA h3 h1 h2 hlt
  have hta := tassert
  refine callsD_of_wpS Try.func92 rfl fun c₀ cs hu => ?_
  apply wpS_seq
  apply wpS_region
  simp [wpOpsS, go_sem, recoverD, hu, Try.ntmps92, Exit.thenS]
  apply wpS_seq
  apply wpS_region
  simp [wpOpsS, go_sem, Exit.thenS]
  refine wpS_cond (t := true) (by simp [Act.eval, Array.replicate]) ?_
  simp only [if_true]
  refine wpS_of_wp ?_
  refine Code.wp_mono (Q := EndsAs (Caught w r (.slice A sn sc) k)) ?_ ?_
  · rintro e a w' ⟨rfl, hd, hc⟩
    exact ⟨hd, _, rfl, _, by simp [results, Try.results92], rfl, rfl, hc⟩
  · simp only [Array.replicate_succ, Array.replicate_zero, List.push_toArray, List.append_toArray, List.nil_append, List.cons_append, List.setIfInBounds_toArray, List.set]
    go_wp2
    go_region
    exact ⟨rfl, rfl, caught_of H3.out⟩

end Go.Proofs.Ytadgaeokiolmmaa
