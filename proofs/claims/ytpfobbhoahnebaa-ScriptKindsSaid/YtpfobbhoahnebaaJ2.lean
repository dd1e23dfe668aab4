/-
  Texts joined: Size, Catch, Meth, Steps, Rdr, Row. Conditions: those of each.
-/
import Derived.Test.YtpfobbhoahnebaaJ1
import Derived.Defers
import Derived.Recover
import Derived.BigRegion
import Derived.BigQuiet
import Derived.Deep.QuietTactic
import Derived.Deep.DeepCutAuto
/-
  What the reader's inner functions that read sizes and lists do. Conditions: sizes within the reach.
-/
namespace Go.Proofs.Ytpfobbhoahnebaa
open Go.RowKit Go.Maps

/-- Either way: it answers a value and leaves bytes, or it gives up with an error. -/
def Res (w : World) (r B : Nat) (k : Int) (f : Except Int (Value × List UInt8)) (e : Ending) (w' : World) : Prop :=
  match f with
  | .ok (u, ys) => Goes w r B k u ys e w'
  | .error c => Stops w r B k c e w'

/-- A number of n bytes. -/
def numP (q : IntKind) (n : Nat) (xs : List UInt8) : Except Int (Value × List UInt8) :=
  if xs.length < n then .error 4 else .ok (.int q (val (xs.take n)), xs.drop n)

theorem val_take_lt (xs : List UInt8) (n : Nat) : 0 ≤ val (xs.take n) ∧ val (xs.take n) < 256 ^ n := by
  have h := val_bd (xs.take n)
  refine ⟨h.1, ?_⟩
  have h1 : (xs.take n).length ≤ n := List.length_take_le _ _
  have h2 : (256 : Nat) ^ (xs.take n).length ≤ 256 ^ n := Nat.pow_le_pow_right (by decide) h1
  have h3 : ((256 ^ (xs.take n).length : Nat) : Int) = (256 : Int) ^ (xs.take n).length := Int.natCast_pow _ _
  have h4 : ((256 ^ n : Nat) : Int) = (256 : Int) ^ n := Int.natCast_pow _ _
  omega

set_option maxHeartbeats 400000 in
theorem cu8_any (r B : Nat) (v : Value) (k : Int) (xs : List UInt8) (w : World) (hc : Cu w r B v k xs) :
    Calls Try.prog 76 #[.pointer (some ⟨r, 0, none⟩)] w (Res w r B k (numP .u8 1 xs)) := by
  by_cases h : xs.length < 1
  · have hp : numP .u8 1 xs = .error 4 := by unfold numP; rw [if_pos h]
    rw [hp]
    go_enter Try.func76, Try.ntmps76
    go_wp2_with fail
    refine (number_end r B v k _ xs w (by omega) hc).mono ?_
    rintro e w1 ⟨rfl, hst⟩
    go_wp2
    exact ⟨rfl, rfl, hst⟩
  · have hp : numP .u8 1 xs = .ok (.int .u8 (val (xs.take 1)), xs.drop 1) := by unfold numP; rw [if_neg h]
    rw [hp]
    have hbd := val_take_lt xs 1
    obtain ⟨z, hz⟩ : ∃ z, z = val (xs.take 1) := ⟨_, rfl⟩
    rw [← hz]
    have hz0 : 0 ≤ z := by omega
    have hz1 : z < 256 := by omega
    have HZ := Lib.hid hz
    clear hz hbd
    go_enter Try.func76, Try.ntmps76
    go_wp2_with fail
    refine (number_num r B v k _ 1 rfl xs w (by omega) (by omega) (by omega) hc).mono ?_
    rw [← HZ.out]
    rintro e w1 ⟨rfl, hst⟩
    go_wp2
    go_ret
    exact ⟨rfl, hst⟩

set_option maxHeartbeats 400000 in
theorem cu16_any (r B : Nat) (v : Value) (k : Int) (xs : List UInt8) (w : World) (hc : Cu w r B v k xs) :
    Calls Try.prog 95 #[.pointer (some ⟨r, 0, none⟩)] w (Res w r B k (numP .u16 2 xs)) := by
  by_cases h : xs.length < 2
  · have hp : numP .u16 2 xs = .error 4 := by unfold numP; rw [if_pos h]
    rw [hp]
    go_enter Try.func95, Try.ntmps95
    go_wp2_with fail
    refine (number_end r B v k _ xs w (by omega) hc).mono ?_
    rintro e w1 ⟨rfl, hst⟩
    go_wp2
    exact ⟨rfl, rfl, hst⟩
  · have hp : numP .u16 2 xs = .ok (.int .u16 (val (xs.take 2)), xs.drop 2) := by unfold numP; rw [if_neg h]
    rw [hp]
    have hbd := val_take_lt xs 2
    obtain ⟨z, hz⟩ : ∃ z, z = val (xs.take 2) := ⟨_, rfl⟩
    rw [← hz]
    have hz0 : 0 ≤ z := by omega
    have hz1 : z < 65536 := by omega
    have HZ := Lib.hid hz
    clear hz hbd
    go_enter Try.func95, Try.ntmps95
    go_wp2_with fail
    refine (number_num r B v k _ 2 rfl xs w (by omega) (by omega) (by omega) hc).mono ?_
    rw [← HZ.out]
    rintro e w1 ⟨rfl, hst⟩
    go_wp2
    go_ret
    exact ⟨rfl, hst⟩

set_option maxHeartbeats 400000 in
theorem cu32_any (r B : Nat) (v : Value) (k : Int) (xs : List UInt8) (w : World) (hc : Cu w r B v k xs) :
    Calls Try.prog 97 #[.pointer (some ⟨r, 0, none⟩)] w (Res w r B k (numP .u32 4 xs)) := by
  by_cases h : xs.length < 4
  · have hp : numP .u32 4 xs = .error 4 := by unfold numP; rw [if_pos h]
    rw [hp]
    go_enter Try.func97, Try.ntmps97
    go_wp2_with fail
    refine (number_end r B v k _ xs w (by omega) hc).mono ?_
    rintro e w1 ⟨rfl, hst⟩
    go_wp2
    exact ⟨rfl, rfl, hst⟩
  · have hp : numP .u32 4 xs = .ok (.int .u32 (val (xs.take 4)), xs.drop 4) := by unfold numP; rw [if_neg h]
    rw [hp]
    have hbd := val_take_lt xs 4
    obtain ⟨z, hz⟩ : ∃ z, z = val (xs.take 4) := ⟨_, rfl⟩
    rw [← hz]
    have hz0 : 0 ≤ z := by omega
    have hz1 : z < 4294967296 := by omega
    have HZ := Lib.hid hz
    clear hz hbd
    go_enter Try.func97, Try.ntmps97
    go_wp2_with fail
    refine (number_num r B v k _ 4 rfl xs w (by omega) (by omega) (by omega) hc).mono ?_
    rw [← HZ.out]
    rintro e w1 ⟨rfl, hst⟩
    go_wp2
    go_ret
    exact ⟨rfl, hst⟩

/-! The map of marks. -/
theorem key8 : Keyed Try.prog 5 := int_keyed Try.underlying5
theorem zero_int (w : World) : (zeroValue 3).run Try.prog w = .ok (.int .i64 0) w := by kernel_rfl
def marksD : DataW Unit := (((DataW.map []).put (.int .u8 253) (.lit (.int .i64 2))).put (.int .u8 254) (.lit (.int .i64 4))).put (.int .u8 255) (.lit (.int .i64 8))

/-- How many bytes follow the byte that begins a longer size. -/
def wd (f : Int) : Nat := if f = 253 then 2 else if f = 254 then 4 else 8

theorem marks_at {f c : Int} (h : f = 253 ∨ f = 254 ∨ f = 255) (hat : marksD.atKey (.int .u8 f) (.lit (.int .i64 0)) = .lit (.int .i64 c)) : c = wd f := by
  have e2 : marksD.atKey (.int .u8 253) (.lit (.int .i64 0)) = .lit (.int .i64 2) := by rfl
  have e4 : marksD.atKey (.int .u8 254) (.lit (.int .i64 0)) = .lit (.int .i64 4) := by rfl
  have e8 : marksD.atKey (.int .u8 255) (.lit (.int .i64 0)) = .lit (.int .i64 8) := by rfl
  rcases h with rfl | rfl | rfl
  · rw [e2] at hat; cases hat; rfl
  · rw [e4] at hat; cases hat; rfl
  · rw [e8] at hat; cases hat; rfl

/-- A compact size. -/
def sizeP (xs : List UInt8) : Except Int (Int × List UInt8) :=
  if xs.length < 1 then .error 4 else
  if val (xs.take 1) < 253 then .ok (val (xs.take 1), xs.drop 1) else
  if (xs.drop 1).length < wd (val (xs.take 1)) then .error 4 else
  if sizeLen (val ((xs.drop 1).take (wd (val (xs.take 1))))) ≠ 1 + wd (val (xs.take 1)) then .error 3 else
  if val ((xs.drop 1).take (wd (val (xs.take 1)))) > 33554432 then .error 2 else
  .ok (val ((xs.drop 1).take (wd (val (xs.take 1)))), (xs.drop 1).drop (wd (val (xs.take 1))))

def sizeV (xs : List UInt8) : Except Int (Value × List UInt8) :=
  match sizeP xs with
  | .ok (n, ys) => .ok (.int .u64 n, ys)
  | .error c => .error c


theorem cu8_ok (r B : Nat) (v : Value) (k : Int) (xs : List UInt8) (w : World) (h : ¬ xs.length < 1) (hc : Cu w r B v k xs) :
    Calls Try.prog 76 #[.pointer (some ⟨r, 0, none⟩)] w (Goes w r B k (.int .u8 (val (xs.take 1))) (xs.drop 1)) :=
  (cu8_any r B v k xs w hc).mono fun _ _ hh => by unfold numP at hh; rw [if_neg h] at hh; exact hh
theorem cu8_end (r B : Nat) (v : Value) (k : Int) (xs : List UInt8) (w : World) (h : xs.length < 1) (hc : Cu w r B v k xs) :
    Calls Try.prog 76 #[.pointer (some ⟨r, 0, none⟩)] w (Stops w r B k 4) :=
  (cu8_any r B v k xs w hc).mono fun _ _ hh => by unfold numP at hh; rw [if_pos h] at hh; exact hh

/-- The longer sizes, behind the first byte. -/
def tailP (n : Nat) (ys : List UInt8) : Except Int (Value × List UInt8) :=
  if ys.length < n then .error 4 else
  if sizeLen (val (ys.take n)) ≠ 1 + n then .error 3 else
  if val (ys.take n) > 33554432 then .error 2 else .ok (.int .u64 (val (ys.take n)), ys.drop n)

theorem sizeLen_bd (n : Int) : 1 ≤ sizeLen n ∧ sizeLen n ≤ 9 := by
  unfold sizeLen
  split
  · omega
  split
  · omega
  split <;> omega

theorem wd_bd (z : Int) : 0 < wd z ∧ wd z ≤ 8 := by
  unfold wd
  split
  · omega
  split <;> omega


theorem sizeV_long {xs : List UInt8} (h : ¬ xs.length < 1) (hlt : ¬ val (xs.take 1) < 253) : sizeV xs = tailP (wd (val (xs.take 1))) (xs.drop 1) := by
  unfold sizeV sizeP tailP
  rw [if_neg h, if_neg hlt]
  by_cases c1 : (xs.drop 1).length < wd (val (xs.take 1))
  · rw [if_pos c1, if_pos c1]
  rw [if_neg c1, if_neg c1]
  by_cases c2 : sizeLen (val ((xs.drop 1).take (wd (val (xs.take 1))))) ≠ 1 + wd (val (xs.take 1))
  · rw [if_pos c2, if_pos c2]
  rw [if_neg c2, if_neg c2]
  by_cases c3 : val ((xs.drop 1).take (wd (val (xs.take 1)))) > 33554432
  · rw [if_pos c3, if_pos c3]
  · rw [if_neg c3, if_neg c3]

end Go.Proofs.Ytpfobbhoahnebaa

/-
  What the reader's steps that fail leave: the deferred function, and the one generic function that every reading goes through. Conditions: sizes within the reach.
-/
namespace Go.Proofs.Ytpfobbhoahnebaa
open Go.RowKit

def EndsAs (W : World → Prop) (e : Exit) (a : Act) (w' : World) : Prop := e = .normal ∧ a.defers = [] ∧ W w'

theorem tassert (x : Value) (w : World) : (Instr.typeAssert (.iface 121 x) 20 121 true).run Try.prog w = .ok (.tuple #[x, .bool true]) w := by kernel_rfl

/-- What the deferred function leaves behind a failure: the reader is where it was, and has the error. -/
def Caught (w : World) (r : Nat) (v : Value) (k : Int) (w' : World) : Prop :=
  w'.heap[r]? = some (.cells #[v, .int .i64 k] 103 (0, 0)) ∧ Turns (fun i => i = r) w w'

theorem caught_of {w : World} {r : Nat} {v v0 : Value} {k e0 : Int} {o : Obj} (h : w.heap[r]? = some (.cells #[v0, .int .i64 e0] 103 (0, 0))) :
    Caught w r v k (((w.alloc o).setCell ⟨r, 0, none⟩ v).setCell ⟨r, 1, none⟩ (.int .i64 k)).drew := by
  have hlt : r < w.heap.size := (Array.getElem?_eq_some_iff.1 h).1
  have h1 : (w.alloc o).heap[r]? = some (.cells #[v0, .int .i64 e0] 103 (0, 0)) := (Below.heap_alloc _ _ _ hlt).trans h
  refine ⟨?_, ((((Turns.refl (fun i => i = r) w).alloc o).setCell (p := ⟨r, 0, none⟩) (fun _ => rfl) v).setCell (p := ⟨r, 1, none⟩) (fun _ => rfl) _).drew⟩
  show (((w.alloc o).setCell ⟨r, 0, none⟩ v).setCell ⟨r, 1, none⟩ (.int .i64 k)).heap[r]? = _
  simp [World.setCell, Array.getElem?_modify, h1]

theorem idle_u8 (s rb : Addr) (w : World) :
    CallsD Try.prog 90 #[.pointer (some s), .pointer (some rb)] .returning w fun e u' w' => e = .returned (.tuple #[]) ∧ u' = .returning ∧ w = w' := by
  refine callsD_of_wpS Try.func90 rfl fun c₀ cs hu => ?_
  apply wpS_seq
  apply wpS_region
  simp [wpOpsS, go_sem, recoverD, hu, Try.ntmps90, Exit.thenS]
  apply wpS_seq
  apply wpS_region
  simp [wpOpsS, go_sem, Exit.thenS]
  refine wpS_cond (t := false) (by simp [Act.eval, Array.replicate]) ?_
  simp only [Bool.false_eq_true, if_false]
  refine wpS_of_wp (wp_skip ?_)
  cases c₀
  simp_all [bodyPostS, results, Try.results90]

set_option maxHeartbeats 800000 in
theorem catch_u8 (s rb r : Nat) (k : Int) (older : List PanicEntry) (w : World) (A : Option Addr) (sn sc : Nat) (v0 : Value) (e0 : Int)
    (h1 : w.cell? ⟨s, 0, none⟩ = some (.slice A sn sc)) (h2 : w.cell? ⟨rb, 0, none⟩ = some (.pointer (some ⟨r, 0, none⟩))) (h3 : w.heap[r]? = some (.cells #[v0, .int .i64 e0] 103 (0, 0))) (hsr : s ≠ r) (hbr : rb ≠ r) :
    CallsD Try.prog 90 #[.pointer (some ⟨s, 0, none⟩), .pointer (some ⟨rb, 0, none⟩)] (.panicking ({ v := .iface 121 (.agg #[.int .i64 k]), recovered := false } :: older)) w fun e u' w' =>
      e = .returned (.tuple #[]) ∧ u' = .panicking ({ v := .iface 121 (.agg #[.int .i64 k]), recovered := true } :: older) ∧ Caught w r (.slice A sn sc) k w' := by
  have hlt : r < w.heap.size := (Array.getElem?_eq_some_iff.1 h3).1
  have hA : ∀ o, (w.alloc o).heap[r]? = some (.cells #[v0, .int .i64 e0] 103 (0, 0)) := fun o => (Below.heap_alloc _ _ _ hlt).trans h3
  have hs1 : ∀ o, (w.alloc o).cell? ⟨s, 0, none⟩ = some (.slice A sn sc) := fun o => cell_later (Below.alloc (Below.refl _ _) (Nat.le_refl _) o) h1
  have hs2 : ∀ o, (w.alloc o).cell? ⟨rb, 0, none⟩ = some (.pointer (some ⟨r, 0, none⟩)) := fun o => cell_later (Below.alloc (Below.refl _ _) (Nat.le_refl _) o) h2
  have hs3 : ∀ o, (w.alloc o).cell? ⟨r, 0, none⟩ = some v0 := fun o => cell_of_row _ r 0 _ _ _ (hA o)
  have hs4 : ∀ o, (w.alloc o).cell? ⟨r, 1, none⟩ = some (.int .i64 e0) := fun o => cell_of_row _ r 1 _ _ _ (hA o)
  have hs5 : ∀ o j, (w.alloc o).frozen? ⟨r, j, none⟩ = false := fun o j => by simp [World.frozen?, hA o]
  have hq1 : ∀ o u j, ((w.alloc o).setCell ⟨r, j, none⟩ u).cell? ⟨s, 0, none⟩ = some (.slice A sn sc) := fun o u j => (World.cell?_setCell_other _ _ _ _ (by intro e; injection e with e; exact hsr e.symm)).trans (hs1 o)
  have hq2 : ∀ o u j, ((w.alloc o).setCell ⟨r, j, none⟩ u).cell? ⟨rb, 0, none⟩ = some (.pointer (some ⟨r, 0, none⟩)) := fun o u j => (World.cell?_setCell_other _ _ _ _ (by intro e; injection e with e; exact hbr e.symm)).trans (hs2 o)
  have hq3 : ∀ x u j, ((w.alloc (.cells #[x] 121)).setCell ⟨r, j, none⟩ u).cell? ⟨w.heap.size, 0, none⟩ = some x := fun x u j => (World.cell?_setCell_other _ _ _ _ (by intro e; injection e with e; omega)).trans (cell_of_row _ _ 0 _ _ _ (heap_alloc_new w _))
  have hq4 : ∀ o u, ((w.alloc o).setCell ⟨r, 0, none⟩ u).cell? ⟨r, 1, none⟩ = some (.int .i64 e0) := fun o u => (World.cell?_setCell_other _ _ _ _ (by intro e; injection e with e1 e2; cases e2)).trans (hs4 o)
  have hq5 : ∀ o u, ((w.alloc o).setCell ⟨r, 1, none⟩ u).cell? ⟨r, 0, none⟩ = some v0 := fun o u => (World.cell?_setCell_other _ _ _ _ (by intro e; injection e with e1 e2; cases e2)).trans (hs3 o)
  have hq6 : ∀ o u j i, ((w.alloc o).setCell ⟨r, j, none⟩ u).frozen? ⟨r, i, none⟩ = false := fun o u j i => (World.frozen?_setCell _ _ _ _).trans (hs5 o i)
  have H3 := Lib.hid h3
  clear hA h3 h1 h2 hlt
  have hta := tassert
  refine callsD_of_wpS Try.func90 rfl fun c₀ cs hu => ?_
  apply wpS_seq
  apply wpS_region
  simp [wpOpsS, go_sem, recoverD, hu, Try.ntmps90, Exit.thenS]
  apply wpS_seq
  apply wpS_region
  simp [wpOpsS, go_sem, Exit.thenS]
  refine wpS_cond (t := true) (by simp [Act.eval, Array.replicate]) ?_
  simp only [if_true]
  refine wpS_of_wp ?_
  refine Code.wp_mono (Q := EndsAs (Caught w r (.slice A sn sc) k)) ?_ ?_
  · rintro e a w' ⟨rfl, hd, hc⟩
    exact ⟨hd, _, rfl, _, by simp [results, Try.results90], rfl, rfl, hc⟩
  · simp only [Array.replicate_succ, Array.replicate_zero, List.push_toArray, List.append_toArray, List.nil_append, List.cons_append, List.setIfInBounds_toArray, List.set]
    go_wp2
    go_region
    exact ⟨rfl, rfl, caught_of H3.out⟩

theorem idle_u16 (s rb : Addr) (w : World) :
    CallsD Try.prog 99 #[.pointer (some s), .pointer (some rb)] .returning w fun e u' w' => e = .returned (.tuple #[]) ∧ u' = .returning ∧ w = w' := by
  refine callsD_of_wpS Try.func99 rfl fun c₀ cs hu => ?_
  apply wpS_seq
  apply wpS_region
  simp [wpOpsS, go_sem, recoverD, hu, Try.ntmps99, Exit.thenS]
  apply wpS_seq
  apply wpS_region
  simp [wpOpsS, go_sem, Exit.thenS]
  refine wpS_cond (t := false) (by simp [Act.eval, Array.replicate]) ?_
  simp only [Bool.false_eq_true, if_false]
  refine wpS_of_wp (wp_skip ?_)
  cases c₀
  simp_all [bodyPostS, results, Try.results99]

set_option maxHeartbeats 800000 in
theorem catch_u16 (s rb r : Nat) (k : Int) (older : List PanicEntry) (w : World) (A : Option Addr) (sn sc : Nat) (v0 : Value) (e0 : Int)
    (h1 : w.cell? ⟨s, 0, none⟩ = some (.slice A sn sc)) (h2 : w.cell? ⟨rb, 0, none⟩ = some (.pointer (some ⟨r, 0, none⟩))) (h3 : w.heap[r]? = some (.cells #[v0, .int .i64 e0] 103 (0, 0))) (hsr : s ≠ r) (hbr : rb ≠ r) :
    CallsD Try.prog 99 #[.pointer (some ⟨s, 0, none⟩), .pointer (some ⟨rb, 0, none⟩)] (.panicking ({ v := .iface 121 (.agg #[.int .i64 k]), recovered := false } :: older)) w fun e u' w' =>
      e = .returned (.tuple #[]) ∧ u' = .panicking ({ v := .iface 121 (.agg #[.int .i64 k]), recovered := true } :: older) ∧ Caught w r (.slice A sn sc) k w' := by
  have hlt : r < w.heap.size := (Array.getElem?_eq_some_iff.1 h3).1
  have hA : ∀ o, (w.alloc o).heap[r]? = some (.cells #[v0, .int .i64 e0] 103 (0, 0)) := fun o => (Below.heap_alloc _ _ _ hlt).trans h3
  have hs1 : ∀ o, (w.alloc o).cell? ⟨s, 0, none⟩ = some (.slice A sn sc) := fun o => cell_later (Below.alloc (Below.refl _ _) (Nat.le_refl _) o) h1
  have hs2 : ∀ o, (w.alloc o).cell? ⟨rb, 0, none⟩ = some (.pointer (some ⟨r, 0, none⟩)) := fun o => cell_later (Below.alloc (Below.refl _ _) (Nat.le_refl _) o) h2
  have hs3 : ∀ o, (w.alloc o).cell? ⟨r, 0, none⟩ = some v0 := fun o => cell_of_row _ r 0 _ _ _ (hA o)
  have hs4 : ∀ o, (w.alloc o).cell? ⟨r, 1, none⟩ = some (.int .i64 e0) := fun o => cell_of_row _ r 1 _ _ _ (hA o)
  have hs5 : ∀ o j, (w.alloc o).frozen? ⟨r, j, none⟩ = false := fun o j => by simp [World.frozen?, hA o]
  have hq1 : ∀ o u j, ((w.alloc o).setCell ⟨r, j, none⟩ u).cell? ⟨s, 0, none⟩ = some (.slice A sn sc) := fun o u j => (World.cell?_setCell_other _ _ _ _ (by intro e; injection e with e; exact hsr e.symm)).trans (hs1 o)
  have hq2 : ∀ o u j, ((w.alloc o).setCell ⟨r, j, none⟩ u).cell? ⟨rb, 0, none⟩ = some (.pointer (some ⟨r, 0, none⟩)) := fun o u j => (World.cell?_setCell_other _ _ _ _ (by intro e; injection e with e; exact hbr e.symm)).trans (hs2 o)
  have hq3 : ∀ x u j, ((w.alloc (.cells #[x] 121)).setCell ⟨r, j, none⟩ u).cell? ⟨w.heap.size, 0, none⟩ = some x := fun x u j => (World.cell?_setCell_other _ _ _ _ (by intro e; injection e with e; omega)).trans (cell_of_row _ _ 0 _ _ _ (heap_alloc_new w _))
  have hq4 : ∀ o u, ((w.alloc o).setCell ⟨r, 0, none⟩ u).cell? ⟨r, 1, none⟩ = some (.int .i64 e0) := fun o u => (World.cell?_setCell_other _ _ _ _ (by intro e; injection e with e1 e2; cases e2)).trans (hs4 o)
  have hq5 : ∀ o u, ((w.alloc o).setCell ⟨r, 1, none⟩ u).cell? ⟨r, 0, none⟩ = some v0 := fun o u => (World.cell?_setCell_other _ _ _ _ (by intro e; injection e with e1 e2; cases e2)).trans (hs3 o)
  have hq6 : ∀ o u j i, ((w.alloc o).setCell ⟨r, j, none⟩ u).frozen? ⟨r, i, none⟩ = false := fun o u j i => (World.frozen?_setCell _ _ _ _).trans (hs5 o i)
  have H3 := Lib.hid h3
  clear hA h3 h1 h2 hlt
  have hta := tassert
  refine callsD_of_wpS Try.func99 rfl fun c₀ cs hu => ?_
  apply wpS_seq
  apply wpS_region
  simp [wpOpsS, go_sem, recoverD, hu, Try.ntmps99, Exit.thenS]
  apply wpS_seq
  apply wpS_region
  simp [wpOpsS, go_sem, Exit.thenS]
  refine wpS_cond (t := true) (by simp [Act.eval, Array.replicate]) ?_
  simp only [if_true]
  refine wpS_of_wp ?_
  refine Code.wp_mono (Q := EndsAs (Caught w r (.slice A sn sc) k)) ?_ ?_
  · rintro e a w' ⟨rfl, hd, hc⟩
    exact ⟨hd, _, rfl, _, by simp [results, Try.results99], rfl, rfl, hc⟩
  · simp only [Array.replicate_succ, Array.replicate_zero, List.push_toArray, List.append_toArray, List.nil_append, List.cons_append, List.setIfInBounds_toArray, List.set]
    go_wp2
    go_region
    exact ⟨rfl, rfl, caught_of H3.out⟩

theorem idle_u32 (s rb : Addr) (w : World) :
    CallsD Try.prog 100 #[.pointer (some s), .pointer (some rb)] .returning w fun e u' w' => e = .returned (.tuple #[]) ∧ u' = .returning ∧ w = w' := by
  refine callsD_of_wpS Try.func100 rfl fun c₀ cs hu => ?_
  apply wpS_seq
  apply wpS_region
  simp [wpOpsS, go_sem, recoverD, hu, Try.ntmps100, Exit.thenS]
  apply wpS_seq
  apply wpS_region
  simp [wpOpsS, go_sem, Exit.thenS]
  refine wpS_cond (t := false) (by simp [Act.eval, Array.replicate]) ?_
  simp only [Bool.false_eq_true, if_false]
  refine wpS_of_wp (wp_skip ?_)
  cases c₀
  simp_all [bodyPostS, results, Try.results100]

set_option maxHeartbeats 800000 in
theorem catch_u32 (s rb r : Nat) (k : Int) (older : List PanicEntry) (w : World) (A : Option Addr) (sn sc : Nat) (v0 : Value) (e0 : Int)
    (h1 : w.cell? ⟨s, 0, none⟩ = some (.slice A sn sc)) (h2 : w.cell? ⟨rb, 0, none⟩ = some (.pointer (some ⟨r, 0, none⟩))) (h3 : w.heap[r]? = some (.cells #[v0, .int .i64 e0] 103 (0, 0))) (hsr : s ≠ r) (hbr : rb ≠ r) :
    CallsD Try.prog 100 #[.pointer (some ⟨s, 0, none⟩), .pointer (some ⟨rb, 0, none⟩)] (.panicking ({ v := .iface 121 (.agg #[.int .i64 k]), recovered := false } :: older)) w fun e u' w' =>
      e = .returned (.tuple #[]) ∧ u' = .panicking ({ v := .iface 121 (.agg #[.int .i64 k]), recovered := true } :: older) ∧ Caught w r (.slice A sn sc) k w' := by
  have hlt : r < w.heap.size := (Array.getElem?_eq_some_iff.1 h3).1
  have hA : ∀ o, (w.alloc o).heap[r]? = some (.cells #[v0, .int .i64 e0] 103 (0, 0)) := fun o => (Below.heap_alloc _ _ _ hlt).trans h3
  have hs1 : ∀ o, (w.alloc o).cell? ⟨s, 0, none⟩ = some (.slice A sn sc) := fun o => cell_later (Below.alloc (Below.refl _ _) (Nat.le_refl _) o) h1
  have hs2 : ∀ o, (w.alloc o).cell? ⟨rb, 0, none⟩ = some (.pointer (some ⟨r, 0, none⟩)) := fun o => cell_later (Below.alloc (Below.refl _ _) (Nat.le_refl _) o) h2
  have hs3 : ∀ o, (w.alloc o).cell? ⟨r, 0, none⟩ = some v0 := fun o => cell_of_row _ r 0 _ _ _ (hA o)
  have hs4 : ∀ o, (w.alloc o).cell? ⟨r, 1, none⟩ = some (.int .i64 e0) := fun o => cell_of_row _ r 1 _ _ _ (hA o)
  have hs5 : ∀ o j, (w.alloc o).frozen? ⟨r, j, none⟩ = false := fun o j => by simp [World.frozen?, hA o]
  have hq1 : ∀ o u j, ((w.alloc o).setCell ⟨r, j, none⟩ u).cell? ⟨s, 0, none⟩ = some (.slice A sn sc) := fun o u j => (World.cell?_setCell_other _ _ _ _ (by intro e; injection e with e; exact hsr e.symm)).trans (hs1 o)
  have hq2 : ∀ o u j, ((w.alloc o).setCell ⟨r, j, none⟩ u).cell? ⟨rb, 0, none⟩ = some (.pointer (some ⟨r, 0, none⟩)) := fun o u j => (World.cell?_setCell_other _ _ _ _ (by intro e; injection e with e; exact hbr e.symm)).trans (hs2 o)
  have hq3 : ∀ x u j, ((w.alloc (.cells #[x] 121)).setCell ⟨r, j, none⟩ u).cell? ⟨w.heap.size, 0, none⟩ = some x := fun x u j => (World.cell?_setCell_other _ _ _ _ (by intro e; injection e with e; omega)).trans (cell_of_row _ _ 0 _ _ _ (heap_alloc_new w _))
  have hq4 : ∀ o u, ((w.alloc o).setCell ⟨r, 0, none⟩ u).cell? ⟨r, 1, none⟩ = some (.int .i64 e0) := fun o u => (World.cell?_setCell_other _ _ _ _ (by intro e; injection e with e1 e2; cases e2)).trans (hs4 o)
  have hq5 : ∀ o u, ((w.alloc o).setCell ⟨r, 1, none⟩ u).cell? ⟨r, 0, none⟩ = some v0 := fun o u => (World.cell?_setCell_other _ _ _ _ (by intro e; injection e with e1 e2; cases e2)).trans (hs3 o)
  have hq6 : ∀ o u j i, ((w.alloc o).setCell ⟨r, j, none⟩ u).frozen? ⟨r, i, none⟩ = false := fun o u j i => (World.frozen?_setCell _ _ _ _).trans (hs5 o i)
  have H3 := Lib.hid h3
  clear hA h3 h1 h2 hlt
  have hta := tassert
  refine callsD_of_wpS Try.func100 rfl fun c₀ cs hu => ?_
  apply wpS_seq
  apply wpS_region
  simp [wpOpsS, go_sem, recoverD, hu, Try.ntmps100, Exit.thenS]
  apply wpS_seq
  apply wpS_region
  simp [wpOpsS, go_sem, Exit.thenS]
  refine wpS_cond (t := true) (by simp [Act.eval, Array.replicate]) ?_
  simp only [if_true]
  refine wpS_of_wp ?_
  refine Code.wp_mono (Q := EndsAs (Caught w r (.slice A sn sc) k)) ?_ ?_
  · rintro e a w' ⟨rfl, hd, hc⟩
    exact ⟨hd, _, rfl, _, by simp [results, Try.results100], rfl, rfl, hc⟩
  · simp only [Array.replicate_succ, Array.replicate_zero, List.push_toArray, List.append_toArray, List.nil_append, List.cons_append, List.setIfInBounds_toArray, List.set]
    go_wp2
    go_region
    exact ⟨rfl, rfl, caught_of H3.out⟩

theorem idle_list (s rb : Addr) (w : World) :
    CallsD Try.prog 92 #[.pointer (some s), .pointer (some rb)] .returning w fun e u' w' => e = .returned (.tuple #[]) ∧ u' = .returning ∧ w = w' := by
  refine callsD_of_wpS Try.func92 rfl fun c₀ cs hu => ?_
  apply wpS_seq
  apply wpS_region
  simp [wpOpsS, go_sem, recoverD, hu, Try.ntmps92, Exit.thenS]
  apply wpS_seq
  apply wpS_region
  simp [wpOpsS, go_sem, Exit.thenS]
  refine wpS_cond (t := false) (by simp [Act.eval, Array.replicate]) ?_
  simp only [Bool.false_eq_true, if_false]
  refine wpS_of_wp (wp_skip ?_)
  cases c₀
  simp_all [bodyPostS, results, Try.results92]

set_option maxHeartbeats 800000 in
theorem catch_list (s rb r : Nat) (k : Int) (older : List PanicEntry) (w : World) (A : Option Addr) (sn sc : Nat) (v0 : Value) (e0 : Int)
    (h1 : w.cell? ⟨s, 0, none⟩ = some (.slice A sn sc)) (h2 : w.cell? ⟨rb, 0, none⟩ = some (.pointer (some ⟨r, 0, none⟩))) (h3 : w.heap[r]? = some (.cells #[v0, .int .i64 e0] 103 (0, 0))) (hsr : s ≠ r) (hbr : rb ≠ r) :
    CallsD Try.prog 92 #[.pointer (some ⟨s, 0, none⟩), .pointer (some ⟨rb, 0, none⟩)] (.panicking ({ v := .iface 121 (.agg #[.int .i64 k]), recovered := false } :: older)) w fun e u' w' =>
      e = .returned (.tuple #[]) ∧ u' = .panicking ({ v := .iface 121 (.agg #[.int .i64 k]), recovered := true } :: older) ∧ Caught w r (.slice A sn sc) k w' := by
  have hlt : r < w.heap.size := (Array.getElem?_eq_some_iff.1 h3).1
  have hA : ∀ o, (w.alloc o).heap[r]? = some (.cells #[v0, .int .i64 e0] 103 (0, 0)) := fun o => (Below.heap_alloc _ _ _ hlt).trans h3
  have hs1 : ∀ o, (w.alloc o).cell? ⟨s, 0, none⟩ = some (.slice A sn sc) := fun o => cell_later (Below.alloc (Below.refl _ _) (Nat.le_refl _) o) h1
  have hs2 : ∀ o, (w.alloc o).cell? ⟨rb, 0, none⟩ = some (.pointer (some ⟨r, 0, none⟩)) := fun o => cell_later (Below.alloc (Below.refl _ _) (Nat.le_refl _) o) h2
  have hs3 : ∀ o, (w.alloc o).cell? ⟨r, 0, none⟩ = some v0 := fun o => cell_of_row _ r 0 _ _ _ (hA o)
  have hs4 : ∀ o, (w.alloc o).cell? ⟨r, 1, none⟩ = some (.int .i64 e0) := fun o => cell_of_row _ r 1 _ _ _ (hA o)
  have hs5 : ∀ o j, (w.alloc o).frozen? ⟨r, j, none⟩ = false := fun o j => by simp [World.frozen?, hA o]
  have hq1 : ∀ o u j, ((w.alloc o).setCell ⟨r, j, none⟩ u).cell? ⟨s, 0, none⟩ = some (.slice A sn sc) := fun o u j => (World.cell?_setCell_other _ _ _ _ (by intro e; injection e with e; exact hsr e.symm)).trans (hs1 o)
  have hq2 : ∀ o u j, ((w.alloc o).setCell ⟨r, j, none⟩ u).cell? ⟨rb, 0, none⟩ = some (.pointer (some ⟨r, 0, none⟩)) := fun o u j => (World.cell?_setCell_other _ _ _ _ (by intro e; injection e with e; exact hbr e.symm)).trans (hs2 o)
  have hq3 : ∀ x u j, ((w.alloc (.cells #[x] 121)).setCell ⟨r, j, none⟩ u).cell? ⟨w.heap.size, 0, none⟩ = some x := fun x u j => (World.cell?_setCell_other _ _ _ _ (by intro e; injection e with e; omega)).trans (cell_of_row _ _ 0 _ _ _ (heap_alloc_new w _))
  have hq4 : ∀ o u, ((w.alloc o).setCell ⟨r, 0, none⟩ u).cell? ⟨r, 1, none⟩ = some (.int .i64 e0) := fun o u => (World.cell?_setCell_other _ _ _ _ (by intro e; injection e with e1 e2; cases e2)).trans (hs4 o)
  have hq5 : ∀ o u, ((w.alloc o).setCell ⟨r, 1, none⟩ u).cell? ⟨r, 0, none⟩ = some v0 := fun o u => (World.cell?_setCell_other _ _ _ _ (by intro e; injection e with e1 e2; cases e2)).trans (hs3 o)
  have hq6 : ∀ o u j i, ((w.alloc o).setCell ⟨r, j, none⟩ u).frozen? ⟨r, i, none⟩ = false := fun o u j i => (World.frozen?_setCell _ _ _ _).trans (hs5 o i)
  have H3 := Lib.hid h3
  clear hA h3 h1 h2 hlt
  have hta := tassert
  refine callsD_of_wpS Try.func92 rfl fun c₀ cs hu => ?_
  apply wpS_seq
  apply wpS_region
  simp [wpOpsS, go_sem, recoverD, hu, Try.ntmps92, Exit.thenS]
  apply wpS_seq
  apply wpS_region
  simp [wpOpsS, go_sem, Exit.thenS]
  refine wpS_cond (t := true) (by simp [Act.eval, Array.replicate]) ?_
  simp only [if_true]
  refine wpS_of_wp ?_
  refine Code.wp_mono (Q := EndsAs (Caught w r (.slice A sn sc) k)) ?_ ?_
  · rintro e a w' ⟨rfl, hd, hc⟩
    exact ⟨hd, _, rfl, _, by simp [results, Try.results92], rfl, rfl, hc⟩
  · simp only [Array.replicate_succ, Array.replicate_zero, List.push_toArray, List.append_toArray, List.nil_append, List.cons_append, List.setIfInBounds_toArray, List.set]
    go_wp2
    go_region
    exact ⟨rfl, rfl, caught_of H3.out⟩

end Go.Proofs.Ytpfobbhoahnebaa

/-
  What the one generic reading function does, an instance and a step each: it answers as the step does, or leaves the reader where it was, with the error; behind an error it does nothing. Conditions: sizes within the reach.
-/
namespace Go.Proofs.Ytpfobbhoahnebaa
open Go.RowKit

/-- A step answers some value; what holds of it and of the world behind it. -/
def Ans (U : Value → World → Prop) (e : Ending) (w' : World) : Prop := ∃ u, e = .returned u ∧ U u w'

/-- The reader is where it was, and has the error. -/
def Fell (w : World) (r B : Nat) (v : Value) (k : Int) (xs : List UInt8) (w' : World) : Prop := Cu w' r B v k xs ∧ Turns (fun i => i = r) w w'

theorem fell_of {w w1 w2 w3 : World} {r B : Nat} {v v1 : Value} {k c : Int} {xs ys : List UInt8} (hc : Cu w r B v k xs) (hb : Below w.heap.size w w1)
    (_h1 : Cu w2 r B v1 k ys) (ht : Turns (fun i => i = r) w1 w2) (h : Caught w2 r v c w3) : Fell w r B v c xs w3 := by
  have ht1 : Turns (fun i => i = r) w w1 := Turns.of_below hb
  have ht3 : Turns (fun i => i = r) w w3 := (ht1.trans ht (fun _ _ h => h)).trans h.2 (fun _ _ h => h)
  refine ⟨⟨h.1, hc.2.1.keep fun b o hb' => ht3.cell (p := ⟨b, o, none⟩) ?_ ?_, hc.2.2⟩, ht3⟩
  · have := hc.lt
    have := hc.2.2
    show b < _
    omega
  · have := hc.2.2
    intro e
    simp only at e
    omega


set_option maxHeartbeats 400000 in
theorem late_u8 (r B : Nat) (v fv : Value) (k : Int) (xs : List UInt8) (w : World) (hk : (k != 0) = true) (hc : Cu w r B v k xs) :
    Calls Try.prog 75 #[.pointer (some ⟨r, 0, none⟩), fv] w (Ans (fun u w' => u = (.int .u8 0) ∧ Cu w' r B v k xs ∧ Below w.heap.size w w')) := by
  have hA : ∀ o, (w.alloc o).cell? ⟨r, 1, none⟩ = some (.int .i64 k) := fun o => (hc.alloc o).cell1
  go_enter_defers Try.func75, Try.ntmps75
  go_wp2
  refine ⟨_, results_tmp rfl _ _ _, ?_⟩
  exact ⟨_, rfl, rfl, hc.alloc _, (Below.refl _ _).alloc (Nat.le_refl _) _⟩

set_option maxHeartbeats 800000 in
theorem goes_u8_u8 (r B : Nat) (v : Value) (k : Int) (xs : List UInt8) (w : World) (hk : (k != 0) = false) (hc : Cu w r B v k xs) (U : Value → World → Prop)
    (hstep : ∀ w1, Below w.heap.size w w1 → Calls Try.prog 76 #[.pointer (some ⟨r, 0, none⟩)] w1 (Ans U)) :
    Calls Try.prog 75 #[.pointer (some ⟨r, 0, none⟩), .func (.func 76) #[] #[]] w (Ans U) := by
  obtain ⟨A, c, rfl⟩ := hc.2.1.form
  have hA1 : ∀ o, (w.alloc o).cell? ⟨r, 1, none⟩ = some (.int .i64 k) := fun o => (hc.alloc o).cell1
  have hA0 : ∀ o, (w.alloc o).cell? ⟨r, 0, none⟩ = some (.slice A xs.length c) := fun o => (hc.alloc o).cell
  have hmf : ∀ (fn : Fn) (first cap : Array Value) (w : World), (Instr.makeFunc fn first cap).run Try.prog w = .ok (.func fn first cap) w := fun _ _ _ _ => rfl
  have HS := Lib.hid hstep
  clear hstep
  go_enter_defers Try.func75, Try.ntmps75
  go_wp2_with fail
  refine (HS.out _ ?_).mono ?_
  · exact ((Below.refl _ _).alloc (Nat.le_refl _) _).alloc (by simp) _
  rintro e w2 ⟨u, rfl, hP⟩
  go_wp2
  refine leaves_cons (f := 90) (args := #[.pointer (some ⟨w.heap.size + 1, 0, none⟩), .pointer (some ⟨w.heap.size, 0, none⟩)]) (by simp) (by simp [go_sem]) ?_
  refine (idle_u8 _ _ _).mono ?_
  rintro e u' w'' ⟨rfl, rfl, rfl⟩
  refine ⟨_, results_tmp rfl _ _ _, ?_⟩
  exact ⟨u, rfl, hP⟩

set_option maxHeartbeats 800000 in
theorem falls_u8_u8 (r B : Nat) (v : Value) (k c : Int) (xs : List UInt8) (w : World) (hk : (k != 0) = false) (hc : Cu w r B v k xs)
    (hstep : ∀ w1, Below w.heap.size w w1 → Calls Try.prog 76 #[.pointer (some ⟨r, 0, none⟩)] w1 (Stops w1 r B k c)) :
    Calls Try.prog 75 #[.pointer (some ⟨r, 0, none⟩), .func (.func 76) #[] #[]] w (Ans (fun u w' => u = (.int .u8 0) ∧ Fell w r B v c xs w')) := by
  obtain ⟨A, sc, rfl⟩ := hc.2.1.form
  have hA1 : ∀ o, (w.alloc o).cell? ⟨r, 1, none⟩ = some (.int .i64 k) := fun o => (hc.alloc o).cell1
  have hA0 : ∀ o, (w.alloc o).cell? ⟨r, 0, none⟩ = some (.slice A xs.length sc) := fun o => (hc.alloc o).cell
  have hmf : ∀ (fn : Fn) (first cap : Array Value) (w : World), (Instr.makeFunc fn first cap).run Try.prog w = .ok (.func fn first cap) w := fun _ _ _ _ => rfl
  have HS := Lib.hid hstep
  clear hstep
  go_enter_defers Try.func75, Try.ntmps75
  go_wp2_with fail
  refine (HS.out _ ?_).mono ?_
  · exact ((Below.refl _ _).alloc (Nat.le_refl _) _).alloc (by simp) _
  rintro e w2 ⟨rfl, v1, ys, hc1, ht1⟩
  have hlt := hc.lt
  have g1 : w2.cell? ⟨w.heap.size + 1, 0, none⟩ = some (.slice A xs.length sc) := by
    rw [ht1.cell (p := ⟨w.heap.size + 1, 0, none⟩) (by simp) (by show ¬ w.heap.size + 1 = r; omega)]
    simp [go_sem]
  have g2 : w2.cell? ⟨w.heap.size, 0, none⟩ = some (.pointer (some ⟨r, 0, none⟩)) := by
    rw [ht1.cell (p := ⟨w.heap.size, 0, none⟩) (by simp; omega) (by show ¬ w.heap.size = r; omega)]
    simp [go_sem]
  have HF : ∀ w3, Caught w2 r (.slice A xs.length sc) c w3 → Fell w r B (.slice A xs.length sc) c xs w3 := fun w3 h3 => fell_of hc (((Below.refl _ _).alloc (Nat.le_refl _) _).alloc (by simp) _) hc1 ht1 h3
  have HH := Lib.hid HF
  clear HF ht1
  unfold flt
  go_wp2
  refine leaves_cons (f := 90) (args := #[.pointer (some ⟨w.heap.size + 1, 0, none⟩), .pointer (some ⟨w.heap.size, 0, none⟩)]) (by simp) (by simp [go_sem]) ?_
  refine (catch_u8 (w.heap.size + 1) w.heap.size r c [] w2 A xs.length sc _ k g1 g2 hc1.1 (by omega) (by omega)).mono ?_
  rintro e u' w3 ⟨rfl, rfl, hcau⟩
  refine ⟨_, results_tmp rfl _ _ _, ?_⟩
  exact ⟨_, rfl, rfl, HH.out w3 hcau⟩

set_option maxHeartbeats 400000 in
theorem late_u16 (r B : Nat) (v fv : Value) (k : Int) (xs : List UInt8) (w : World) (hk : (k != 0) = true) (hc : Cu w r B v k xs) :
    Calls Try.prog 94 #[.pointer (some ⟨r, 0, none⟩), fv] w (Ans (fun u w' => u = (.int .u16 0) ∧ Cu w' r B v k xs ∧ Below w.heap.size w w')) := by
  have hA : ∀ o, (w.alloc o).cell? ⟨r, 1, none⟩ = some (.int .i64 k) := fun o => (hc.alloc o).cell1
  go_enter_defers Try.func94, Try.ntmps94
  go_wp2
  refine ⟨_, results_tmp rfl _ _ _, ?_⟩
  exact ⟨_, rfl, rfl, hc.alloc _, (Below.refl _ _).alloc (Nat.le_refl _) _⟩

set_option maxHeartbeats 800000 in
theorem goes_u16_u16 (r B : Nat) (v : Value) (k : Int) (xs : List UInt8) (w : World) (hk : (k != 0) = false) (hc : Cu w r B v k xs) (U : Value → World → Prop)
    (hstep : ∀ w1, Below w.heap.size w w1 → Calls Try.prog 95 #[.pointer (some ⟨r, 0, none⟩)] w1 (Ans U)) :
    Calls Try.prog 94 #[.pointer (some ⟨r, 0, none⟩), .func (.func 95) #[] #[]] w (Ans U) := by
  obtain ⟨A, c, rfl⟩ := hc.2.1.form
  have hA1 : ∀ o, (w.alloc o).cell? ⟨r, 1, none⟩ = some (.int .i64 k) := fun o => (hc.alloc o).cell1
  have hA0 : ∀ o, (w.alloc o).cell? ⟨r, 0, none⟩ = some (.slice A xs.length c) := fun o => (hc.alloc o).cell
  have hmf : ∀ (fn : Fn) (first cap : Array Value) (w : World), (Instr.makeFunc fn first cap).run Try.prog w = .ok (.func fn first cap) w := fun _ _ _ _ => rfl
  have HS := Lib.hid hstep
  clear hstep
  go_enter_defers Try.func94, Try.ntmps94
  go_wp2_with fail
  refine (HS.out _ ?_).mono ?_
  · exact ((Below.refl _ _).alloc (Nat.le_refl _) _).alloc (by simp) _
  rintro e w2 ⟨u, rfl, hP⟩
  go_wp2
  refine leaves_cons (f := 99) (args := #[.pointer (some ⟨w.heap.size + 1, 0, none⟩), .pointer (some ⟨w.heap.size, 0, none⟩)]) (by simp) (by simp [go_sem]) ?_
  refine (idle_u16 _ _ _).mono ?_
  rintro e u' w'' ⟨rfl, rfl, rfl⟩
  refine ⟨_, results_tmp rfl _ _ _, ?_⟩
  exact ⟨u, rfl, hP⟩

set_option maxHeartbeats 800000 in
theorem falls_u16_u16 (r B : Nat) (v : Value) (k c : Int) (xs : List UInt8) (w : World) (hk : (k != 0) = false) (hc : Cu w r B v k xs)
    (hstep : ∀ w1, Below w.heap.size w w1 → Calls Try.prog 95 #[.pointer (some ⟨r, 0, none⟩)] w1 (Stops w1 r B k c)) :
    Calls Try.prog 94 #[.pointer (some ⟨r, 0, none⟩), .func (.func 95) #[] #[]] w (Ans (fun u w' => u = (.int .u16 0) ∧ Fell w r B v c xs w')) := by
  obtain ⟨A, sc, rfl⟩ := hc.2.1.form
  have hA1 : ∀ o, (w.alloc o).cell? ⟨r, 1, none⟩ = some (.int .i64 k) := fun o => (hc.alloc o).cell1
  have hA0 : ∀ o, (w.alloc o).cell? ⟨r, 0, none⟩ = some (.slice A xs.length sc) := fun o => (hc.alloc o).cell
  have hmf : ∀ (fn : Fn) (first cap : Array Value) (w : World), (Instr.makeFunc fn first cap).run Try.prog w = .ok (.func fn first cap) w := fun _ _ _ _ => rfl
  have HS := Lib.hid hstep
  clear hstep
  go_enter_defers Try.func94, Try.ntmps94
  go_wp2_with fail
  refine (HS.out _ ?_).mono ?_
  · exact ((Below.refl _ _).alloc (Nat.le_refl _) _).alloc (by simp) _
  rintro e w2 ⟨rfl, v1, ys, hc1, ht1⟩
  have hlt := hc.lt
  have g1 : w2.cell? ⟨w.heap.size + 1, 0, none⟩ = some (.slice A xs.length sc) := by
    rw [ht1.cell (p := ⟨w.heap.size + 1, 0, none⟩) (by simp) (by show ¬ w.heap.size + 1 = r; omega)]
    simp [go_sem]
  have g2 : w2.cell? ⟨w.heap.size, 0, none⟩ = some (.pointer (some ⟨r, 0, none⟩)) := by
    rw [ht1.cell (p := ⟨w.heap.size, 0, none⟩) (by simp; omega) (by show ¬ w.heap.size = r; omega)]
    simp [go_sem]
  have HF : ∀ w3, Caught w2 r (.slice A xs.length sc) c w3 → Fell w r B (.slice A xs.length sc) c xs w3 := fun w3 h3 => fell_of hc (((Below.refl _ _).alloc (Nat.le_refl _) _).alloc (by simp) _) hc1 ht1 h3
  have HH := Lib.hid HF
  clear HF ht1
  unfold flt
  go_wp2
  refine leaves_cons (f := 99) (args := #[.pointer (some ⟨w.heap.size + 1, 0, none⟩), .pointer (some ⟨w.heap.size, 0, none⟩)]) (by simp) (by simp [go_sem]) ?_
  refine (catch_u16 (w.heap.size + 1) w.heap.size r c [] w2 A xs.length sc _ k g1 g2 hc1.1 (by omega) (by omega)).mono ?_
  rintro e u' w3 ⟨rfl, rfl, hcau⟩
  refine ⟨_, results_tmp rfl _ _ _, ?_⟩
  exact ⟨_, rfl, rfl, HH.out w3 hcau⟩

set_option maxHeartbeats 400000 in
theorem late_u32 (r B : Nat) (v fv : Value) (k : Int) (xs : List UInt8) (w : World) (hk : (k != 0) = true) (hc : Cu w r B v k xs) :
    Calls Try.prog 96 #[.pointer (some ⟨r, 0, none⟩), fv] w (Ans (fun u w' => u = (.int .u32 0) ∧ Cu w' r B v k xs ∧ Below w.heap.size w w')) := by
  have hA : ∀ o, (w.alloc o).cell? ⟨r, 1, none⟩ = some (.int .i64 k) := fun o => (hc.alloc o).cell1
  go_enter_defers Try.func96, Try.ntmps96
  go_wp2
  refine ⟨_, results_tmp rfl _ _ _, ?_⟩
  exact ⟨_, rfl, rfl, hc.alloc _, (Below.refl _ _).alloc (Nat.le_refl _) _⟩

set_option maxHeartbeats 800000 in
theorem goes_u32_u32 (r B : Nat) (v : Value) (k : Int) (xs : List UInt8) (w : World) (hk : (k != 0) = false) (hc : Cu w r B v k xs) (U : Value → World → Prop)
    (hstep : ∀ w1, Below w.heap.size w w1 → Calls Try.prog 97 #[.pointer (some ⟨r, 0, none⟩)] w1 (Ans U)) :
    Calls Try.prog 96 #[.pointer (some ⟨r, 0, none⟩), .func (.func 97) #[] #[]] w (Ans U) := by
  obtain ⟨A, c, rfl⟩ := hc.2.1.form
  have hA1 : ∀ o, (w.alloc o).cell? ⟨r, 1, none⟩ = some (.int .i64 k) := fun o => (hc.alloc o).cell1
  have hA0 : ∀ o, (w.alloc o).cell? ⟨r, 0, none⟩ = some (.slice A xs.length c) := fun o => (hc.alloc o).cell
  have hmf : ∀ (fn : Fn) (first cap : Array Value) (w : World), (Instr.makeFunc fn first cap).run Try.prog w = .ok (.func fn first cap) w := fun _ _ _ _ => rfl
  have HS := Lib.hid hstep
  clear hstep
  go_enter_defers Try.func96, Try.ntmps96
  go_wp2_with fail
  refine (HS.out _ ?_).mono ?_
  · exact ((Below.refl _ _).alloc (Nat.le_refl _) _).alloc (by simp) _
  rintro e w2 ⟨u, rfl, hP⟩
  go_wp2
  refine leaves_cons (f := 100) (args := #[.pointer (some ⟨w.heap.size + 1, 0, none⟩), .pointer (some ⟨w.heap.size, 0, none⟩)]) (by simp) (by simp [go_sem]) ?_
  refine (idle_u32 _ _ _).mono ?_
  rintro e u' w'' ⟨rfl, rfl, rfl⟩
  refine ⟨_, results_tmp rfl _ _ _, ?_⟩
  exact ⟨u, rfl, hP⟩

set_option maxHeartbeats 800000 in
theorem falls_u32_u32 (r B : Nat) (v : Value) (k c : Int) (xs : List UInt8) (w : World) (hk : (k != 0) = false) (hc : Cu w r B v k xs)
    (hstep : ∀ w1, Below w.heap.size w w1 → Calls Try.prog 97 #[.pointer (some ⟨r, 0, none⟩)] w1 (Stops w1 r B k c)) :
    Calls Try.prog 96 #[.pointer (some ⟨r, 0, none⟩), .func (.func 97) #[] #[]] w (Ans (fun u w' => u = (.int .u32 0) ∧ Fell w r B v c xs w')) := by
  obtain ⟨A, sc, rfl⟩ := hc.2.1.form
  have hA1 : ∀ o, (w.alloc o).cell? ⟨r, 1, none⟩ = some (.int .i64 k) := fun o => (hc.alloc o).cell1
  have hA0 : ∀ o, (w.alloc o).cell? ⟨r, 0, none⟩ = some (.slice A xs.length sc) := fun o => (hc.alloc o).cell
  have hmf : ∀ (fn : Fn) (first cap : Array Value) (w : World), (Instr.makeFunc fn first cap).run Try.prog w = .ok (.func fn first cap) w := fun _ _ _ _ => rfl
  have HS := Lib.hid hstep
  clear hstep
  go_enter_defers Try.func96, Try.ntmps96
  go_wp2_with fail
  refine (HS.out _ ?_).mono ?_
  · exact ((Below.refl _ _).alloc (Nat.le_refl _) _).alloc (by simp) _
  rintro e w2 ⟨rfl, v1, ys, hc1, ht1⟩
  have hlt := hc.lt
  have g1 : w2.cell? ⟨w.heap.size + 1, 0, none⟩ = some (.slice A xs.length sc) := by
    rw [ht1.cell (p := ⟨w.heap.size + 1, 0, none⟩) (by simp) (by show ¬ w.heap.size + 1 = r; omega)]
    simp [go_sem]
  have g2 : w2.cell? ⟨w.heap.size, 0, none⟩ = some (.pointer (some ⟨r, 0, none⟩)) := by
    rw [ht1.cell (p := ⟨w.heap.size, 0, none⟩) (by simp; omega) (by show ¬ w.heap.size = r; omega)]
    simp [go_sem]
  have HF : ∀ w3, Caught w2 r (.slice A xs.length sc) c w3 → Fell w r B (.slice A xs.length sc) c xs w3 := fun w3 h3 => fell_of hc (((Below.refl _ _).alloc (Nat.le_refl _) _).alloc (by simp) _) hc1 ht1 h3
  have HH := Lib.hid HF
  clear HF ht1
  unfold flt
  go_wp2
  refine leaves_cons (f := 100) (args := #[.pointer (some ⟨w.heap.size + 1, 0, none⟩), .pointer (some ⟨w.heap.size, 0, none⟩)]) (by simp) (by simp [go_sem]) ?_
  refine (catch_u32 (w.heap.size + 1) w.heap.size r c [] w2 A xs.length sc _ k g1 g2 hc1.1 (by omega) (by omega)).mono ?_
  rintro e u' w3 ⟨rfl, rfl, hcau⟩
  refine ⟨_, results_tmp rfl _ _ _, ?_⟩
  exact ⟨_, rfl, rfl, HH.out w3 hcau⟩

set_option maxHeartbeats 400000 in
theorem late_list (r B : Nat) (v fv : Value) (k : Int) (xs : List UInt8) (w : World) (hk : (k != 0) = true) (hc : Cu w r B v k xs) :
    Calls Try.prog 77 #[.pointer (some ⟨r, 0, none⟩), fv] w (Ans (fun u w' => u = (.slice none 0 0) ∧ Cu w' r B v k xs ∧ Below w.heap.size w w')) := by
  have hA : ∀ o, (w.alloc o).cell? ⟨r, 1, none⟩ = some (.int .i64 k) := fun o => (hc.alloc o).cell1
  go_enter_defers Try.func77, Try.ntmps77
  go_wp2
  refine ⟨_, results_tmp rfl _ _ _, ?_⟩
  exact ⟨_, rfl, rfl, hc.alloc _, (Below.refl _ _).alloc (Nat.le_refl _) _⟩

set_option maxHeartbeats 800000 in
theorem goes_list_raw (r B : Nat) (v q : Value) (k : Int) (xs : List UInt8) (w : World) (hk : (k != 0) = false) (hc : Cu w r B v k xs) (U : Value → World → Prop)
    (hstep : ∀ w1, Below w.heap.size w w1 → Calls Try.prog 78 #[.pointer (some ⟨r, 0, none⟩), q] w1 (Ans U)) :
    Calls Try.prog 77 #[.pointer (some ⟨r, 0, none⟩), .func (.func 78) #[] #[q]] w (Ans U) := by
  obtain ⟨A, c, rfl⟩ := hc.2.1.form
  have hA1 : ∀ o, (w.alloc o).cell? ⟨r, 1, none⟩ = some (.int .i64 k) := fun o => (hc.alloc o).cell1
  have hA0 : ∀ o, (w.alloc o).cell? ⟨r, 0, none⟩ = some (.slice A xs.length c) := fun o => (hc.alloc o).cell
  have hmf : ∀ (fn : Fn) (first cap : Array Value) (w : World), (Instr.makeFunc fn first cap).run Try.prog w = .ok (.func fn first cap) w := fun _ _ _ _ => rfl
  have HS := Lib.hid hstep
  clear hstep
  go_enter_defers Try.func77, Try.ntmps77
  go_wp2_with fail
  refine (HS.out _ ?_).mono ?_
  · exact ((Below.refl _ _).alloc (Nat.le_refl _) _).alloc (by simp) _
  rintro e w2 ⟨u, rfl, hP⟩
  go_wp2
  refine leaves_cons (f := 92) (args := #[.pointer (some ⟨w.heap.size + 1, 0, none⟩), .pointer (some ⟨w.heap.size, 0, none⟩)]) (by simp) (by simp [go_sem]) ?_
  refine (idle_list _ _ _).mono ?_
  rintro e u' w'' ⟨rfl, rfl, rfl⟩
  refine ⟨_, results_tmp rfl _ _ _, ?_⟩
  exact ⟨u, rfl, hP⟩

set_option maxHeartbeats 800000 in
theorem falls_list_raw (r B : Nat) (v q : Value) (k c : Int) (xs : List UInt8) (w : World) (hk : (k != 0) = false) (hc : Cu w r B v k xs)
    (hstep : ∀ w1, Below w.heap.size w w1 → Calls Try.prog 78 #[.pointer (some ⟨r, 0, none⟩), q] w1 (Stops w1 r B k c)) :
    Calls Try.prog 77 #[.pointer (some ⟨r, 0, none⟩), .func (.func 78) #[] #[q]] w (Ans (fun u w' => u = (.slice none 0 0) ∧ Fell w r B v c xs w')) := by
  obtain ⟨A, sc, rfl⟩ := hc.2.1.form
  have hA1 : ∀ o, (w.alloc o).cell? ⟨r, 1, none⟩ = some (.int .i64 k) := fun o => (hc.alloc o).cell1
  have hA0 : ∀ o, (w.alloc o).cell? ⟨r, 0, none⟩ = some (.slice A xs.length sc) := fun o => (hc.alloc o).cell
  have hmf : ∀ (fn : Fn) (first cap : Array Value) (w : World), (Instr.makeFunc fn first cap).run Try.prog w = .ok (.func fn first cap) w := fun _ _ _ _ => rfl
  have HS := Lib.hid hstep
  clear hstep
  go_enter_defers Try.func77, Try.ntmps77
  go_wp2_with fail
  refine (HS.out _ ?_).mono ?_
  · exact ((Below.refl _ _).alloc (Nat.le_refl _) _).alloc (by simp) _
  rintro e w2 ⟨rfl, v1, ys, hc1, ht1⟩
  have hlt := hc.lt
  have g1 : w2.cell? ⟨w.heap.size + 1, 0, none⟩ = some (.slice A xs.length sc) := by
    rw [ht1.cell (p := ⟨w.heap.size + 1, 0, none⟩) (by simp) (by show ¬ w.heap.size + 1 = r; omega)]
    simp [go_sem]
  have g2 : w2.cell? ⟨w.heap.size, 0, none⟩ = some (.pointer (some ⟨r, 0, none⟩)) := by
    rw [ht1.cell (p := ⟨w.heap.size, 0, none⟩) (by simp; omega) (by show ¬ w.heap.size = r; omega)]
    simp [go_sem]
  have HF : ∀ w3, Caught w2 r (.slice A xs.length sc) c w3 → Fell w r B (.slice A xs.length sc) c xs w3 := fun w3 h3 => fell_of hc (((Below.refl _ _).alloc (Nat.le_refl _) _).alloc (by simp) _) hc1 ht1 h3
  have HH := Lib.hid HF
  clear HF ht1
  unfold flt
  go_wp2
  refine leaves_cons (f := 92) (args := #[.pointer (some ⟨w.heap.size + 1, 0, none⟩), .pointer (some ⟨w.heap.size, 0, none⟩)]) (by simp) (by simp [go_sem]) ?_
  refine (catch_list (w.heap.size + 1) w.heap.size r c [] w2 A xs.length sc _ k g1 g2 hc1.1 (by omega) (by omega)).mono ?_
  rintro e u' w3 ⟨rfl, rfl, hcau⟩
  refine ⟨_, results_tmp rfl _ _ _, ?_⟩
  exact ⟨_, rfl, rfl, HH.out w3 hcau⟩

end Go.Proofs.Ytpfobbhoahnebaa

/-
  What the steps that read lists do (a copy comes back). Conditions: sizes within the reach.
-/
namespace Go.Proofs.Ytpfobbhoahnebaa
open Go.RowKit

/-- Bytes are taken: a slice of the reader's own memory. -/
def Takes (w : World) (r B : Nat) (k : Int) (zs ys : List UInt8) (e : Ending) (w' : World) : Prop :=
  ∃ A c, Goes w r B k (.slice A zs.length c) ys e w' ∧ Byt w' B (.slice A zs.length c) zs

/-- A list: a size, and so many bytes, but not more than most. -/
def listP (most : Int) (xs : List UInt8) : Except Int (List UInt8 × List UInt8) :=
  match sizeP xs with
  | .error c => .error c
  | .ok (n, ys) => if n > most then .error 2 else if ys.length < n then .error 4 else .ok (ys.take n.toNat, ys.drop n.toNat)

theorem sizeP_bd {xs ys : List UInt8} {n : Int} (h : sizeP xs = .ok (n, ys)) : 0 ≤ n ∧ n ≤ 33554432 := by
  unfold sizeP at h
  split at h
  · cases h
  split at h
  · have := val_take_lt xs 1
    cases h
    omega
  split at h
  · cases h
  split at h
  · cases h
  split at h
  · cases h
  · have := (val_bd ((xs.drop 1).take (wd (val (xs.take 1))))).1
    cases h
    omega

/-- A copy of bytes comes back, in new memory; the reader moves on. -/
def Copied (w : World) (r B : Nat) (k : Int) (zs ys : List UInt8) (u : Value) (w' : World) : Prop :=
  ∃ A c, u = .slice A zs.length c ∧ w'.ownsRow w.heap.size 5 1 (.slice A zs.length c) zs.length (zs.map bv) ∧ ∃ v', Cu w' r B v' k ys ∧ Turns (fun i => i = r) w w'

theorem copied_of {w w1 w2 : World} {r B : Nat} {k : Int} {zs ys : List UInt8} {v' : Value} {A : Option Addr} {c : Nat} (hc : Cu w1 r B v' k ys) (ht : Turns (fun i => i = r) w w1)
    (hown : w2.ownsRow w1.heap.size 5 1 (.slice A zs.length c) zs.length (zs.map bv)) (hb : Below w1.heap.size w1 w2) : Copied w r B k zs ys (.slice A zs.length c) w2 := by
  refine ⟨A, c, rfl, ⟨hown.1, ?_⟩, v', hc.below hb, ht.trans (Turns.of_below (S := fun i => i = r) hb) (fun _ _ h => h)⟩
  rcases hown.2 with h | ⟨g, cap, cur, hv, hg, rr⟩
  · exact .inl h
  · exact .inr ⟨g, cap, cur, hv, Nat.le_trans ht.size hg, rr⟩

theorem Copied.pre {w w1 w2 : World} {r B : Nat} {k : Int} {zs ys : List UInt8} {u : Value} (hb : Below w.heap.size w w1) (h : Copied w1 r B k zs ys u w2) : Copied w r B k zs ys u w2 := by
  obtain ⟨A, c, he, hown, v', hc, ht⟩ := h
  refine ⟨A, c, he, ⟨hown.1, ?_⟩, v', hc, (Turns.of_below (S := fun i => i = r) hb).trans ht (fun _ _ h => h)⟩
  rcases hown.2 with h | ⟨g, cap, cur, hv, hg, rr⟩
  · exact .inl h
  · exact .inr ⟨g, cap, cur, hv, Nat.le_trans hb.size hg, rr⟩

theorem takes_ok (r B : Nat) (v : Value) (k n : Int) (xs : List UInt8) (w : World) (h0 : 0 ≤ n) (h1 : n ≤ xs.length) (hc : Cu w r B v k xs) :
    Calls Try.prog 79 #[.pointer (some ⟨r, 0, none⟩), .int .i64 n] w (Takes w r B k (xs.take n.toNat) (xs.drop n.toNat)) :=
  (take_ok r B v k n xs w h0 h1 hc).mono fun e w' ⟨A, c, hg, hb⟩ => by
    have hl : (xs.take n.toNat).length = n.toNat := by rw [List.length_take]; omega
    refine ⟨A, c, ?_, ?_⟩
    · rw [hl]; exact hg
    · rw [hl]; exact hb

set_option maxHeartbeats 800000 in
theorem raw1_ok (r B q : Nat) (v : Value) (k n : Int) (xs : List UInt8) (w : World) (hq : w.cell? ⟨q, 0, none⟩ = some (.int .i64 n)) (h2 : n ≤ xs.length) (hx : xs.length ≤ 60000000) (hc : Cu w r B v k xs) :
    Calls Try.prog 78 #[.pointer (some ⟨r, 0, none⟩), .pointer (some ⟨q, 0, none⟩)] w fun e w' => ∃ u, e = .returned u ∧ Copied w r B k (xs.take n.toNat) (xs.drop n.toNat) u w' := by
  have hlen : (xs.take n.toNat).length ≤ 60000000 := by rw [List.length_take]; omega
  by_cases h0 : 0 ≤ n
  · have hl := takes_ok r B v k n xs w h0 h2 hc
    obtain ⟨zs, hzs⟩ : ∃ zs, zs = xs.take n.toNat := ⟨_, rfl⟩
    obtain ⟨ds, hds⟩ : ∃ ds, ds = xs.drop n.toNat := ⟨_, rfl⟩
    rw [← hzs] at hlen
    rw [← hzs, ← hds] at hl ⊢
    clear hzs hds
    have HS := Lib.hid hl
    clear hl
    go_enter Try.func78, Try.ntmps78
    go_wp2_with fail
    refine HS.out.mono ?_
    rintro e w1 ⟨A, c, ⟨rfl, v1, hc1, ht1⟩, hby⟩
    go_wp2_with fail
    refine (clone_any B _ zs w1 hby (by omega)).mono ?_
    rintro e w2 ⟨A2, c2, rfl, hown, hb2⟩
    go_wp2
    go_ret
    exact ⟨_, rfl, copied_of hc1 ht1 hown hb2⟩
  · have hl := takes_ok r B v k 0 xs w (by omega) (by omega) hc
    have hn : n.toNat = 0 := by omega
    have hn0 : (0 : Int).toNat = n.toNat := by omega
    rw [hn0] at hl
    obtain ⟨zs, hzs⟩ : ∃ zs, zs = xs.take n.toNat := ⟨_, rfl⟩
    obtain ⟨ds, hds⟩ : ∃ ds, ds = xs.drop n.toNat := ⟨_, rfl⟩
    rw [← hzs] at hlen
    rw [← hzs, ← hds] at hl ⊢
    clear hzs hds hn hn0
    have hneg : n < 0 := by omega
    have HS := Lib.hid hl
    clear hl
    go_enter Try.func78, Try.ntmps78
    go_wp2_with fail
    refine HS.out.mono ?_
    rintro e w1 ⟨A, c, ⟨rfl, v1, hc1, ht1⟩, hby⟩
    go_wp2_with fail
    refine (clone_any B _ zs w1 hby (by omega)).mono ?_
    rintro e w2 ⟨A2, c2, rfl, hown, hb2⟩
    go_wp2
    go_ret
    exact ⟨_, rfl, copied_of hc1 ht1 hown hb2⟩

set_option maxHeartbeats 800000 in
theorem raw1_end (r B q : Nat) (v : Value) (k n : Int) (xs : List UInt8) (w : World) (hq : w.cell? ⟨q, 0, none⟩ = some (.int .i64 n)) (h2 : xs.length < n) (hc : Cu w r B v k xs) :
    Calls Try.prog 78 #[.pointer (some ⟨r, 0, none⟩), .pointer (some ⟨q, 0, none⟩)] w (Stops w r B k 4) := by
  have h0 : 0 ≤ n := by omega
  go_enter Try.func78, Try.ntmps78
  go_wp2_with fail
  refine (take_end r B v k n xs w h2 hc).mono ?_
  rintro e w1 ⟨rfl, hst⟩
  go_wp2
  exact ⟨rfl, rfl, hst⟩

end Go.Proofs.Ytpfobbhoahnebaa

/-
  What the reader's methods do. Conditions: sizes within the reach.
-/
namespace Go.Proofs.Ytpfobbhoahnebaa
open Go.RowKit

/-- A method answers u; the reader has the error k and the bytes ys left; nothing else has turned. -/
def Did (w : World) (r B : Nat) (u : Value) (k : Int) (ys : List UInt8) (e : Ending) (w' : World) : Prop :=
  e = .returned u ∧ ∃ v', Cu w' r B v' k ys ∧ Turns (fun i => i = r) w w'

/-- What reading a number of n bytes answers, the error behind it, the bytes left. -/
def numR (n : Nat) (k : Int) (xs : List UInt8) : Int × Int × List UInt8 :=
  if k ≠ 0 then (0, k, xs) else if xs.length < n then (0, 4, xs) else (val (xs.take n), 0, xs.drop n)
def sizeR (k : Int) (xs : List UInt8) : Int × Int × List UInt8 :=
  if k ≠ 0 then (0, k, xs) else match sizeP xs with | .error c => (0, c, xs) | .ok (n, ys) => (n, 0, ys)

theorem goes_did {w w1 : World} {r B : Nat} {k : Int} {u : Value} {ys : List UInt8} (hb : Below w.heap.size w w1) (e : Ending) (w2 : World) (h : Goes w1 r B k u ys e w2) :
    Ans (fun u' w' => u' = u ∧ ∃ v', Cu w' r B v' k ys ∧ Turns (fun i => i = r) w w') e w2 := by
  obtain ⟨he, v', hc, ht⟩ := h
  exact ⟨u, he, rfl, v', hc, (Turns.of_below (S := fun i => i = r) hb).trans ht (fun _ _ h => h)⟩
theorem ans_did {w w' : World} {r B : Nat} {k : Int} {u : Value} {ys : List UInt8} {e : Ending} (h : Ans (fun u' w' => u' = u ∧ ∃ v', Cu w' r B v' k ys ∧ Turns (fun i => i = r) w w') e w') : Did w r B u k ys e w' := by
  obtain ⟨u', he, rfl, hh⟩ := h
  exact ⟨he, hh⟩
theorem fell_did {w w' : World} {r B : Nat} {v : Value} {k : Int} {u : Value} {ys : List UInt8} {e : Ending} (h : Ans (fun u' w' => u' = u ∧ Fell w r B v k ys w') e w') : Did w r B u k ys e w' := by
  obtain ⟨u', he, rfl, hc, ht⟩ := h
  exact ⟨he, v, hc, ht⟩
theorem late_did {w w' : World} {r B : Nat} {v : Value} {k : Int} {u : Value} {ys : List UInt8} {e : Ending} (h : Ans (fun u' w' => u' = u ∧ Cu w' r B v k ys ∧ Below w.heap.size w w') e w') : Did w r B u k ys e w' := by
  obtain ⟨u', he, rfl, hc, hb⟩ := h
  exact ⟨he, v, hc, Turns.of_below hb⟩

theorem read_u8 (r B : Nat) (v : Value) (k : Int) (xs : List UInt8) (w : World) (hc : Cu w r B v k xs) :
    Calls Try.prog 75 #[.pointer (some ⟨r, 0, none⟩), .func (.func 76) #[] #[]] w (Did w r B (.int .u8 (numR 1 k xs).1) (numR 1 k xs).2.1 (numR 1 k xs).2.2) := by
  by_cases hk : k = 0
  · subst hk
    by_cases h : xs.length < 1
    · have hp : numR 1 0 xs = (0, 4, xs) := by unfold numR; rw [if_neg (by decide), if_pos h]
      rw [hp]
      exact (falls_u8_u8 r B v 0 4 xs w (by decide) hc fun w1 hb => (cu8_any r B v 0 xs w1 (hc.below hb)).mono fun e w2 hh => by unfold numP at hh; rw [if_pos h] at hh; exact hh).mono fun e w' hh => fell_did hh
    · have hp : numR 1 0 xs = (val (xs.take 1), 0, xs.drop 1) := by unfold numR; rw [if_neg (by decide), if_neg h]
      rw [hp]
      exact (goes_u8_u8 r B v 0 xs w (by decide) hc _ fun w1 hb => (cu8_any r B v 0 xs w1 (hc.below hb)).mono fun e w2 hh => by unfold numP at hh; rw [if_neg h] at hh; exact goes_did hb e w2 hh).mono fun e w' hh => ans_did hh
  · have hp : numR 1 k xs = (0, k, xs) := by unfold numR; rw [if_pos hk]
    rw [hp]
    exact (late_u8 r B v _ k xs w (by simpa using hk) hc).mono fun e w' hh => late_did hh

set_option maxHeartbeats 400000 in
theorem ru8_any (r B : Nat) (v : Value) (k : Int) (xs : List UInt8) (w : World) (hc : Cu w r B v k xs) :
    Calls Try.prog 43 #[.pointer (some ⟨r, 0, none⟩)] w (Did w r B (.int .u8 (numR 1 k xs).1) (numR 1 k xs).2.1 (numR 1 k xs).2.2) := by
  have h := read_u8 r B v k xs w hc
  obtain ⟨z, hz⟩ : ∃ z, z = (numR 1 k xs).1 := ⟨_, rfl⟩
  obtain ⟨k', hk'⟩ : ∃ k', k' = (numR 1 k xs).2.1 := ⟨_, rfl⟩
  obtain ⟨ys, hys⟩ : ∃ ys, ys = (numR 1 k xs).2.2 := ⟨_, rfl⟩
  rw [← hz, ← hk', ← hys] at h ⊢
  have HH := Lib.hid h
  clear h hz hk' hys
  go_enter Try.func43, Try.ntmps43
  go_wp2_with fail
  refine HH.out.mono ?_
  rintro e w1 ⟨rfl, hd⟩
  go_wp2
  go_ret
  exact ⟨rfl, hd⟩

theorem read_u16 (r B : Nat) (v : Value) (k : Int) (xs : List UInt8) (w : World) (hc : Cu w r B v k xs) :
    Calls Try.prog 94 #[.pointer (some ⟨r, 0, none⟩), .func (.func 95) #[] #[]] w (Did w r B (.int .u16 (numR 2 k xs).1) (numR 2 k xs).2.1 (numR 2 k xs).2.2) := by
  by_cases hk : k = 0
  · subst hk
    by_cases h : xs.length < 2
    · have hp : numR 2 0 xs = (0, 4, xs) := by unfold numR; rw [if_neg (by decide), if_pos h]
      rw [hp]
      exact (falls_u16_u16 r B v 0 4 xs w (by decide) hc fun w1 hb => (cu16_any r B v 0 xs w1 (hc.below hb)).mono fun e w2 hh => by unfold numP at hh; rw [if_pos h] at hh; exact hh).mono fun e w' hh => fell_did hh
    · have hp : numR 2 0 xs = (val (xs.take 2), 0, xs.drop 2) := by unfold numR; rw [if_neg (by decide), if_neg h]
      rw [hp]
      exact (goes_u16_u16 r B v 0 xs w (by decide) hc _ fun w1 hb => (cu16_any r B v 0 xs w1 (hc.below hb)).mono fun e w2 hh => by unfold numP at hh; rw [if_neg h] at hh; exact goes_did hb e w2 hh).mono fun e w' hh => ans_did hh
  · have hp : numR 2 k xs = (0, k, xs) := by unfold numR; rw [if_pos hk]
    rw [hp]
    exact (late_u16 r B v _ k xs w (by simpa using hk) hc).mono fun e w' hh => late_did hh

set_option maxHeartbeats 400000 in
theorem ru16_any (r B : Nat) (v : Value) (k : Int) (xs : List UInt8) (w : World) (hc : Cu w r B v k xs) :
    Calls Try.prog 80 #[.pointer (some ⟨r, 0, none⟩)] w (Did w r B (.int .u16 (numR 2 k xs).1) (numR 2 k xs).2.1 (numR 2 k xs).2.2) := by
  have h := read_u16 r B v k xs w hc
  obtain ⟨z, hz⟩ : ∃ z, z = (numR 2 k xs).1 := ⟨_, rfl⟩
  obtain ⟨k', hk'⟩ : ∃ k', k' = (numR 2 k xs).2.1 := ⟨_, rfl⟩
  obtain ⟨ys, hys⟩ : ∃ ys, ys = (numR 2 k xs).2.2 := ⟨_, rfl⟩
  rw [← hz, ← hk', ← hys] at h ⊢
  have HH := Lib.hid h
  clear h hz hk' hys
  go_enter Try.func80, Try.ntmps80
  go_wp2_with fail
  refine HH.out.mono ?_
  rintro e w1 ⟨rfl, hd⟩
  go_wp2
  go_ret
  exact ⟨rfl, hd⟩

theorem read_u32 (r B : Nat) (v : Value) (k : Int) (xs : List UInt8) (w : World) (hc : Cu w r B v k xs) :
    Calls Try.prog 96 #[.pointer (some ⟨r, 0, none⟩), .func (.func 97) #[] #[]] w (Did w r B (.int .u32 (numR 4 k xs).1) (numR 4 k xs).2.1 (numR 4 k xs).2.2) := by
  by_cases hk : k = 0
  · subst hk
    by_cases h : xs.length < 4
    · have hp : numR 4 0 xs = (0, 4, xs) := by unfold numR; rw [if_neg (by decide), if_pos h]
      rw [hp]
      exact (falls_u32_u32 r B v 0 4 xs w (by decide) hc fun w1 hb => (cu32_any r B v 0 xs w1 (hc.below hb)).mono fun e w2 hh => by unfold numP at hh; rw [if_pos h] at hh; exact hh).mono fun e w' hh => fell_did hh
    · have hp : numR 4 0 xs = (val (xs.take 4), 0, xs.drop 4) := by unfold numR; rw [if_neg (by decide), if_neg h]
      rw [hp]
      exact (goes_u32_u32 r B v 0 xs w (by decide) hc _ fun w1 hb => (cu32_any r B v 0 xs w1 (hc.below hb)).mono fun e w2 hh => by unfold numP at hh; rw [if_neg h] at hh; exact goes_did hb e w2 hh).mono fun e w' hh => ans_did hh
  · have hp : numR 4 k xs = (0, k, xs) := by unfold numR; rw [if_pos hk]
    rw [hp]
    exact (late_u32 r B v _ k xs w (by simpa using hk) hc).mono fun e w' hh => late_did hh

set_option maxHeartbeats 400000 in
theorem ru32_any (r B : Nat) (v : Value) (k : Int) (xs : List UInt8) (w : World) (hc : Cu w r B v k xs) :
    Calls Try.prog 81 #[.pointer (some ⟨r, 0, none⟩)] w (Did w r B (.int .u32 (numR 4 k xs).1) (numR 4 k xs).2.1 (numR 4 k xs).2.2) := by
  have h := read_u32 r B v k xs w hc
  obtain ⟨z, hz⟩ : ∃ z, z = (numR 4 k xs).1 := ⟨_, rfl⟩
  obtain ⟨k', hk'⟩ : ∃ k', k' = (numR 4 k xs).2.1 := ⟨_, rfl⟩
  obtain ⟨ys, hys⟩ : ∃ ys, ys = (numR 4 k xs).2.2 := ⟨_, rfl⟩
  rw [← hz, ← hk', ← hys] at h ⊢
  have HH := Lib.hid h
  clear h hz hk' hys
  go_enter Try.func81, Try.ntmps81
  go_wp2_with fail
  refine HH.out.mono ?_
  rintro e w1 ⟨rfl, hd⟩
  go_wp2
  go_ret
  exact ⟨rfl, hd⟩

/-- A method answers a copy of bytes in new memory. -/
def DidB (w : World) (r B : Nat) (k : Int) (zs ys : List UInt8) (e : Ending) (w' : World) : Prop := ∃ u, e = .returned u ∧ Copied w r B k zs ys u w'

theorem none_copied {w w' : World} {r B : Nat} {v : Value} {k : Int} {ys : List UInt8} (hc : Cu w' r B v k ys) (ht : Turns (fun i => i = r) w w') : Copied w r B k [] ys (.slice none 0 0) w' :=
  ⟨none, 0, rfl, World.ownsRow_nil _ _ _ _, v, hc, ht⟩

def rawR (n : Int) (k : Int) (xs : List UInt8) : List UInt8 × Int × List UInt8 :=
  if k ≠ 0 then ([], k, xs) else if xs.length < n then ([], 4, xs) else (xs.take n.toNat, 0, xs.drop n.toNat)
def listR (most : Int) (k : Int) (xs : List UInt8) : List UInt8 × Int × List UInt8 :=
  if k ≠ 0 then ([], k, xs) else match listP most xs with | .error c => ([], c, xs) | .ok (zs, ys) => (zs, 0, ys)

theorem read_raw (r B q : Nat) (v : Value) (k n : Int) (xs : List UInt8) (w : World) (hq : w.cell? ⟨q, 0, none⟩ = some (.int .i64 n)) (hx : xs.length ≤ 60000000) (hc : Cu w r B v k xs) :
    Calls Try.prog 77 #[.pointer (some ⟨r, 0, none⟩), .func (.func 78) #[] #[.pointer (some ⟨q, 0, none⟩)]] w (DidB w r B (rawR n k xs).2.1 (rawR n k xs).1 (rawR n k xs).2.2) := by
  by_cases hk : k = 0
  · subst hk
    by_cases h : (xs.length : Int) < n
    · have hp : rawR n 0 xs = ([], 4, xs) := by unfold rawR; rw [if_neg (by decide), if_pos h]
      rw [hp]
      exact (falls_list_raw r B v _ 0 4 xs w (by decide) hc fun w1 hb => raw1_end r B q v 0 n xs w1 (cell_later hb hq) h (hc.below hb)).mono fun e w' ⟨u, he, hu, hc', ht⟩ => ⟨u, he, hu ▸ none_copied hc' ht⟩
    · have hp : rawR n 0 xs = (xs.take n.toNat, 0, xs.drop n.toNat) := by unfold rawR; rw [if_neg (by decide), if_neg h]
      rw [hp]
      exact goes_list_raw r B v _ 0 xs w (by decide) hc _ fun w1 hb => (raw1_ok r B q v 0 n xs w1 (cell_later hb hq) (by omega) hx (hc.below hb)).mono fun e w2 ⟨u, he, hu⟩ => ⟨u, he, hu.pre hb⟩
  · have hp : rawR n k xs = ([], k, xs) := by unfold rawR; rw [if_pos hk]
    rw [hp]
    exact (late_list r B v _ k xs w (by simpa using hk) hc).mono fun e w' ⟨u, he, hu, hc', hb⟩ => ⟨u, he, hu ▸ none_copied hc' (Turns.of_below hb)⟩

set_option maxHeartbeats 400000 in
theorem rraw_any (r B : Nat) (v : Value) (k n : Int) (xs : List UInt8) (w : World) (hx : xs.length ≤ 60000000) (hc : Cu w r B v k xs) :
    Calls Try.prog 44 #[.pointer (some ⟨r, 0, none⟩), .int .i64 n] w (DidB w r B (rawR n k xs).2.1 (rawR n k xs).1 (rawR n k xs).2.2) := by
  have hq : (w.alloc (.cells #[.int .i64 n] 3)).cell? ⟨w.heap.size, 0, none⟩ = some (.int .i64 n) := cell_of_row _ _ 0 _ _ _ (heap_alloc_new w _)
  have h := read_raw r B w.heap.size v k n xs _ hq hx (hc.alloc _)
  have hmf : ∀ (fn : Fn) (first cap : Array Value) (w : World), (Instr.makeFunc fn first cap).run Try.prog w = .ok (.func fn first cap) w := fun _ _ _ _ => rfl
  obtain ⟨z, hz⟩ : ∃ z, z = (rawR n k xs).1 := ⟨_, rfl⟩
  obtain ⟨k', hk'⟩ : ∃ k', k' = (rawR n k xs).2.1 := ⟨_, rfl⟩
  obtain ⟨ys, hys⟩ : ∃ ys, ys = (rawR n k xs).2.2 := ⟨_, rfl⟩
  rw [← hz, ← hk', ← hys] at h ⊢
  have HH := Lib.hid h
  clear h hz hk' hys hq
  go_enter Try.func44, Try.ntmps44
  go_wp2_with fail
  refine HH.out.mono ?_
  rintro e w1 ⟨u, rfl, hd⟩
  go_wp2
  go_ret
  exact ⟨u, rfl, hd.pre ((Below.refl _ _).alloc (Nat.le_refl _) _)⟩

set_option maxHeartbeats 400000 in
theorem rerr_any (r B : Nat) (v : Value) (k : Int) (xs : List UInt8) (w : World) (hc : Cu w r B v k xs) :
    Calls Try.prog 46 #[.pointer (some ⟨r, 0, none⟩)] w fun e w' => e = .returned (.int .i64 k) ∧ w = w' := by
  have h1 := hc.cell1
  go_enter Try.func46, Try.ntmps46
  go_wp2
  go_ret
  exact ⟨rfl, rfl⟩

set_option maxHeartbeats 400000 in
theorem rleft_any (r B : Nat) (v : Value) (k : Int) (xs : List UInt8) (w : World) (hc : Cu w r B v k xs) :
    Calls Try.prog 42 #[.pointer (some ⟨r, 0, none⟩)] w fun e w' => e = .returned (.int .i64 xs.length) ∧ w = w' := by
  obtain ⟨A, c, rfl⟩ := hc.2.1.form
  have h1 := hc.cell
  go_enter Try.func42, Try.ntmps42
  go_wp2
  go_ret
  exact ⟨rfl, rfl⟩

/-- What closing answers. -/
def closeR (k : Int) (xs : List UInt8) : Int := if k = 0 ∧ 0 < xs.length then 3 else k

/-- A new reader of a copy of these bytes. -/
def Opened (w : World) (xs : List UInt8) (e : Ending) (w' : World) : Prop :=
  ∃ r v, e = .returned (.pointer (some ⟨r, 0, none⟩)) ∧ Cu w' r r v 0 xs ∧ w.heap.size ≤ r ∧ Below w.heap.size w w'

set_option maxHeartbeats 400000 in
theorem open_any (B : Nat) (x : Value) (xs : List UInt8) (w : World) (hx : Byt w B x xs) (hl : xs.length ≤ 60000000) :
    Calls Try.prog 41 #[x] w (Opened w xs) := by
  go_enter Try.func41, Try.ntmps41
  go_wp2_with fail
  refine (clone_any B x xs w hx (by omega)).mono ?_
  rintro e w1 ⟨A1, c1, rfl, hown, hb1⟩
  go_wp2
  go_ret
  refine ⟨w1.heap.size, .slice A1 xs.length c1, rfl, ⟨heap_alloc_new w1 _, ?_, Nat.le_refl _⟩, hb1.size, hb1.alloc hb1.size _⟩
  exact (Byt.of_own hown).keep fun b o hb => World.cell?_alloc_lt w1 _ _ hb

end Go.Proofs.Ytpfobbhoahnebaa

/-
  Rows of bytes that may be written, and new ones of zeros. Conditions: sizes within the reach.
-/
namespace Go.Proofs.Ytpfobbhoahnebaa
open Go.RowKit

/-- Block g holds these bytes, and may be written. -/
def Row (w : World) (g : Nat) (xs : List UInt8) : Prop := w.heap[g]? = some (.cells (xs.map bv).toArray 5 (0, 0))

theorem Row.lt {w : World} {g : Nat} {xs : List UInt8} (h : Row w g xs) : g < w.heap.size := (Array.getElem?_eq_some_iff.1 h).1
theorem Row.cell {w : World} {g i : Nat} {xs : List UInt8} {c : UInt8} (h : Row w g xs) (hi : xs[i]? = some c) : w.cell? ⟨g, i, none⟩ = some (bv c) := by
  rw [cell_of_row w g i _ _ _ h]
  simp [hi]
theorem Row.free {w : World} {g : Nat} {xs : List UInt8} (h : Row w g xs) (i : Nat) : w.frozen? ⟨g, i, none⟩ = false := by
  unfold Row at h
  simp [World.frozen?, h]
theorem Row.set {w : World} {g i : Nat} {xs : List UInt8} (h : Row w g xs) (c : UInt8) : Row (w.setCell ⟨g, i, none⟩ (bv c)) g (xs.set i c) := by
  unfold Row at h ⊢
  simp [World.setCell, Array.getElem?_modify, h, List.map_set]
theorem Row.turns {S : Nat → Prop} {w w' : World} {g : Nat} {xs : List UInt8} (h : Row w g xs) (ht : Turns S w w') (hS : ¬ S g) : Row w' g xs := (ht.block g h.lt hS).trans h
theorem Row.byt {w : World} {g n c : Nat} {xs : List UInt8} (h : Row w g xs) (hn : n ≤ xs.length) (hc : n ≤ c) (hcm : c ≤ maxLen) : Byt w w.heap.size (.slice (some ⟨g, 0, none⟩) n c) (xs.take n) := by
  have hl : (xs.take n).length = n := by rw [List.length_take]; omega
  refine ⟨some ⟨g, 0, none⟩, c, by rw [hl], by omega, hcm, (by intro h; cases h), fun _ => ⟨g, 0, rfl, h.lt, fun j u hu => ?_⟩⟩
  rw [Nat.zero_add]
  refine h.cell ?_
  rw [List.getElem?_take] at hu
  split at hu
  · exact hu
  · cases hu

theorem set_next {xs zs : List UInt8} {i n : Nat} {c : UInt8} (hi : i < xs.length) (hc : xs[i]? = some c) (hz : zs = xs.take i ++ List.replicate (n - i) 0) (hn : n = xs.length) :
    zs.set i c = xs.take (i + 1) ++ List.replicate (n - (i + 1)) 0 := by
  subst hz
  have hl : (xs.take i).length = i := by rw [List.length_take]; omega
  rw [List.set_append_right _ _ (by omega), hl, Nat.sub_self]
  obtain ⟨m, hm⟩ : ∃ m, n - i = m + 1 := ⟨n - i - 1, by omega⟩
  rw [hm, List.replicate_succ, List.set_cons_zero, List.take_add_one, hc]
  have : n - (i + 1) = m := by omega
  rw [this]
  simp

/-- n zero bytes, as a block's cells. -/
def zeroRow (n : Nat) : Array Value := ((List.replicate n (0 : UInt8)).map bv).toArray

theorem made_zero (n : Nat) : madeCells (Value.int .u8 0).cells n = zeroRow n := by
  unfold zeroRow
  simp only [madeCells, Value.cells, List.map_replicate, bv]
  apply Array.ext
  · simp
  · intro i h1 h2
    simp [Nat.mod_one]

theorem make_bytes (W : World) (n : Nat) (q : Int) (hq : q = n) (hn : n ≤ 281474976710656) :
    (Instr.makeSlice 22 (.int .i64 q) (.int .i64 q)).run Try.prog W = .ok (.slice (some ⟨W.heap.size, 0, none⟩) n n) (W.alloc (.cells (zeroRow n) 5)) := by
  obtain ⟨i0, hi, hz0, hz1, hz2⟩ := info_parts info_u8
  subst hq
  rw [run_make (P := Try.prog) W 22 5 i0 (.int .u8 0) slice_u8 hi hz0 .i64 .i64 n n (by omega) (by omega) (by rw [hz2]; omega) (by omega), hz1]
  simp only [Int.toNat_natCast, Nat.mul_one]
  rw [made_zero]

theorem row_new (w : World) (n : Nat) : Row (w.alloc (.cells (zeroRow n) 5)) w.heap.size (List.replicate n 0) := heap_alloc_new w _


/-- Behind i rounds: the first i bytes are as they will be, the rest is zero. -/
def FillB (w : World) (g i : Nat) (bs : List UInt8) (wr : World) : Prop :=
  ∃ zs, zs = bs.take i ++ List.replicate (bs.length - i) 0 ∧ Row wr g zs ∧ Below w.heap.size w wr

theorem fillB_next {w w' : World} {g i : Nat} {bs zs : List UInt8} {c : UInt8} (hi : i < bs.length) (hc : bs[i]? = some c) (hz : zs = bs.take i ++ List.replicate (bs.length - i) 0)
    (hr : Row w' g (zs.set i c)) (hb' : Below w.heap.size w w') : FillB w g (i + 1) bs w' :=
  ⟨_, set_next hi hc hz rfl, hr, hb'⟩

theorem fillB_zero {bs zs : List UInt8} {i : Nat} (hi : i < bs.length) (hz : zs = bs.take i ++ List.replicate (bs.length - i) 0) : zs[i]? = some 0 := by
  subst hz
  have hl : (bs.take i).length = i := by rw [List.length_take]; omega
  rw [List.getElem?_append_right (by omega), hl, Nat.sub_self]
  obtain ⟨m, hm⟩ : ∃ m, bs.length - i = m + 1 := ⟨bs.length - i - 1, by omega⟩
  rw [hm, List.replicate_succ]
  rfl
theorem fillB_end {w wr : World} {g : Nat} {bs : List UInt8} (h : FillB w g bs.length bs wr) : Row wr g bs ∧ Below w.heap.size w wr := by
  obtain ⟨zs, hz, hr, hb⟩ := h
  rw [Nat.sub_self, List.replicate_zero, List.append_nil, List.take_length] at hz
  exact ⟨hz ▸ hr, hb⟩

end Go.Proofs.Ytpfobbhoahnebaa
