/-
  Texts joined: Size, Catch, Meth. Conditions: those of each.
-/
import Derived.Test.YtocblkacdoahfaaGreatDoorJ2
import Derived.Defers
import Derived.Recover
import Derived.BigRegion
/-
  What the reader's inner functions that read sizes and lists do. Conditions: sizes within the reach.
-/
namespace Go.Proofs.YtocblkacdoahfaaGreatDoor
open Go.RowKit Go.Maps

/-- Either way: it answers a value and leaves bytes, or it gives up with an error. -/
def Res (w : World) (r B : Nat) (k : Int) (f : Except Int (Value × List UInt8)) (e : Ending) (w' : World) : Prop :=
  match f with
  | .ok (u, ys) => Goes w r B k u ys e w'
  | .error c => Stops w r B k c e w'

/-- A number of n bytes. -/
def numP (q : IntKind) (n : Nat) (xs : List UInt8) : Except Int (Value × List UInt8) :=
  if xs.length < n then .error 4 else .ok (.int q (val (xs.take n)), xs.drop n)

theorem val_take_lt (xs : List UInt8) (n : Nat) : 0 ≤ val (xs.take n) ∧ val (xs.take n) < 256 ^ n := by
  have h := val_bd (xs.take n)
  refine ⟨h.1, ?_⟩
  have h1 : (xs.take n).length ≤ n := List.length_take_le _ _
  have h2 : (256 : Nat) ^ (xs.take n).length ≤ 256 ^ n := Nat.pow_le_pow_right (by decide) h1
  have h3 : ((256 ^ (xs.take n).length : Nat) : Int) = (256 : Int) ^ (xs.take n).length := Int.natCast_pow _ _
  have h4 : ((256 ^ n : Nat) : Int) = (256 : Int) ^ n := Int.natCast_pow _ _
  omega

set_option maxRecDepth 100000 in
set_option maxHeartbeats 400000 in
theorem cu8_any (r B : Nat) (v : Value) (k : Int) (xs : List UInt8) (w : World) (hc : Cu w r B v k xs) :
    Calls Tryz.prog 92 #[.pointer (some ⟨r, 0, none⟩)] w (Res w r B k (numP .u8 1 xs)) := by
  by_cases h : xs.length < 1
  · have hp : numP .u8 1 xs = .error 4 := by unfold numP; rw [if_pos h]
    rw [hp]
    go_enter Tryz.func92, Tryz.ntmps92
    go_wp2_with fail
    refine (number_end r B v k _ xs w (by omega) hc).mono ?_
    rintro e w1 ⟨rfl, hst⟩
    go_wp2
    exact ⟨rfl, rfl, hst⟩
  · have hp : numP .u8 1 xs = .ok (.int .u8 (val (xs.take 1)), xs.drop 1) := by unfold numP; rw [if_neg h]
    rw [hp]
    have hbd := val_take_lt xs 1
    obtain ⟨z, hz⟩ : ∃ z, z = val (xs.take 1) := ⟨_, rfl⟩
    rw [← hz]
    have hz0 : 0 ≤ z := by omega
    have hz1 : z < 256 := by omega
    have HZ := Lib.hid hz
    clear hz hbd
    go_enter Tryz.func92, Tryz.ntmps92
    go_wp2_with fail
    refine (number_num r B v k _ 1 rfl xs w (by omega) (by omega) (by omega) hc).mono ?_
    rw [← HZ.out]
    rintro e w1 ⟨rfl, hst⟩
    go_wp2
    go_ret
    exact ⟨rfl, hst⟩

set_option maxRecDepth 100000 in
set_option maxHeartbeats 400000 in
theorem cu16_any (r B : Nat) (v : Value) (k : Int) (xs : List UInt8) (w : World) (hc : Cu w r B v k xs) :
    Calls Tryz.prog 121 #[.pointer (some ⟨r, 0, none⟩)] w (Res w r B k (numP .u16 2 xs)) := by
  by_cases h : xs.length < 2
  · have hp : numP .u16 2 xs = .error 4 := by unfold numP; rw [if_pos h]
    rw [hp]
    go_enter Tryz.func121, Tryz.ntmps121
    go_wp2_with fail
    refine (number_end r B v k _ xs w (by omega) hc).mono ?_
    rintro e w1 ⟨rfl, hst⟩
    go_wp2
    exact ⟨rfl, rfl, hst⟩
  · have hp : numP .u16 2 xs = .ok (.int .u16 (val (xs.take 2)), xs.drop 2) := by unfold numP; rw [if_neg h]
    rw [hp]
    have hbd := val_take_lt xs 2
    obtain ⟨z, hz⟩ : ∃ z, z = val (xs.take 2) := ⟨_, rfl⟩
    rw [← hz]
    have hz0 : 0 ≤ z := by omega
    have hz1 : z < 65536 := by omega
    have HZ := Lib.hid hz
    clear hz hbd
    go_enter Tryz.func121, Tryz.ntmps121
    go_wp2_with fail
    refine (number_num r B v k _ 2 rfl xs w (by omega) (by omega) (by omega) hc).mono ?_
    rw [← HZ.out]
    rintro e w1 ⟨rfl, hst⟩
    go_wp2
    go_ret
    exact ⟨rfl, hst⟩

set_option maxRecDepth 100000 in
set_option maxHeartbeats 400000 in
theorem cu32_any (r B : Nat) (v : Value) (k : Int) (xs : List UInt8) (w : World) (hc : Cu w r B v k xs) :
    Calls Tryz.prog 123 #[.pointer (some ⟨r, 0, none⟩)] w (Res w r B k (numP .u32 4 xs)) := by
  by_cases h : xs.length < 4
  · have hp : numP .u32 4 xs = .error 4 := by unfold numP; rw [if_pos h]
    rw [hp]
    go_enter Tryz.func123, Tryz.ntmps123
    go_wp2_with fail
    refine (number_end r B v k _ xs w (by omega) hc).mono ?_
    rintro e w1 ⟨rfl, hst⟩
    go_wp2
    exact ⟨rfl, rfl, hst⟩
  · have hp : numP .u32 4 xs = .ok (.int .u32 (val (xs.take 4)), xs.drop 4) := by unfold numP; rw [if_neg h]
    rw [hp]
    have hbd := val_take_lt xs 4
    obtain ⟨z, hz⟩ : ∃ z, z = val (xs.take 4) := ⟨_, rfl⟩
    rw [← hz]
    have hz0 : 0 ≤ z := by omega
    have hz1 : z < 4294967296 := by omega
    have HZ := Lib.hid hz
    clear hz hbd
    go_enter Tryz.func123, Tryz.ntmps123
    go_wp2_with fail
    refine (number_num r B v k _ 4 rfl xs w (by omega) (by omega) (by omega) hc).mono ?_
    rw [← HZ.out]
    rintro e w1 ⟨rfl, hst⟩
    go_wp2
    go_ret
    exact ⟨rfl, hst⟩

/-! The map of marks. -/
theorem key8 : Keyed Tryz.prog 5 := int_keyed Tryz.underlying5
theorem zero_int (w : World) : (zeroValue 3).run Tryz.prog w = .ok (.int .i64 0) w := by kernel_rfl
def marksD : DataW Unit := (((DataW.map []).put (.int .u8 253) (.lit (.int .i64 2))).put (.int .u8 254) (.lit (.int .i64 4))).put (.int .u8 255) (.lit (.int .i64 8))

/-- How many bytes follow the byte that begins a longer size. -/
def wd (f : Int) : Nat := if f = 253 then 2 else if f = 254 then 4 else 8

theorem marks_at {f c : Int} (h : f = 253 ∨ f = 254 ∨ f = 255) (hat : marksD.atKey (.int .u8 f) (.lit (.int .i64 0)) = .lit (.int .i64 c)) : c = wd f := by
  have e2 : marksD.atKey (.int .u8 253) (.lit (.int .i64 0)) = .lit (.int .i64 2) := by rfl
  have e4 : marksD.atKey (.int .u8 254) (.lit (.int .i64 0)) = .lit (.int .i64 4) := by rfl
  have e8 : marksD.atKey (.int .u8 255) (.lit (.int .i64 0)) = .lit (.int .i64 8) := by rfl
  rcases h with rfl | rfl | rfl
  · rw [e2] at hat; cases hat; rfl
  · rw [e4] at hat; cases hat; rfl
  · rw [e8] at hat; cases hat; rfl

/-- A compact size. -/
def sizeP (xs : List UInt8) : Except Int (Int × List UInt8) :=
  if xs.length < 1 then .error 4 else
  if val (xs.take 1) < 253 then .ok (val (xs.take 1), xs.drop 1) else
  if (xs.drop 1).length < wd (val (xs.take 1)) then .error 4 else
  if sizeLen (val ((xs.drop 1).take (wd (val (xs.take 1))))) ≠ 1 + wd (val (xs.take 1)) then .error 3 else
  if val ((xs.drop 1).take (wd (val (xs.take 1)))) > 33554432 then .error 2 else
  .ok (val ((xs.drop 1).take (wd (val (xs.take 1)))), (xs.drop 1).drop (wd (val (xs.take 1))))

def sizeV (xs : List UInt8) : Except Int (Value × List UInt8) :=
  match sizeP xs with
  | .ok (n, ys) => .ok (.int .u64 n, ys)
  | .error c => .error c


theorem cu8_ok (r B : Nat) (v : Value) (k : Int) (xs : List UInt8) (w : World) (h : ¬ xs.length < 1) (hc : Cu w r B v k xs) :
    Calls Tryz.prog 92 #[.pointer (some ⟨r, 0, none⟩)] w (Goes w r B k (.int .u8 (val (xs.take 1))) (xs.drop 1)) :=
  (cu8_any r B v k xs w hc).mono fun _ _ hh => by unfold numP at hh; rw [if_neg h] at hh; exact hh
theorem cu8_end (r B : Nat) (v : Value) (k : Int) (xs : List UInt8) (w : World) (h : xs.length < 1) (hc : Cu w r B v k xs) :
    Calls Tryz.prog 92 #[.pointer (some ⟨r, 0, none⟩)] w (Stops w r B k 4) :=
  (cu8_any r B v k xs w hc).mono fun _ _ hh => by unfold numP at hh; rw [if_pos h] at hh; exact hh

/-- The longer sizes, behind the first byte. -/
def tailP (n : Nat) (ys : List UInt8) : Except Int (Value × List UInt8) :=
  if ys.length < n then .error 4 else
  if sizeLen (val (ys.take n)) ≠ 1 + n then .error 3 else
  if val (ys.take n) > 33554432 then .error 2 else .ok (.int .u64 (val (ys.take n)), ys.drop n)

theorem sizeLen_bd (n : Int) : 1 ≤ sizeLen n ∧ sizeLen n ≤ 9 := by
  unfold sizeLen
  split
  · omega
  split
  · omega
  split <;> omega

theorem wd_bd (z : Int) : 0 < wd z ∧ wd z ≤ 8 := by
  unfold wd
  split
  · omega
  split <;> omega


theorem sizeV_long {xs : List UInt8} (h : ¬ xs.length < 1) (hlt : ¬ val (xs.take 1) < 253) : sizeV xs = tailP (wd (val (xs.take 1))) (xs.drop 1) := by
  unfold sizeV sizeP tailP
  rw [if_neg h, if_neg hlt]
  by_cases c1 : (xs.drop 1).length < wd (val (xs.take 1))
  · rw [if_pos c1, if_pos c1]
  rw [if_neg c1, if_neg c1]
  by_cases c2 : sizeLen (val ((xs.drop 1).take (wd (val (xs.take 1))))) ≠ 1 + wd (val (xs.take 1))
  · rw [if_pos c2, if_pos c2]
  rw [if_neg c2, if_neg c2]
  by_cases c3 : val ((xs.drop 1).take (wd (val (xs.take 1)))) > 33554432
  · rw [if_pos c3, if_pos c3]
  · rw [if_neg c3, if_neg c3]

end Go.Proofs.YtocblkacdoahfaaGreatDoor

/-
  What the reader's steps that fail leave: the deferred function, and the one generic function that every reading goes through. Conditions: sizes within the reach.
-/
namespace Go.Proofs.YtocblkacdoahfaaGreatDoor
open Go.RowKit

def EndsAs (W : World → Prop) (e : Exit) (a : Act) (w' : World) : Prop := e = .normal ∧ a.defers = [] ∧ W w'

theorem tassert (x : Value) (w : World) : (Instr.typeAssert (.iface 181 x) 20 181 true).run Tryz.prog w = .ok (.tuple #[x, .bool true]) w := by kernel_rfl

/-- What the deferred function leaves behind a failure: the reader is where it was, and has the error. -/
def Caught (w : World) (r : Nat) (v : Value) (k : Int) (w' : World) : Prop :=
  w'.heap[r]? = some (.cells #[v, .int .i64 k] 147 (0, 0)) ∧ Turns (fun i => i = r) w w'

theorem caught_of {w : World} {r : Nat} {v v0 : Value} {k e0 : Int} {o : Obj} (h : w.heap[r]? = some (.cells #[v0, .int .i64 e0] 147 (0, 0))) :
    Caught w r v k (((w.alloc o).setCell ⟨r, 0, none⟩ v).setCell ⟨r, 1, none⟩ (.int .i64 k)).drew := by
  have hlt : r < w.heap.size := (Array.getElem?_eq_some_iff.1 h).1
  have h1 : (w.alloc o).heap[r]? = some (.cells #[v0, .int .i64 e0] 147 (0, 0)) := (Below.heap_alloc _ _ _ hlt).trans h
  refine ⟨?_, ((((Turns.refl (fun i => i = r) w).alloc o).setCell (p := ⟨r, 0, none⟩) (fun _ => rfl) v).setCell (p := ⟨r, 1, none⟩) (fun _ => rfl) _).drew⟩
  show (((w.alloc o).setCell ⟨r, 0, none⟩ v).setCell ⟨r, 1, none⟩ (.int .i64 k)).heap[r]? = _
  simp [World.setCell, Array.getElem?_modify, h1]

theorem idle_u8 (s rb : Addr) (w : World) :
    CallsD Tryz.prog 116 #[.pointer (some s), .pointer (some rb)] .returning w fun e u' w' => e = .returned (.tuple #[]) ∧ u' = .returning ∧ w = w' := by
  refine callsD_of_wpS Tryz.func116 rfl fun c₀ cs hu => ?_
  apply wpS_seq
  apply wpS_region
  simp [wpOpsS, go_sem, recoverD, hu, Tryz.ntmps116, Exit.thenS]
  apply wpS_seq
  apply wpS_region
  simp [wpOpsS, go_sem, Exit.thenS]
  refine wpS_cond (t := false) (by simp [Act.eval, Array.replicate]) ?_
  simp only [Bool.false_eq_true, if_false]
  refine wpS_of_wp (wp_skip ?_)
  cases c₀
  simp_all [bodyPostS, results, Tryz.results116]

set_option maxRecDepth 100000 in
set_option maxHeartbeats 800000 in
theorem catch_u8 (s rb r : Nat) (k : Int) (older : List PanicEntry) (w : World) (A : Option Addr) (sn sc : Nat) (v0 : Value) (e0 : Int)
    (h1 : w.cell? ⟨s, 0, none⟩ = some (.slice A sn sc)) (h2 : w.cell? ⟨rb, 0, none⟩ = some (.pointer (some ⟨r, 0, none⟩))) (h3 : w.heap[r]? = some (.cells #[v0, .int .i64 e0] 147 (0, 0))) (hsr : s ≠ r) (hbr : rb ≠ r) :
    CallsD Tryz.prog 116 #[.pointer (some ⟨s, 0, none⟩), .pointer (some ⟨rb, 0, none⟩)] (.panicking ({ v := .iface 181 (.agg #[.int .i64 k]), recovered := false } :: older)) w fun e u' w' =>
      e = .returned (.tuple #[]) ∧ u' = .panicking ({ v := .iface 181 (.agg #[.int .i64 k]), recovered := true } :: older) ∧ Caught w r (.slice A sn sc) k w' := by
  have hlt : r < w.heap.size := (Array.getElem?_eq_some_iff.1 h3).1
  have hA : ∀ o, (w.alloc o).heap[r]? = some (.cells #[v0, .int .i64 e0] 147 (0, 0)) := fun o => (Below.heap_alloc _ _ _ hlt).trans h3
  have hs1 : ∀ o, (w.alloc o).cell? ⟨s, 0, none⟩ = some (.slice A sn sc) := fun o => cell_later (Below.alloc (Below.refl _ _) (Nat.le_refl _) o) h1
  have hs2 : ∀ o, (w.alloc o).cell? ⟨rb, 0, none⟩ = some (.pointer (some ⟨r, 0, none⟩)) := fun o => cell_later (Below.alloc (Below.refl _ _) (Nat.le_refl _) o) h2
  have hs3 : ∀ o, (w.alloc o).cell? ⟨r, 0, none⟩ = some v0 := fun o => cell_of_row _ r 0 _ _ _ (hA o)
  have hs4 : ∀ o, (w.alloc o).cell? ⟨r, 1, none⟩ = some (.int .i64 e0) := fun o => cell_of_row _ r 1 _ _ _ (hA o)
  have hs5 : ∀ o j, (w.alloc o).frozen? ⟨r, j, none⟩ = false := fun o j => by simp [World.frozen?, hA o]
  have hq1 : ∀ o u j, ((w.alloc o).setCell ⟨r, j, none⟩ u).cell? ⟨s, 0, none⟩ = some (.slice A sn sc) := fun o u j => (World.cell?_setCell_other _ _ _ _ (by intro e; injection e with e; exact hsr e.symm)).trans (hs1 o)
  have hq2 : ∀ o u j, ((w.alloc o).setCell ⟨r, j, none⟩ u).cell? ⟨rb, 0, none⟩ = some (.pointer (some ⟨r, 0, none⟩)) := fun o u j => (World.cell?_setCell_other _ _ _ _ (by intro e; injection e with e; exact hbr e.symm)).trans (hs2 o)
  have hq3 : ∀ x u j, ((w.alloc (.cells #[x] 181)).setCell ⟨r, j, none⟩ u).cell? ⟨w.heap.size, 0, none⟩ = some x := fun x u j => (World.cell?_setCell_other _ _ _ _ (by intro e; injection e with e; omega)).trans (cell_of_row _ _ 0 _ _ _ (heap_alloc_new w _))
  have hq4 : ∀ o u, ((w.alloc o).setCell ⟨r, 0, none⟩ u).cell? ⟨r, 1, none⟩ = some (.int .i64 e0) := fun o u => (World.cell?_setCell_other _ _ _ _ (by intro e; injection e with e1 e2; cases e2)).trans (hs4 o)
  have hq5 : ∀ o u, ((w.alloc o).setCell ⟨r, 1, none⟩ u).cell? ⟨r, 0, none⟩ = some v0 := fun o u => (World.cell?_setCell_other _ _ _ _ (by intro e; injection e with e1 e2; cases e2)).trans (hs3 o)
  have hq6 : ∀ o u j i, ((w.alloc o).setCell ⟨r, j, none⟩ u).frozen? ⟨r, i, none⟩ = false := fun o u j i => (World.frozen?_setCell _ _ _ _).trans (hs5 o i)
  have H3 := Lib.hid h3
  clear hA h3 h1 h2 hlt
  have hta := tassert
  refine callsD_of_wpS Tryz.func116 rfl fun c₀ cs hu => ?_
  apply wpS_seq
  apply wpS_region
  simp [wpOpsS, go_sem, recoverD, hu, Tryz.ntmps116, Exit.thenS]
  apply wpS_seq
  apply wpS_region
  simp [wpOpsS, go_sem, Exit.thenS]
  refine wpS_cond (t := true) (by simp [Act.eval, Array.replicate]) ?_
  simp only [if_true]
  refine wpS_of_wp ?_
  refine Code.wp_mono (Q := EndsAs (Caught w r (.slice A sn sc) k)) ?_ ?_
  · rintro e a w' ⟨rfl, hd, hc⟩
    exact ⟨hd, _, rfl, _, by simp [results, Tryz.results116], rfl, rfl, hc⟩
  · simp only [Array.replicate_succ, Array.replicate_zero, List.push_toArray, List.append_toArray, List.nil_append, List.cons_append, List.setIfInBounds_toArray, List.set]
    go_wp2
    go_region
    exact ⟨rfl, rfl, caught_of H3.out⟩

theorem idle_u16 (s rb : Addr) (w : World) :
    CallsD Tryz.prog 134 #[.pointer (some s), .pointer (some rb)] .returning w fun e u' w' => e = .returned (.tuple #[]) ∧ u' = .returning ∧ w = w' := by
  refine callsD_of_wpS Tryz.func134 rfl fun c₀ cs hu => ?_
  apply wpS_seq
  apply wpS_region
  simp [wpOpsS, go_sem, recoverD, hu, Tryz.ntmps134, Exit.thenS]
  apply wpS_seq
  apply wpS_region
  simp [wpOpsS, go_sem, Exit.thenS]
  refine wpS_cond (t := false) (by simp [Act.eval, Array.replicate]) ?_
  simp only [Bool.false_eq_true, if_false]
  refine wpS_of_wp (wp_skip ?_)
  cases c₀
  simp_all [bodyPostS, results, Tryz.results134]

set_option maxRecDepth 100000 in
set_option maxHeartbeats 800000 in
theorem catch_u16 (s rb r : Nat) (k : Int) (older : List PanicEntry) (w : World) (A : Option Addr) (sn sc : Nat) (v0 : Value) (e0 : Int)
    (h1 : w.cell? ⟨s, 0, none⟩ = some (.slice A sn sc)) (h2 : w.cell? ⟨rb, 0, none⟩ = some (.pointer (some ⟨r, 0, none⟩))) (h3 : w.heap[r]? = some (.cells #[v0, .int .i64 e0] 147 (0, 0))) (hsr : s ≠ r) (hbr : rb ≠ r) :
    CallsD Tryz.prog 134 #[.pointer (some ⟨s, 0, none⟩), .pointer (some ⟨rb, 0, none⟩)] (.panicking ({ v := .iface 181 (.agg #[.int .i64 k]), recovered := false } :: older)) w fun e u' w' =>
      e = .returned (.tuple #[]) ∧ u' = .panicking ({ v := .iface 181 (.agg #[.int .i64 k]), recovered := true } :: older) ∧ Caught w r (.slice A sn sc) k w' := by
  have hlt : r < w.heap.size := (Array.getElem?_eq_some_iff.1 h3).1
  have hA : ∀ o, (w.alloc o).heap[r]? = some (.cells #[v0, .int .i64 e0] 147 (0, 0)) := fun o => (Below.heap_alloc _ _ _ hlt).trans h3
  have hs1 : ∀ o, (w.alloc o).cell? ⟨s, 0, none⟩ = some (.slice A sn sc) := fun o => cell_later (Below.alloc (Below.refl _ _) (Nat.le_refl _) o) h1
  have hs2 : ∀ o, (w.alloc o).cell? ⟨rb, 0, none⟩ = some (.pointer (some ⟨r, 0, none⟩)) := fun o => cell_later (Below.alloc (Below.refl _ _) (Nat.le_refl _) o) h2
  have hs3 : ∀ o, (w.alloc o).cell? ⟨r, 0, none⟩ = some v0 := fun o => cell_of_row _ r 0 _ _ _ (hA o)
  have hs4 : ∀ o, (w.alloc o).cell? ⟨r, 1, none⟩ = some (.int .i64 e0) := fun o => cell_of_row _ r 1 _ _ _ (hA o)
  have hs5 : ∀ o j, (w.alloc o).frozen? ⟨r, j, none⟩ = false := fun o j => by simp [World.frozen?, hA o]
  have hq1 : ∀ o u j, ((w.alloc o).setCell ⟨r, j, none⟩ u).cell? ⟨s, 0, none⟩ = some (.slice A sn sc) := fun o u j => (World.cell?_setCell_other _ _ _ _ (by intro e; injection e with e; exact hsr e.symm)).trans (hs1 o)
  have hq2 : ∀ o u j, ((w.alloc o).setCell ⟨r, j, none⟩ u).cell? ⟨rb, 0, none⟩ = some (.pointer (some ⟨r, 0, none⟩)) := fun o u j => (World.cell?_setCell_other _ _ _ _ (by intro e; injection e with e; exact hbr e.symm)).trans (hs2 o)
  have hq3 : ∀ x u j, ((w.alloc (.cells #[x] 181)).setCell ⟨r, j, none⟩ u).cell? ⟨w.heap.size, 0, none⟩ = some x := fun x u j => (World.cell?_setCell_other _ _ _ _ (by intro e; injection e with e; omega)).trans (cell_of_row _ _ 0 _ _ _ (heap_alloc_new w _))
  have hq4 : ∀ o u, ((w.alloc o).setCell ⟨r, 0, none⟩ u).cell? ⟨r, 1, none⟩ = some (.int .i64 e0) := fun o u => (World.cell?_setCell_other _ _ _ _ (by intro e; injection e with e1 e2; cases e2)).trans (hs4 o)
  have hq5 : ∀ o u, ((w.alloc o).setCell ⟨r, 1, none⟩ u).cell? ⟨r, 0, none⟩ = some v0 := fun o u => (World.cell?_setCell_other _ _ _ _ (by intro e; injection e with e1 e2; cases e2)).trans (hs3 o)
  have hq6 : ∀ o u j i, ((w.alloc o).setCell ⟨r, j, none⟩ u).frozen? ⟨r, i, none⟩ = false := fun o u j i => (World.frozen?_setCell _ _ _ _).trans (hs5 o i)
  have H3 := Lib.hid h3
  clear hA h3 h1 h2 hlt
  have hta := tassert
  refine callsD_of_wpS Tryz.func134 rfl fun c₀ cs hu => ?_
  apply wpS_seq
  apply wpS_region
  simp [wpOpsS, go_sem, recoverD, hu, Tryz.ntmps134, Exit.thenS]
  apply wpS_seq
  apply wpS_region
  simp [wpOpsS, go_sem, Exit.thenS]
  refine wpS_cond (t := true) (by simp [Act.eval, Array.replicate]) ?_
  simp only [if_true]
  refine wpS_of_wp ?_
  refine Code.wp_mono (Q := EndsAs (Caught w r (.slice A sn sc) k)) ?_ ?_
  · rintro e a w' ⟨rfl, hd, hc⟩
    exact ⟨hd, _, rfl, _, by simp [results, Tryz.results134], rfl, rfl, hc⟩
  · simp only [Array.replicate_succ, Array.replicate_zero, List.push_toArray, List.append_toArray, List.nil_append, List.cons_append, List.setIfInBounds_toArray, List.set]
    go_wp2
    go_region
    exact ⟨rfl, rfl, caught_of H3.out⟩

theorem idle_u32 (s rb : Addr) (w : World) :
    CallsD Tryz.prog 135 #[.pointer (some s), .pointer (some rb)] .returning w fun e u' w' => e = .returned (.tuple #[]) ∧ u' = .returning ∧ w = w' := by
  refine callsD_of_wpS Tryz.func135 rfl fun c₀ cs hu => ?_
  apply wpS_seq
  apply wpS_region
  simp [wpOpsS, go_sem, recoverD, hu, Tryz.ntmps135, Exit.thenS]
  apply wpS_seq
  apply wpS_region
  simp [wpOpsS, go_sem, Exit.thenS]
  refine wpS_cond (t := false) (by simp [Act.eval, Array.replicate]) ?_
  simp only [Bool.false_eq_true, if_false]
  refine wpS_of_wp (wp_skip ?_)
  cases c₀
  simp_all [bodyPostS, results, Tryz.results135]

set_option maxRecDepth 100000 in
set_option maxHeartbeats 800000 in
theorem catch_u32 (s rb r : Nat) (k : Int) (older : List PanicEntry) (w : World) (A : Option Addr) (sn sc : Nat) (v0 : Value) (e0 : Int)
    (h1 : w.cell? ⟨s, 0, none⟩ = some (.slice A sn sc)) (h2 : w.cell? ⟨rb, 0, none⟩ = some (.pointer (some ⟨r, 0, none⟩))) (h3 : w.heap[r]? = some (.cells #[v0, .int .i64 e0] 147 (0, 0))) (hsr : s ≠ r) (hbr : rb ≠ r) :
    CallsD Tryz.prog 135 #[.pointer (some ⟨s, 0, none⟩), .pointer (some ⟨rb, 0, none⟩)] (.panicking ({ v := .iface 181 (.agg #[.int .i64 k]), recovered := false } :: older)) w fun e u' w' =>
      e = .returned (.tuple #[]) ∧ u' = .panicking ({ v := .iface 181 (.agg #[.int .i64 k]), recovered := true } :: older) ∧ Caught w r (.slice A sn sc) k w' := by
  have hlt : r < w.heap.size := (Array.getElem?_eq_some_iff.1 h3).1
  have hA : ∀ o, (w.alloc o).heap[r]? = some (.cells #[v0, .int .i64 e0] 147 (0, 0)) := fun o => (Below.heap_alloc _ _ _ hlt).trans h3
  have hs1 : ∀ o, (w.alloc o).cell? ⟨s, 0, none⟩ = some (.slice A sn sc) := fun o => cell_later (Below.alloc (Below.refl _ _) (Nat.le_refl _) o) h1
  have hs2 : ∀ o, (w.alloc o).cell? ⟨rb, 0, none⟩ = some (.pointer (some ⟨r, 0, none⟩)) := fun o => cell_later (Below.alloc (Below.refl _ _) (Nat.le_refl _) o) h2
  have hs3 : ∀ o, (w.alloc o).cell? ⟨r, 0, none⟩ = some v0 := fun o => cell_of_row _ r 0 _ _ _ (hA o)
  have hs4 : ∀ o, (w.alloc o).cell? ⟨r, 1, none⟩ = some (.int .i64 e0) := fun o => cell_of_row _ r 1 _ _ _ (hA o)
  have hs5 : ∀ o j, (w.alloc o).frozen? ⟨r, j, none⟩ = false := fun o j => by simp [World.frozen?, hA o]
  have hq1 : ∀ o u j, ((w.alloc o).setCell ⟨r, j, none⟩ u).cell? ⟨s, 0, none⟩ = some (.slice A sn sc) := fun o u j => (World.cell?_setCell_other _ _ _ _ (by intro e; injection e with e; exact hsr e.symm)).trans (hs1 o)
  have hq2 : ∀ o u j, ((w.alloc o).setCell ⟨r, j, none⟩ u).cell? ⟨rb, 0, none⟩ = some (.pointer (some ⟨r, 0, none⟩)) := fun o u j => (World.cell?_setCell_other _ _ _ _ (by intro e; injection e with e; exact hbr e.symm)).trans (hs2 o)
  have hq3 : ∀ x u j, ((w.alloc (.cells #[x] 181)).setCell ⟨r, j, none⟩ u).cell? ⟨w.heap.size, 0, none⟩ = some x := fun x u j => (World.cell?_setCell_other _ _ _ _ (by intro e; injection e with e; omega)).trans (cell_of_row _ _ 0 _ _ _ (heap_alloc_new w _))
  have hq4 : ∀ o u, ((w.alloc o).setCell ⟨r, 0, none⟩ u).cell? ⟨r, 1, none⟩ = some (.int .i64 e0) := fun o u => (World.cell?_setCell_other _ _ _ _ (by intro e; injection e with e1 e2; cases e2)).trans (hs4 o)
  have hq5 : ∀ o u, ((w.alloc o).setCell ⟨r, 1, none⟩ u).cell? ⟨r, 0, none⟩ = some v0 := fun o u => (World.cell?_setCell_other _ _ _ _ (by intro e; injection e with e1 e2; cases e2)).trans (hs3 o)
  have hq6 : ∀ o u j i, ((w.alloc o).setCell ⟨r, j, none⟩ u).frozen? ⟨r, i, none⟩ = false := fun o u j i => (World.frozen?_setCell _ _ _ _).trans (hs5 o i)
  have H3 := Lib.hid h3
  clear hA h3 h1 h2 hlt
  have hta := tassert
  refine callsD_of_wpS Tryz.func135 rfl fun c₀ cs hu => ?_
  apply wpS_seq
  apply wpS_region
  simp [wpOpsS, go_sem, recoverD, hu, Tryz.ntmps135, Exit.thenS]
  apply wpS_seq
  apply wpS_region
  simp [wpOpsS, go_sem, Exit.thenS]
  refine wpS_cond (t := true) (by simp [Act.eval, Array.replicate]) ?_
  simp only [if_true]
  refine wpS_of_wp ?_
  refine Code.wp_mono (Q := EndsAs (Caught w r (.slice A sn sc) k)) ?_ ?_
  · rintro e a w' ⟨rfl, hd, hc⟩
    exact ⟨hd, _, rfl, _, by simp [results, Tryz.results135], rfl, rfl, hc⟩
  · simp only [Array.replicate_succ, Array.replicate_zero, List.push_toArray, List.append_toArray, List.nil_append, List.cons_append, List.setIfInBounds_toArray, List.set]
    go_wp2
    go_region
    exact ⟨rfl, rfl, caught_of H3.out⟩

theorem idle_list (s rb : Addr) (w : World) :
    CallsD Tryz.prog 118 #[.pointer (some s), .pointer (some rb)] .returning w fun e u' w' => e = .returned (.tuple #[]) ∧ u' = .returning ∧ w = w' := by
  refine callsD_of_wpS Tryz.func118 rfl fun c₀ cs hu => ?_
  apply wpS_seq
  apply wpS_region
  simp [wpOpsS, go_sem, recoverD, hu, Tryz.ntmps118, Exit.thenS]
  apply wpS_seq
  apply wpS_region
  simp [wpOpsS, go_sem, Exit.thenS]
  refine wpS_cond (t := false) (by simp [Act.eval, Array.replicate]) ?_
  simp only [Bool.false_eq_true, if_false]
  refine wpS_of_wp (wp_skip ?_)
  cases c₀
  simp_all [bodyPostS, results, Tryz.results118]

set_option maxRecDepth 100000 in
set_option maxHeartbeats 800000 in
theorem catch_list (s rb r : Nat) (k : Int) (older : List PanicEntry) (w : World) (A : Option Addr) (sn sc : Nat) (v0 : Value) (e0 : Int)
    (h1 : w.cell? ⟨s, 0, none⟩ = some (.slice A sn sc)) (h2 : w.cell? ⟨rb, 0, none⟩ = some (.pointer (some ⟨r, 0, none⟩))) (h3 : w.heap[r]? = some (.cells #[v0, .int .i64 e0] 147 (0, 0))) (hsr : s ≠ r) (hbr : rb ≠ r) :
    CallsD Tryz.prog 118 #[.pointer (some ⟨s, 0, none⟩), .pointer (some ⟨rb, 0, none⟩)] (.panicking ({ v := .iface 181 (.agg #[.int .i64 k]), recovered := false } :: older)) w fun e u' w' =>
      e = .returned (.tuple #[]) ∧ u' = .panicking ({ v := .iface 181 (.agg #[.int .i64 k]), recovered := true } :: older) ∧ Caught w r (.slice A sn sc) k w' := by
  have hlt : r < w.heap.size := (Array.getElem?_eq_some_iff.1 h3).1
  have hA : ∀ o, (w.alloc o).heap[r]? = some (.cells #[v0, .int .i64 e0] 147 (0, 0)) := fun o => (Below.heap_alloc _ _ _ hlt).trans h3
  have hs1 : ∀ o, (w.alloc o).cell? ⟨s, 0, none⟩ = some (.slice A sn sc) := fun o => cell_later (Below.alloc (Below.refl _ _) (Nat.le_refl _) o) h1
  have hs2 : ∀ o, (w.alloc o).cell? ⟨rb, 0, none⟩ = some (.pointer (some ⟨r, 0, none⟩)) := fun o => cell_later (Below.alloc (Below.refl _ _) (Nat.le_refl _) o) h2
  have hs3 : ∀ o, (w.alloc o).cell? ⟨r, 0, none⟩ = some v0 := fun o => cell_of_row _ r 0 _ _ _ (hA o)
  have hs4 : ∀ o, (w.alloc o).cell? ⟨r, 1, none⟩ = some (.int .i64 e0) := fun o => cell_of_row _ r 1 _ _ _ (hA o)
  have hs5 : ∀ o j, (w.alloc o).frozen? ⟨r, j, none⟩ = false := fun o j => by simp [World.frozen?, hA o]
  have hq1 : ∀ o u j, ((w.alloc o).setCell ⟨r, j, none⟩ u).cell? ⟨s, 0, none⟩ = some (.slice A sn sc) := fun o u j => (World.cell?_setCell_other _ _ _ _ (by intro e; injection e with e; exact hsr e.symm)).trans (hs1 o)
  have hq2 : ∀ o u j, ((w.alloc o).setCell ⟨r, j, none⟩ u).cell? ⟨rb, 0, none⟩ = some (.pointer (some ⟨r, 0, none⟩)) := fun o u j => (World.cell?_setCell_other _ _ _ _ (by intro e; injection e with e; exact hbr e.symm)).trans (hs2 o)
  have hq3 : ∀ x u j, ((w.alloc (.cells #[x] 181)).setCell ⟨r, j, none⟩ u).cell? ⟨w.heap.size, 0, none⟩ = some x := fun x u j => (World.cell?_setCell_other _ _ _ _ (by intro e; injection e with e; omega)).trans (cell_of_row _ _ 0 _ _ _ (heap_alloc_new w _))
  have hq4 : ∀ o u, ((w.alloc o).setCell ⟨r, 0, none⟩ u).cell? ⟨r, 1, none⟩ = some (.int .i64 e0) := fun o u => (World.cell?_setCell_other _ _ _ _ (by intro e; injection e with e1 e2; cases e2)).trans (hs4 o)
  have hq5 : ∀ o u, ((w.alloc o).setCell ⟨r, 1, none⟩ u).cell? ⟨r, 0, none⟩ = some v0 := fun o u => (World.cell?_setCell_other _ _ _ _ (by intro e; injection e with e1 e2; cases e2)).trans (hs3 o)
  have hq6 : ∀ o u j i, ((w.alloc o).setCell ⟨r, j, none⟩ u).frozen? ⟨r, i, none⟩ = false := fun o u j i => (World.frozen?_setCell _ _ _ _).trans (hs5 o i)
  have H3 := Lib.hid h3
  clear hA h3 h1 h2 hlt
  have hta := tassert
  refine callsD_of_wpS Tryz.func118 rfl fun c₀ cs hu => ?_
  apply wpS_seq
  apply wpS_region
  simp [wpOpsS, go_sem, recoverD, hu, Tryz.ntmps118, Exit.thenS]
  apply wpS_seq
  apply wpS_region
  simp [wpOpsS, go_sem, Exit.thenS]
  refine wpS_cond (t := true) (by simp [Act.eval, Array.replicate]) ?_
  simp only [if_true]
  refine wpS_of_wp ?_
  refine Code.wp_mono (Q := EndsAs (Caught w r (.slice A sn sc) k)) ?_ ?_
  · rintro e a w' ⟨rfl, hd, hc⟩
    exact ⟨hd, _, rfl, _, by simp [results, Tryz.results118], rfl, rfl, hc⟩
  · simp only [Array.replicate_succ, Array.replicate_zero, List.push_toArray, List.append_toArray, List.nil_append, List.cons_append, List.setIfInBounds_toArray, List.set]
    go_wp2
    go_region
    exact ⟨rfl, rfl, caught_of H3.out⟩

end Go.Proofs.YtocblkacdoahfaaGreatDoor

/-
  What the one generic reading function does, an instance and a step each: it answers as the step does, or leaves the reader where it was, with the error; behind an error it does nothing. Conditions: sizes within the reach.
-/
namespace Go.Proofs.YtocblkacdoahfaaGreatDoor
open Go.RowKit

/-- A step answers some value; what holds of it and of the world behind it. -/
def Ans (U : Value → World → Prop) (e : Ending) (w' : World) : Prop := ∃ u, e = .returned u ∧ U u w'

/-- The reader is where it was, and has the error. -/
def Fell (w : World) (r B : Nat) (v : Value) (k : Int) (xs : List UInt8) (w' : World) : Prop := Cu w' r B v k xs ∧ Turns (fun i => i = r) w w'

theorem fell_of {w w1 w2 w3 : World} {r B : Nat} {v v1 : Value} {k c : Int} {xs ys : List UInt8} (hc : Cu w r B v k xs) (hb : Below w.heap.size w w1)
    (_h1 : Cu w2 r B v1 k ys) (ht : Turns (fun i => i = r) w1 w2) (h : Caught w2 r v c w3) : Fell w r B v c xs w3 := by
  have ht1 : Turns (fun i => i = r) w w1 := Turns.of_below hb
  have ht3 : Turns (fun i => i = r) w w3 := (ht1.trans ht (fun _ _ h => h)).trans h.2 (fun _ _ h => h)
  refine ⟨⟨h.1, hc.2.1.keep fun b o hb' => ht3.cell (p := ⟨b, o, none⟩) ?_ ?_, hc.2.2⟩, ht3⟩
  · have := hc.lt
    have := hc.2.2
    show b < _
    omega
  · have := hc.2.2
    intro e
    simp only at e
    omega


set_option maxRecDepth 100000 in
set_option maxHeartbeats 400000 in
theorem late_u8 (r B : Nat) (v fv : Value) (k : Int) (xs : List UInt8) (w : World) (hk : (k != 0) = true) (hc : Cu w r B v k xs) :
    Calls Tryz.prog 91 #[.pointer (some ⟨r, 0, none⟩), fv] w (Ans (fun u w' => u = (.int .u8 0) ∧ Cu w' r B v k xs ∧ Below w.heap.size w w')) := by
  have hA : ∀ o, (w.alloc o).cell? ⟨r, 1, none⟩ = some (.int .i64 k) := fun o => (hc.alloc o).cell1
  go_enter_defers Tryz.func91, Tryz.ntmps91
  go_wp2
  refine ⟨_, results_tmp rfl _ _ _, ?_⟩
  exact ⟨_, rfl, rfl, hc.alloc _, (Below.refl _ _).alloc (Nat.le_refl _) _⟩

set_option maxRecDepth 100000 in
set_option maxHeartbeats 800000 in
theorem goes_u8_u8 (r B : Nat) (v : Value) (k : Int) (xs : List UInt8) (w : World) (hk : (k != 0) = false) (hc : Cu w r B v k xs) (U : Value → World → Prop)
    (hstep : ∀ w1, Below w.heap.size w w1 → Calls Tryz.prog 92 #[.pointer (some ⟨r, 0, none⟩)] w1 (Ans U)) :
    Calls Tryz.prog 91 #[.pointer (some ⟨r, 0, none⟩), .func (.func 92) #[] #[]] w (Ans U) := by
  obtain ⟨A, c, rfl⟩ := hc.2.1.form
  have hA1 : ∀ o, (w.alloc o).cell? ⟨r, 1, none⟩ = some (.int .i64 k) := fun o => (hc.alloc o).cell1
  have hA0 : ∀ o, (w.alloc o).cell? ⟨r, 0, none⟩ = some (.slice A xs.length c) := fun o => (hc.alloc o).cell
  have hmf : ∀ (fn : Fn) (first cap : Array Value) (w : World), (Instr.makeFunc fn first cap).run Tryz.prog w = .ok (.func fn first cap) w := fun _ _ _ _ => rfl
  have HS := Lib.hid hstep
  clear hstep
  go_enter_defers Tryz.func91, Tryz.ntmps91
  go_wp2_with fail
  refine (HS.out _ ?_).mono ?_
  · exact ((Below.refl _ _).alloc (Nat.le_refl _) _).alloc (by simp) _
  rintro e w2 ⟨u, rfl, hP⟩
  go_wp2
  refine leaves_cons (f := 116) (args := #[.pointer (some ⟨w.heap.size + 1, 0, none⟩), .pointer (some ⟨w.heap.size, 0, none⟩)]) (by simp) (by simp [go_sem]) ?_
  refine (idle_u8 _ _ _).mono ?_
  rintro e u' w'' ⟨rfl, rfl, rfl⟩
  refine ⟨_, results_tmp rfl _ _ _, ?_⟩
  exact ⟨u, rfl, hP⟩

set_option maxRecDepth 100000 in
set_option maxHeartbeats 800000 in
theorem falls_u8_u8 (r B : Nat) (v : Value) (k c : Int) (xs : List UInt8) (w : World) (hk : (k != 0) = false) (hc : Cu w r B v k xs)
    (hstep : ∀ w1, Below w.heap.size w w1 → Calls Tryz.prog 92 #[.pointer (some ⟨r, 0, none⟩)] w1 (Stops w1 r B k c)) :
    Calls Tryz.prog 91 #[.pointer (some ⟨r, 0, none⟩), .func (.func 92) #[] #[]] w (Ans (fun u w' => u = (.int .u8 0) ∧ Fell w r B v c xs w')) := by
  obtain ⟨A, sc, rfl⟩ := hc.2.1.form
  have hA1 : ∀ o, (w.alloc o).cell? ⟨r, 1, none⟩ = some (.int .i64 k) := fun o => (hc.alloc o).cell1
  have hA0 : ∀ o, (w.alloc o).cell? ⟨r, 0, none⟩ = some (.slice A xs.length sc) := fun o => (hc.alloc o).cell
  have hmf : ∀ (fn : Fn) (first cap : Array Value) (w : World), (Instr.makeFunc fn first cap).run Tryz.prog w = .ok (.func fn first cap) w := fun _ _ _ _ => rfl
  have HS := Lib.hid hstep
  clear hstep
  go_enter_defers Tryz.func91, Tryz.ntmps91
  go_wp2_with fail
  refine (HS.out _ ?_).mono ?_
  · exact ((Below.refl _ _).alloc (Nat.le_refl _) _).alloc (by simp) _
  rintro e w2 ⟨rfl, v1, ys, hc1, ht1⟩
  have hlt := hc.lt
  have g1 : w2.cell? ⟨w.heap.size + 1, 0, none⟩ = some (.slice A xs.length sc) := by
    rw [ht1.cell (p := ⟨w.heap.size + 1, 0, none⟩) (by simp) (by show ¬ w.heap.size + 1 = r; omega)]
    simp [go_sem]
  have g2 : w2.cell? ⟨w.heap.size, 0, none⟩ = some (.pointer (some ⟨r, 0, none⟩)) := by
    rw [ht1.cell (p := ⟨w.heap.size, 0, none⟩) (by simp; omega) (by show ¬ w.heap.size = r; omega)]
    simp [go_sem]
  have HF : ∀ w3, Caught w2 r (.slice A xs.length sc) c w3 → Fell w r B (.slice A xs.length sc) c xs w3 := fun w3 h3 => fell_of hc (((Below.refl _ _).alloc (Nat.le_refl _) _).alloc (by simp) _) hc1 ht1 h3
  have HH := Lib.hid HF
  clear HF ht1
  unfold flt
  go_wp2
  refine leaves_cons (f := 116) (args := #[.pointer (some ⟨w.heap.size + 1, 0, none⟩), .pointer (some ⟨w.heap.size, 0, none⟩)]) (by simp) (by simp [go_sem]) ?_
  refine (catch_u8 (w.heap.size + 1) w.heap.size r c [] w2 A xs.length sc _ k g1 g2 hc1.1 (by omega) (by omega)).mono ?_
  rintro e u' w3 ⟨rfl, rfl, hcau⟩
  refine ⟨_, results_tmp rfl _ _ _, ?_⟩
  exact ⟨_, rfl, rfl, HH.out w3 hcau⟩

set_option maxRecDepth 100000 in
set_option maxHeartbeats 400000 in
theorem late_u16 (r B : Nat) (v fv : Value) (k : Int) (xs : List UInt8) (w : World) (hk : (k != 0) = true) (hc : Cu w r B v k xs) :
    Calls Tryz.prog 120 #[.pointer (some ⟨r, 0, none⟩), fv] w (Ans (fun u w' => u = (.int .u16 0) ∧ Cu w' r B v k xs ∧ Below w.heap.size w w')) := by
  have hA : ∀ o, (w.alloc o).cell? ⟨r, 1, none⟩ = some (.int .i64 k) := fun o => (hc.alloc o).cell1
  go_enter_defers Tryz.func120, Tryz.ntmps120
  go_wp2
  refine ⟨_, results_tmp rfl _ _ _, ?_⟩
  exact ⟨_, rfl, rfl, hc.alloc _, (Below.refl _ _).alloc (Nat.le_refl _) _⟩

set_option maxRecDepth 100000 in
set_option maxHeartbeats 800000 in
theorem goes_u16_u16 (r B : Nat) (v : Value) (k : Int) (xs : List UInt8) (w : World) (hk : (k != 0) = false) (hc : Cu w r B v k xs) (U : Value → World → Prop)
    (hstep : ∀ w1, Below w.heap.size w w1 → Calls Tryz.prog 121 #[.pointer (some ⟨r, 0, none⟩)] w1 (Ans U)) :
    Calls Tryz.prog 120 #[.pointer (some ⟨r, 0, none⟩), .func (.func 121) #[] #[]] w (Ans U) := by
  obtain ⟨A, c, rfl⟩ := hc.2.1.form
  have hA1 : ∀ o, (w.alloc o).cell? ⟨r, 1, none⟩ = some (.int .i64 k) := fun o => (hc.alloc o).cell1
  have hA0 : ∀ o, (w.alloc o).cell? ⟨r, 0, none⟩ = some (.slice A xs.length c) := fun o => (hc.alloc o).cell
  have hmf : ∀ (fn : Fn) (first cap : Array Value) (w : World), (Instr.makeFunc fn first cap).run Tryz.prog w = .ok (.func fn first cap) w := fun _ _ _ _ => rfl
  have HS := Lib.hid hstep
  clear hstep
  go_enter_defers Tryz.func120, Tryz.ntmps120
  go_wp2_with fail
  refine (HS.out _ ?_).mono ?_
  · exact ((Below.refl _ _).alloc (Nat.le_refl _) _).alloc (by simp) _
  rintro e w2 ⟨u, rfl, hP⟩
  go_wp2
  refine leaves_cons (f := 134) (args := #[.pointer (some ⟨w.heap.size + 1, 0, none⟩), .pointer (some ⟨w.heap.size, 0, none⟩)]) (by simp) (by simp [go_sem]) ?_
  refine (idle_u16 _ _ _).mono ?_
  rintro e u' w'' ⟨rfl, rfl, rfl⟩
  refine ⟨_, results_tmp rfl _ _ _, ?_⟩
  exact ⟨u, rfl, hP⟩

set_option maxRecDepth 100000 in
set_option maxHeartbeats 800000 in
theorem falls_u16_u16 (r B : Nat) (v : Value) (k c : Int) (xs : List UInt8) (w : World) (hk : (k != 0) = false) (hc : Cu w r B v k xs)
    (hstep : ∀ w1, Below w.heap.size w w1 → Calls Tryz.prog 121 #[.pointer (some ⟨r, 0, none⟩)] w1 (Stops w1 r B k c)) :
    Calls Tryz.prog 120 #[.pointer (some ⟨r, 0, none⟩), .func (.func 121) #[] #[]] w (Ans (fun u w' => u = (.int .u16 0) ∧ Fell w r B v c xs w')) := by
  obtain ⟨A, sc, rfl⟩ := hc.2.1.form
  have hA1 : ∀ o, (w.alloc o).cell? ⟨r, 1, none⟩ = some (.int .i64 k) := fun o => (hc.alloc o).cell1
  have hA0 : ∀ o, (w.alloc o).cell? ⟨r, 0, none⟩ = some (.slice A xs.length sc) := fun o => (hc.alloc o).cell
  have hmf : ∀ (fn : Fn) (first cap : Array Value) (w : World), (Instr.makeFunc fn first cap).run Tryz.prog w = .ok (.func fn first cap) w := fun _ _ _ _ => rfl
  have HS := Lib.hid hstep
  clear hstep
  go_enter_defers Tryz.func120, Tryz.ntmps120
  go_wp2_with fail
  refine (HS.out _ ?_).mono ?_
  · exact ((Below.refl _ _).alloc (Nat.le_refl _) _).alloc (by simp) _
  rintro e w2 ⟨rfl, v1, ys, hc1, ht1⟩
  have hlt := hc.lt
  have g1 : w2.cell? ⟨w.heap.size + 1, 0, none⟩ = some (.slice A xs.length sc) := by
    rw [ht1.cell (p := ⟨w.heap.size + 1, 0, none⟩) (by simp) (by show ¬ w.heap.size + 1 = r; omega)]
    simp [go_sem]
  have g2 : w2.cell? ⟨w.heap.size, 0, none⟩ = some (.pointer (some ⟨r, 0, none⟩)) := by
    rw [ht1.cell (p := ⟨w.heap.size, 0, none⟩) (by simp; omega) (by show ¬ w.heap.size = r; omega)]
    simp [go_sem]
  have HF : ∀ w3, Caught w2 r (.slice A xs.length sc) c w3 → Fell w r B (.slice A xs.length sc) c xs w3 := fun w3 h3 => fell_of hc (((Below.refl _ _).alloc (Nat.le_refl _) _).alloc (by simp) _) hc1 ht1 h3
  have HH := Lib.hid HF
  clear HF ht1
  unfold flt
  go_wp2
  refine leaves_cons (f := 134) (args := #[.pointer (some ⟨w.heap.size + 1, 0, none⟩), .pointer (some ⟨w.heap.size, 0, none⟩)]) (by simp) (by simp [go_sem]) ?_
  refine (catch_u16 (w.heap.size + 1) w.heap.size r c [] w2 A xs.length sc _ k g1 g2 hc1.1 (by omega) (by omega)).mono ?_
  rintro e u' w3 ⟨rfl, rfl, hcau⟩
  refine ⟨_, results_tmp rfl _ _ _, ?_⟩
  exact ⟨_, rfl, rfl, HH.out w3 hcau⟩

set_option maxRecDepth 100000 in
set_option maxHeartbeats 400000 in
theorem late_u32 (r B : Nat) (v fv : Value) (k : Int) (xs : List UInt8) (w : World) (hk : (k != 0) = true) (hc : Cu w r B v k xs) :
    Calls Tryz.prog 122 #[.pointer (some ⟨r, 0, none⟩), fv] w (Ans (fun u w' => u = (.int .u32 0) ∧ Cu w' r B v k xs ∧ Below w.heap.size w w')) := by
  have hA : ∀ o, (w.alloc o).cell? ⟨r, 1, none⟩ = some (.int .i64 k) := fun o => (hc.alloc o).cell1
  go_enter_defers Tryz.func122, Tryz.ntmps122
  go_wp2
  refine ⟨_, results_tmp rfl _ _ _, ?_⟩
  exact ⟨_, rfl, rfl, hc.alloc _, (Below.refl _ _).alloc (Nat.le_refl _) _⟩

set_option maxRecDepth 100000 in
set_option maxHeartbeats 800000 in
theorem goes_u32_u32 (r B : Nat) (v : Value) (k : Int) (xs : List UInt8) (w : World) (hk : (k != 0) = false) (hc : Cu w r B v k xs) (U : Value → World → Prop)
    (hstep : ∀ w1, Below w.heap.size w w1 → Calls Tryz.prog 123 #[.pointer (some ⟨r, 0, none⟩)] w1 (Ans U)) :
    Calls Tryz.prog 122 #[.pointer (some ⟨r, 0, none⟩), .func (.func 123) #[] #[]] w (Ans U) := by
  obtain ⟨A, c, rfl⟩ := hc.2.1.form
  have hA1 : ∀ o, (w.alloc o).cell? ⟨r, 1, none⟩ = some (.int .i64 k) := fun o => (hc.alloc o).cell1
  have hA0 : ∀ o, (w.alloc o).cell? ⟨r, 0, none⟩ = some (.slice A xs.length c) := fun o => (hc.alloc o).cell
  have hmf : ∀ (fn : Fn) (first cap : Array Value) (w : World), (Instr.makeFunc fn first cap).run Tryz.prog w = .ok (.func fn first cap) w := fun _ _ _ _ => rfl
  have HS := Lib.hid hstep
  clear hstep
  go_enter_defers Tryz.func122, Tryz.ntmps122
  go_wp2_with fail
  refine (HS.out _ ?_).mono ?_
  · exact ((Below.refl _ _).alloc (Nat.le_refl _) _).alloc (by simp) _
  rintro e w2 ⟨u, rfl, hP⟩
  go_wp2
  refine leaves_cons (f := 135) (args := #[.pointer (some ⟨w.heap.size + 1, 0, none⟩), .pointer (some ⟨w.heap.size, 0, none⟩)]) (by simp) (by simp [go_sem]) ?_
  refine (idle_u32 _ _ _).mono ?_
  rintro e u' w'' ⟨rfl, rfl, rfl⟩
  refine ⟨_, results_tmp rfl _ _ _, ?_⟩
  exact ⟨u, rfl, hP⟩

set_option maxRecDepth 100000 in
set_option maxHeartbeats 800000 in
theorem falls_u32_u32 (r B : Nat) (v : Value) (k c : Int) (xs : List UInt8) (w : World) (hk : (k != 0) = false) (hc : Cu w r B v k xs)
    (hstep : ∀ w1, Below w.heap.size w w1 → Calls Tryz.prog 123 #[.pointer (some ⟨r, 0, none⟩)] w1 (Stops w1 r B k c)) :
    Calls Tryz.prog 122 #[.pointer (some ⟨r, 0, none⟩), .func (.func 123) #[] #[]] w (Ans (fun u w' => u = (.int .u32 0) ∧ Fell w r B v c xs w')) := by
  obtain ⟨A, sc, rfl⟩ := hc.2.1.form
  have hA1 : ∀ o, (w.alloc o).cell? ⟨r, 1, none⟩ = some (.int .i64 k) := fun o => (hc.alloc o).cell1
  have hA0 : ∀ o, (w.alloc o).cell? ⟨r, 0, none⟩ = some (.slice A xs.length sc) := fun o => (hc.alloc o).cell
  have hmf : ∀ (fn : Fn) (first cap : Array Value) (w : World), (Instr.makeFunc fn first cap).run Tryz.prog w = .ok (.func fn first cap) w := fun _ _ _ _ => rfl
  have HS := Lib.hid hstep
  clear hstep
  go_enter_defers Tryz.func122, Tryz.ntmps122
  go_wp2_with fail
  refine (HS.out _ ?_).mono ?_
  · exact ((Below.refl _ _).alloc (Nat.le_refl _) _).alloc (by simp) _
  rintro e w2 ⟨rfl, v1, ys, hc1, ht1⟩
  have hlt := hc.lt
  have g1 : w2.cell? ⟨w.heap.size + 1, 0, none⟩ = some (.slice A xs.length sc) := by
    rw [ht1.cell (p := ⟨w.heap.size + 1, 0, none⟩) (by simp) (by show ¬ w.heap.size + 1 = r; omega)]
    simp [go_sem]
  have g2 : w2.cell? ⟨w.heap.size, 0, none⟩ = some (.pointer (some ⟨r, 0, none⟩)) := by
    rw [ht1.cell (p := ⟨w.heap.size, 0, none⟩) (by simp; omega) (by show ¬ w.heap.size = r; omega)]
    simp [go_sem]
  have HF : ∀ w3, Caught w2 r (.slice A xs.length sc) c w3 → Fell w r B (.slice A xs.length sc) c xs w3 := fun w3 h3 => fell_of hc (((Below.refl _ _).alloc (Nat.le_refl _) _).alloc (by simp) _) hc1 ht1 h3
  have HH := Lib.hid HF
  clear HF ht1
  unfold flt
  go_wp2
  refine leaves_cons (f := 135) (args := #[.pointer (some ⟨w.heap.size + 1, 0, none⟩), .pointer (some ⟨w.heap.size, 0, none⟩)]) (by simp) (by simp [go_sem]) ?_
  refine (catch_u32 (w.heap.size + 1) w.heap.size r c [] w2 A xs.length sc _ k g1 g2 hc1.1 (by omega) (by omega)).mono ?_
  rintro e u' w3 ⟨rfl, rfl, hcau⟩
  refine ⟨_, results_tmp rfl _ _ _, ?_⟩
  exact ⟨_, rfl, rfl, HH.out w3 hcau⟩

set_option maxRecDepth 100000 in
set_option maxHeartbeats 400000 in
theorem late_list (r B : Nat) (v fv : Value) (k : Int) (xs : List UInt8) (w : World) (hk : (k != 0) = true) (hc : Cu w r B v k xs) :
    Calls Tryz.prog 93 #[.pointer (some ⟨r, 0, none⟩), fv] w (Ans (fun u w' => u = (.slice none 0 0) ∧ Cu w' r B v k xs ∧ Below w.heap.size w w')) := by
  have hA : ∀ o, (w.alloc o).cell? ⟨r, 1, none⟩ = some (.int .i64 k) := fun o => (hc.alloc o).cell1
  go_enter_defers Tryz.func93, Tryz.ntmps93
  go_wp2
  refine ⟨_, results_tmp rfl _ _ _, ?_⟩
  exact ⟨_, rfl, rfl, hc.alloc _, (Below.refl _ _).alloc (Nat.le_refl _) _⟩

set_option maxRecDepth 100000 in
set_option maxHeartbeats 800000 in
theorem goes_list_raw (r B : Nat) (v q : Value) (k : Int) (xs : List UInt8) (w : World) (hk : (k != 0) = false) (hc : Cu w r B v k xs) (U : Value → World → Prop)
    (hstep : ∀ w1, Below w.heap.size w w1 → Calls Tryz.prog 94 #[.pointer (some ⟨r, 0, none⟩), q] w1 (Ans U)) :
    Calls Tryz.prog 93 #[.pointer (some ⟨r, 0, none⟩), .func (.func 94) #[] #[q]] w (Ans U) := by
  obtain ⟨A, c, rfl⟩ := hc.2.1.form
  have hA1 : ∀ o, (w.alloc o).cell? ⟨r, 1, none⟩ = some (.int .i64 k) := fun o => (hc.alloc o).cell1
  have hA0 : ∀ o, (w.alloc o).cell? ⟨r, 0, none⟩ = some (.slice A xs.length c) := fun o => (hc.alloc o).cell
  have hmf : ∀ (fn : Fn) (first cap : Array Value) (w : World), (Instr.makeFunc fn first cap).run Tryz.prog w = .ok (.func fn first cap) w := fun _ _ _ _ => rfl
  have HS := Lib.hid hstep
  clear hstep
  go_enter_defers Tryz.func93, Tryz.ntmps93
  go_wp2_with fail
  refine (HS.out _ ?_).mono ?_
  · exact ((Below.refl _ _).alloc (Nat.le_refl _) _).alloc (by simp) _
  rintro e w2 ⟨u, rfl, hP⟩
  go_wp2
  refine leaves_cons (f := 118) (args := #[.pointer (some ⟨w.heap.size + 1, 0, none⟩), .pointer (some ⟨w.heap.size, 0, none⟩)]) (by simp) (by simp [go_sem]) ?_
  refine (idle_list _ _ _).mono ?_
  rintro e u' w'' ⟨rfl, rfl, rfl⟩
  refine ⟨_, results_tmp rfl _ _ _, ?_⟩
  exact ⟨u, rfl, hP⟩

set_option maxRecDepth 100000 in
set_option maxHeartbeats 800000 in
theorem falls_list_raw (r B : Nat) (v q : Value) (k c : Int) (xs : List UInt8) (w : World) (hk : (k != 0) = false) (hc : Cu w r B v k xs)
    (hstep : ∀ w1, Below w.heap.size w w1 → Calls Tryz.prog 94 #[.pointer (some ⟨r, 0, none⟩), q] w1 (Stops w1 r B k c)) :
    Calls Tryz.prog 93 #[.pointer (some ⟨r, 0, none⟩), .func (.func 94) #[] #[q]] w (Ans (fun u w' => u = (.slice none 0 0) ∧ Fell w r B v c xs w')) := by
  obtain ⟨A, sc, rfl⟩ := hc.2.1.form
  have hA1 : ∀ o, (w.alloc o).cell? ⟨r, 1, none⟩ = some (.int .i64 k) := fun o => (hc.alloc o).cell1
  have hA0 : ∀ o, (w.alloc o).cell? ⟨r, 0, none⟩ = some (.slice A xs.length sc) := fun o => (hc.alloc o).cell
  have hmf : ∀ (fn : Fn) (first cap : Array Value) (w : World), (Instr.makeFunc fn first cap).run Tryz.prog w = .ok (.func fn first cap) w := fun _ _ _ _ => rfl
  have HS := Lib.hid hstep
  clear hstep
  go_enter_defers Tryz.func93, Tryz.ntmps93
  go_wp2_with fail
  refine (HS.out _ ?_).mono ?_
  · exact ((Below.refl _ _).alloc (Nat.le_refl _) _).alloc (by simp) _
  rintro e w2 ⟨rfl, v1, ys, hc1, ht1⟩
  have hlt := hc.lt
  have g1 : w2.cell? ⟨w.heap.size + 1, 0, none⟩ = some (.slice A xs.length sc) := by
    rw [ht1.cell (p := ⟨w.heap.size + 1, 0, none⟩) (by simp) (by show ¬ w.heap.size + 1 = r; omega)]
    simp [go_sem]
  have g2 : w2.cell? ⟨w.heap.size, 0, none⟩ = some (.pointer (some ⟨r, 0, none⟩)) := by
    rw [ht1.cell (p := ⟨w.heap.size, 0, none⟩) (by simp; omega) (by show ¬ w.heap.size = r; omega)]
    simp [go_sem]
  have HF : ∀ w3, Caught w2 r (.slice A xs.length sc) c w3 → Fell w r B (.slice A xs.length sc) c xs w3 := fun w3 h3 => fell_of hc (((Below.refl _ _).alloc (Nat.le_refl _) _).alloc (by simp) _) hc1 ht1 h3
  have HH := Lib.hid HF
  clear HF ht1
  unfold flt
  go_wp2
  refine leaves_cons (f := 118) (args := #[.pointer (some ⟨w.heap.size + 1, 0, none⟩), .pointer (some ⟨w.heap.size, 0, none⟩)]) (by simp) (by simp [go_sem]) ?_
  refine (catch_list (w.heap.size + 1) w.heap.size r c [] w2 A xs.length sc _ k g1 g2 hc1.1 (by omega) (by omega)).mono ?_
  rintro e u' w3 ⟨rfl, rfl, hcau⟩
  refine ⟨_, results_tmp rfl _ _ _, ?_⟩
  exact ⟨_, rfl, rfl, HH.out w3 hcau⟩

end Go.Proofs.YtocblkacdoahfaaGreatDoor
