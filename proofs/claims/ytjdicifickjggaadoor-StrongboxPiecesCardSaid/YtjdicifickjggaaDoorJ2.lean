/-
  Texts joined: Size, Catch, Meth, Steps, Rdr. Conditions: those of each.
-/
import Derived.Test.YtjdicifickjggaaDoorJ1
import Derived.Defers
import Derived.Recover
import Derived.BigRegion
import Derived.BigQuiet
import Derived.Deep.QuietTactic
/-
  What the reader's inner functions that read sizes and lists do. Conditions: sizes within the reach.
-/
namespace Go.Proofs.YtjdicifickjggaaDoor
open Go.RowKit Go.Maps

/-- Either way: it answers a value and leaves bytes, or it gives up with an error. -/
def Res (w : World) (r B : Nat) (k : Int) (f : Except Int (Value × List UInt8)) (e : Ending) (w' : World) : Prop :=
  match f with
  | .ok (u, ys) => Goes w r B k u ys e w'
  | .error c => Stops w r B k c e w'

/-- A number of n bytes. -/
def numP (q : IntKind) (n : Nat) (xs : List UInt8) : Except Int (Value × List UInt8) :=
  if xs.length < n then .error 4 else .ok (.int q (val (xs.take n)), xs.drop n)

theorem val_take_lt (xs : List UInt8) (n : Nat) : 0 ≤ val (xs.take n) ∧ val (xs.take n) < 256 ^ n := by
  have h := val_bd (xs.take n)
  refine ⟨h.1, ?_⟩
  have h1 : (xs.take n).length ≤ n := List.length_take_le _ _
  have h2 : (256 : Nat) ^ (xs.take n).length ≤ 256 ^ n := Nat.pow_le_pow_right (by decide) h1
  have h3 : ((256 ^ (xs.take n).length : Nat) : Int) = (256 : Int) ^ (xs.take n).length := Int.natCast_pow _ _
  have h4 : ((256 ^ n : Nat) : Int) = (256 : Int) ^ n := Int.natCast_pow _ _
  omega

set_option maxRecDepth 100000 in
set_option maxHeartbeats 400000 in
theorem cu8_any (r B : Nat) (v : Value) (k : Int) (xs : List UInt8) (w : World) (hc : Cu w r B v k xs) :
    Calls Tryd.prog 54 #[.pointer (some ⟨r, 0, none⟩)] w (Res w r B k (numP .u8 1 xs)) := by
  by_cases h : xs.length < 1
  · have hp : numP .u8 1 xs = .error 4 := by unfold numP; rw [if_pos h]
    rw [hp]
    go_enter Tryd.func54, Tryd.ntmps54
    go_wp2_with fail
    refine (number_end r B v k _ xs w (by omega) hc).mono ?_
    rintro e w1 ⟨rfl, hst⟩
    go_wp2
    exact ⟨rfl, rfl, hst⟩
  · have hp : numP .u8 1 xs = .ok (.int .u8 (val (xs.take 1)), xs.drop 1) := by unfold numP; rw [if_neg h]
    rw [hp]
    have hbd := val_take_lt xs 1
    obtain ⟨z, hz⟩ : ∃ z, z = val (xs.take 1) := ⟨_, rfl⟩
    rw [← hz]
    have hz0 : 0 ≤ z := by omega
    have hz1 : z < 256 := by omega
    have HZ := Lib.hid hz
    clear hz hbd
    go_enter Tryd.func54, Tryd.ntmps54
    go_wp2_with fail
    refine (number_num r B v k _ 1 rfl xs w (by omega) (by omega) (by omega) hc).mono ?_
    rw [← HZ.out]
    rintro e w1 ⟨rfl, hst⟩
    go_wp2
    go_ret
    exact ⟨rfl, hst⟩

set_option maxRecDepth 100000 in
set_option maxHeartbeats 400000 in
theorem cu64_any (r B : Nat) (v : Value) (k : Int) (xs : List UInt8) (w : World) (hc : Cu w r B v k xs) :
    Calls Tryd.prog 38 #[.pointer (some ⟨r, 0, none⟩)] w (Res w r B k (numP .u64 8 xs)) := by
  by_cases h : xs.length < 8
  · have hp : numP .u64 8 xs = .error 4 := by unfold numP; rw [if_pos h]
    rw [hp]
    go_enter Tryd.func38, Tryd.ntmps38
    go_wp2_with fail
    refine (number_end r B v k _ xs w (by omega) hc).mono ?_
    rintro e w1 ⟨rfl, hst⟩
    go_wp2
    exact ⟨rfl, rfl, hst⟩
  · have hp : numP .u64 8 xs = .ok (.int .u64 (val (xs.take 8)), xs.drop 8) := by unfold numP; rw [if_neg h]
    rw [hp]
    go_enter Tryd.func38, Tryd.ntmps38
    go_wp2_with fail
    refine (number_num r B v k _ 8 rfl xs w (by omega) (by omega) (by omega) hc).mono ?_
    rintro e w1 ⟨rfl, hst⟩
    go_wp2
    go_ret
    exact ⟨rfl, hst⟩

/-! The map of marks. -/
theorem key8 : Keyed Tryd.prog 5 := int_keyed Tryd.underlying5
theorem zero_int (w : World) : (zeroValue 3).run Tryd.prog w = .ok (.int .i64 0) w := by kernel_rfl
def marksD : DataW Unit := (((DataW.map []).put (.int .u8 253) (.lit (.int .i64 2))).put (.int .u8 254) (.lit (.int .i64 4))).put (.int .u8 255) (.lit (.int .i64 8))

set_option maxRecDepth 100000 in
set_option maxHeartbeats 400000 in
theorem marks_any (w : World) :
    Calls Tryd.prog 55 #[] w fun e w' => e = .returned (.map (some w.heap.size)) ∧ w'.ownsMap Tryd.prog 5 (plainElem Tryd.prog 3) w.heap.size 3 marksD ∧ Below w.heap.size w w' := by
  have hmm := @run_makeMap Tryd.prog
  have hown0 := World.ownsMap_made (H := Unit) w Tryd.prog 5 (plainElem Tryd.prog 3)
  obtain ⟨w1, hrun1, hown1, hg1⟩ := hown0.update (t := 97) (e := 3) key8 Tryd.underlying97 (by unfold maxLen; omega) (keyOf_int_mk Tryd.underlying5 (by decide : (Lit.int .u8 253).wf = true)) (plainElem_int Tryd.underlying3 (by decide : (Lit.int .i64 2).wf = true))
  obtain ⟨w2, hrun2, hown2, hg2⟩ := hown1.update (t := 97) (e := 3) key8 Tryd.underlying97 (by unfold maxLen; omega) (keyOf_int_mk Tryd.underlying5 (by decide : (Lit.int .u8 254).wf = true)) (plainElem_int Tryd.underlying3 (by decide : (Lit.int .i64 4).wf = true))
  obtain ⟨w3, hrun3, hown3, hg3⟩ := hown2.update (t := 97) (e := 3) key8 Tryd.underlying97 (by unfold maxLen; omega) (keyOf_int_mk Tryd.underlying5 (by decide : (Lit.int .u8 255).wf = true)) (plainElem_int Tryd.underlying3 (by decide : (Lit.int .i64 8).wf = true))
  have hb : Below w.heap.size w w3 := by
    have hr : ∀ k, some w.heap.size = some k → w.heap.size ≤ k := fun k hk => by cases hk; exact Nat.le_refl _
    have b1 := ((Below.refl w.heap.size w).alloc (Nat.le_refl _) (.map #[] 0)).grown hg1 (by simp) hr
    have b2 := b1.grown hg2 b1.size hr
    exact b2.grown hg3 b2.size hr
  clear hown0 hown1 hown2 hg1 hg2 hg3
  go_enter Tryd.func55, Tryd.ntmps55
  go_wp2
  go_ret
  exact ⟨rfl, hown3, hb⟩

/-- How many bytes follow the byte that begins a longer size. -/
def wd (f : Int) : Nat := if f = 253 then 2 else if f = 254 then 4 else 8

theorem marks_at {f c : Int} (h : f = 253 ∨ f = 254 ∨ f = 255) (hat : marksD.atKey (.int .u8 f) (.lit (.int .i64 0)) = .lit (.int .i64 c)) : c = wd f := by
  have e2 : marksD.atKey (.int .u8 253) (.lit (.int .i64 0)) = .lit (.int .i64 2) := by rfl
  have e4 : marksD.atKey (.int .u8 254) (.lit (.int .i64 0)) = .lit (.int .i64 4) := by rfl
  have e8 : marksD.atKey (.int .u8 255) (.lit (.int .i64 0)) = .lit (.int .i64 8) := by rfl
  rcases h with rfl | rfl | rfl
  · rw [e2] at hat; cases hat; rfl
  · rw [e4] at hat; cases hat; rfl
  · rw [e8] at hat; cases hat; rfl

/-- A compact size. -/
def sizeP (xs : List UInt8) : Except Int (Int × List UInt8) :=
  if xs.length < 1 then .error 4 else
  if val (xs.take 1) < 253 then .ok (val (xs.take 1), xs.drop 1) else
  if (xs.drop 1).length < wd (val (xs.take 1)) then .error 4 else
  if sizeLen (val ((xs.drop 1).take (wd (val (xs.take 1))))) ≠ 1 + wd (val (xs.take 1)) then .error 3 else
  if val ((xs.drop 1).take (wd (val (xs.take 1)))) > 33554432 then .error 2 else
  .ok (val ((xs.drop 1).take (wd (val (xs.take 1)))), (xs.drop 1).drop (wd (val (xs.take 1))))

def sizeV (xs : List UInt8) : Except Int (Value × List UInt8) :=
  match sizeP xs with
  | .ok (n, ys) => .ok (.int .u64 n, ys)
  | .error c => .error c


theorem cu8_ok (r B : Nat) (v : Value) (k : Int) (xs : List UInt8) (w : World) (h : ¬ xs.length < 1) (hc : Cu w r B v k xs) :
    Calls Tryd.prog 54 #[.pointer (some ⟨r, 0, none⟩)] w (Goes w r B k (.int .u8 (val (xs.take 1))) (xs.drop 1)) :=
  (cu8_any r B v k xs w hc).mono fun _ _ hh => by unfold numP at hh; rw [if_neg h] at hh; exact hh
theorem cu8_end (r B : Nat) (v : Value) (k : Int) (xs : List UInt8) (w : World) (h : xs.length < 1) (hc : Cu w r B v k xs) :
    Calls Tryd.prog 54 #[.pointer (some ⟨r, 0, none⟩)] w (Stops w r B k 4) :=
  (cu8_any r B v k xs w hc).mono fun _ _ hh => by unfold numP at hh; rw [if_pos h] at hh; exact hh

theorem csize_end (r B : Nat) (v : Value) (k : Int) (xs : List UInt8) (w : World) (h : xs.length < 1) (hc : Cu w r B v k xs) :
    Calls Tryd.prog 46 #[.pointer (some ⟨r, 0, none⟩)] w (Stops w r B k 4) := by
  go_enter Tryd.func46, Tryd.ntmps46
  go_wp2_with fail
  refine (cu8_end r B v k xs w h hc).mono ?_
  rintro e w1 ⟨rfl, hst⟩
  go_wp2
  exact ⟨rfl, rfl, hst⟩

set_option maxRecDepth 100000 in
set_option maxHeartbeats 400000 in
theorem csize_short (r B : Nat) (v : Value) (k z : Int) (xs : List UInt8) (w : World) (h : ¬ xs.length < 1) (hz : z = val (xs.take 1)) (hlt : z < 253) (hc : Cu w r B v k xs) :
    Calls Tryd.prog 46 #[.pointer (some ⟨r, 0, none⟩)] w (Goes w r B k (.int .u64 z) (xs.drop 1)) := by
  have hz0 : 0 ≤ z := by have := val_take_lt xs 1; omega
  have HZ := Lib.hid hz
  clear hz
  go_enter Tryd.func46, Tryd.ntmps46
  go_wp2_with fail
  refine (cu8_ok r B v k xs w h hc).mono ?_
  rw [← HZ.out]
  rintro e w1 ⟨rfl, hst⟩
  go_wp2
  go_ret
  exact ⟨rfl, hst⟩

/-- The longer sizes, behind the first byte. -/
def tailP (n : Nat) (ys : List UInt8) : Except Int (Value × List UInt8) :=
  if ys.length < n then .error 4 else
  if sizeLen (val (ys.take n)) ≠ 1 + n then .error 3 else
  if val (ys.take n) > 33554432 then .error 2 else .ok (.int .u64 (val (ys.take n)), ys.drop n)

theorem sizeLen_bd (n : Int) : 1 ≤ sizeLen n ∧ sizeLen n ≤ 9 := by
  unfold sizeLen
  split
  · omega
  split
  · omega
  split <;> omega

theorem wd_bd (z : Int) : 0 < wd z ∧ wd z ≤ 8 := by
  unfold wd
  split
  · omega
  split <;> omega


set_option maxRecDepth 100000 in
set_option maxHeartbeats 1600000 in
theorem csize_long (r B : Nat) (v : Value) (k z : Int) (n : Nat) (xs ys : List UInt8) (w : World) (h : ¬ xs.length < 1) (hz : z = val (xs.take 1)) (hge : ¬ z < 253) (hn : n = wd z) (hys : ys = xs.drop 1) (hc : Cu w r B v k xs) :
    Calls Tryd.prog 46 #[.pointer (some ⟨r, 0, none⟩)] w (Res w r B k (tailP n ys)) := by
  have hz0 : 0 ≤ z ∧ z < 256 := by have := val_take_lt xs 1; omega
  obtain ⟨hz0, hz1⟩ := hz0
  have HZ := Lib.hid hz
  have HN := Lib.hid hn
  have HY := Lib.hid hys
  have hnb := wd_bd z
  rw [← hn] at hnb
  obtain ⟨hn0, hn8⟩ := hnb
  have hu8 := cu8_ok r B v k xs w h hc
  rw [← hz, ← hys] at hu8
  have HU := Lib.hid hu8
  clear hz hn hys hu8
  have hwf : (Lit.int .u8 z).wf = true := WalkArith.wf_u8 (by omega)
  go_enter Tryd.func46, Tryd.ntmps46
  go_wp2_with fail
  refine HU.out.mono ?_
  rintro e w1 ⟨rfl, v1, hc1, ht1⟩
  go_wp2_with fail
  refine (marks_any w1).mono ?_
  rintro e w2 ⟨rfl, hown, hb2⟩
  have hc2 := hc1.below hb2
  have ht2 : Turns (fun i => i = r) w w2 := ht1.trans (Turns.of_below (S := fun i => i = r) hb2) (fun _ _ h => h)
  obtain ⟨c, hlk, hat, _⟩ := hown.lookup_int (t := 97) key8 Tryd.underlying97 Tryd.underlying3 (zero_int _) (keyOf_int_mk Tryd.underlying5 hwf)
  have hcw := marks_at (by omega) hat
  rw [← HN.out] at hcw
  subst hcw
  clear hat hc1 hown
  by_cases hlen : ys.length < n
  · have hp : tailP n ys = .error 4 := by unfold tailP; rw [if_pos hlen]
    rw [hp]
    go_wp2_with fail
    refine (number_end r B v1 k n ys w2 (by omega) hc2).mono ?_
    rintro e w3 ⟨rfl, hst⟩
    go_wp2
    exact ⟨rfl, Stops.pre ht2 ⟨rfl, hst⟩⟩
  · obtain ⟨m, hm⟩ : ∃ m, m = val (ys.take n) := ⟨_, rfl⟩
    obtain ⟨L, hL⟩ : ∃ L, L = sizeLen m := ⟨_, rfl⟩
    obtain ⟨ds, hds⟩ : ∃ ds, ds = ys.drop n := ⟨_, rfl⟩
    have hm0 : 0 ≤ m := by rw [hm]; exact (val_bd _).1
    have hm1 : m < 18446744073709551616 := by rw [hm]; exact val_le8 (by rw [List.length_take]; omega)
    have hLb := sizeLen_bd m
    rw [← hL] at hLb
    obtain ⟨hL0, hL1⟩ := hLb
    have hnum := number_ok r B v1 k n ys w2 hn0 hn8 (by omega) hc2
    rw [← hm, ← hds] at hnum
    have hlenC := length_any m
    rw [← hL] at hlenC
    have HNum := Lib.hid hnum
    have HLen := Lib.hid hlenC
    have hp : tailP n ys = if L ≠ 1 + n then .error 3 else if m > 33554432 then .error 2 else .ok (.int .u64 m, ds) := by
      unfold tailP
      rw [if_neg hlen, ← hm, ← hL, ← hds]
    clear hm hL hds hnum hlenC
    by_cases hne : L ≠ 1 + n
    · rw [if_pos hne] at hp
      have HP := Lib.hid hp
      clear hp
      have hb1 : (L == 1 + (n : Int)) = false := by simpa using hne
      have hb2' : (L != 1 + (n : Int)) = true := by simpa using hne
      go_wp2_with fail
      refine HNum.out.mono ?_
      rintro e w3 ⟨rfl, v3, hc3, ht3⟩
      go_wp2_with fail
      refine (HLen.out _).mono ?_
      rintro e w4 ⟨rfl, rfl⟩
      go_wp2_with fail
      refine (fail_any _ _).mono ?_
      rintro e w4 ⟨rfl, rfl⟩
      go_wp2
      refine ⟨rfl, ?_⟩
      show Res w r B k (tailP n ys) _ _
      rw [HP.out]
      exact ⟨rfl, v3, ds, hc3, ht2.trans ht3 (fun _ _ h => h)⟩
    · rw [if_neg hne] at hp
      have he : L = 1 + n := by omega
      have hb1 : (L == 1 + (n : Int)) = true := by simpa using he
      have hb2' : (L != 1 + (n : Int)) = false := by simpa using he
      clear hne he
      by_cases hgt : m > 33554432
      · rw [if_pos hgt] at hp
        have HP := Lib.hid hp
        clear hp
        go_wp2_with fail
        refine HNum.out.mono ?_
        rintro e w3 ⟨rfl, v3, hc3, ht3⟩
        go_wp2_with fail
        refine (HLen.out _).mono ?_
        rintro e w4 ⟨rfl, rfl⟩
        go_wp2_with fail
        refine (fail_any _ _).mono ?_
        rintro e w4 ⟨rfl, rfl⟩
        go_wp2
        refine ⟨rfl, ?_⟩
        show Res w r B k (tailP n ys) _ _
        rw [HP.out]
        exact ⟨rfl, v3, ds, hc3, ht2.trans ht3 (fun _ _ h => h)⟩
      · rw [if_neg hgt] at hp
        have HP := Lib.hid hp
        clear hp
        go_wp2_with fail
        refine HNum.out.mono ?_
        rintro e w3 ⟨rfl, v3, hc3, ht3⟩
        go_wp2_with fail
        refine (HLen.out _).mono ?_
        rintro e w4 ⟨rfl, rfl⟩
        go_wp2
        go_ret
        show Res w r B k (tailP n ys) _ _
        rw [HP.out]
        exact ⟨rfl, v3, hc3, ht2.trans ht3 (fun _ _ h => h)⟩

theorem sizeV_long {xs : List UInt8} (h : ¬ xs.length < 1) (hlt : ¬ val (xs.take 1) < 253) : sizeV xs = tailP (wd (val (xs.take 1))) (xs.drop 1) := by
  unfold sizeV sizeP tailP
  rw [if_neg h, if_neg hlt]
  by_cases c1 : (xs.drop 1).length < wd (val (xs.take 1))
  · rw [if_pos c1, if_pos c1]
  rw [if_neg c1, if_neg c1]
  by_cases c2 : sizeLen (val ((xs.drop 1).take (wd (val (xs.take 1))))) ≠ 1 + wd (val (xs.take 1))
  · rw [if_pos c2, if_pos c2]
  rw [if_neg c2, if_neg c2]
  by_cases c3 : val ((xs.drop 1).take (wd (val (xs.take 1)))) > 33554432
  · rw [if_pos c3, if_pos c3]
  · rw [if_neg c3, if_neg c3]

theorem csize_any (r B : Nat) (v : Value) (k : Int) (xs : List UInt8) (w : World) (hc : Cu w r B v k xs) :
    Calls Tryd.prog 46 #[.pointer (some ⟨r, 0, none⟩)] w (Res w r B k (sizeV xs)) := by
  by_cases h : xs.length < 1
  · have hp : sizeV xs = .error 4 := by unfold sizeV sizeP; rw [if_pos h]
    rw [hp]
    exact csize_end r B v k xs w h hc
  by_cases hlt : val (xs.take 1) < 253
  · have hp : sizeV xs = .ok (.int .u64 (val (xs.take 1)), xs.drop 1) := by unfold sizeV sizeP; rw [if_neg h, if_pos hlt]
    rw [hp]
    exact csize_short r B v k _ xs w h rfl hlt hc
  · rw [sizeV_long h hlt]
    exact csize_long r B v k _ _ xs _ w h rfl hlt rfl rfl hc

end Go.Proofs.YtjdicifickjggaaDoor

/-
  What the reader's steps that fail leave: the deferred function, and the one generic function that every reading goes through. Conditions: sizes within the reach.
-/
namespace Go.Proofs.YtjdicifickjggaaDoor
open Go.RowKit

def EndsAs (W : World → Prop) (e : Exit) (a : Act) (w' : World) : Prop := e = .normal ∧ a.defers = [] ∧ W w'

theorem tassert (x : Value) (w : World) : (Instr.typeAssert (.iface 90 x) 20 90 true).run Tryd.prog w = .ok (.tuple #[x, .bool true]) w := by kernel_rfl

/-- What the deferred function leaves behind a failure: the reader is where it was, and has the error. -/
def Caught (w : World) (r : Nat) (v : Value) (k : Int) (w' : World) : Prop :=
  w'.heap[r]? = some (.cells #[v, .int .i64 k] 76 (0, 0)) ∧ Turns (fun i => i = r) w w'

theorem caught_of {w : World} {r : Nat} {v v0 : Value} {k e0 : Int} {o : Obj} (h : w.heap[r]? = some (.cells #[v0, .int .i64 e0] 76 (0, 0))) :
    Caught w r v k (((w.alloc o).setCell ⟨r, 0, none⟩ v).setCell ⟨r, 1, none⟩ (.int .i64 k)).drew := by
  have hlt : r < w.heap.size := (Array.getElem?_eq_some_iff.1 h).1
  have h1 : (w.alloc o).heap[r]? = some (.cells #[v0, .int .i64 e0] 76 (0, 0)) := (Below.heap_alloc _ _ _ hlt).trans h
  refine ⟨?_, ((((Turns.refl (fun i => i = r) w).alloc o).setCell (p := ⟨r, 0, none⟩) (fun _ => rfl) v).setCell (p := ⟨r, 1, none⟩) (fun _ => rfl) _).drew⟩
  show (((w.alloc o).setCell ⟨r, 0, none⟩ v).setCell ⟨r, 1, none⟩ (.int .i64 k)).heap[r]? = _
  simp [World.setCell, Array.getElem?_modify, h1]

theorem idle_u64 (s rb : Addr) (w : World) :
    CallsD Tryd.prog 49 #[.pointer (some s), .pointer (some rb)] .returning w fun e u' w' => e = .returned (.tuple #[]) ∧ u' = .returning ∧ w = w' := by
  refine callsD_of_wpS Tryd.func49 rfl fun c₀ cs hu => ?_
  apply wpS_seq
  apply wpS_region
  simp [wpOpsS, go_sem, recoverD, hu, Tryd.ntmps49, Exit.thenS]
  apply wpS_seq
  apply wpS_region
  simp [wpOpsS, go_sem, Exit.thenS]
  refine wpS_cond (t := false) (by simp [Act.eval, Array.replicate]) ?_
  simp only [Bool.false_eq_true, if_false]
  refine wpS_of_wp (wp_skip ?_)
  cases c₀
  simp_all [bodyPostS, results, Tryd.results49]

set_option maxRecDepth 100000 in
set_option maxHeartbeats 800000 in
theorem catch_u64 (s rb r : Nat) (k : Int) (older : List PanicEntry) (w : World) (A : Option Addr) (sn sc : Nat) (v0 : Value) (e0 : Int)
    (h1 : w.cell? ⟨s, 0, none⟩ = some (.slice A sn sc)) (h2 : w.cell? ⟨rb, 0, none⟩ = some (.pointer (some ⟨r, 0, none⟩))) (h3 : w.heap[r]? = some (.cells #[v0, .int .i64 e0] 76 (0, 0))) (hsr : s ≠ r) (hbr : rb ≠ r) :
    CallsD Tryd.prog 49 #[.pointer (some ⟨s, 0, none⟩), .pointer (some ⟨rb, 0, none⟩)] (.panicking ({ v := .iface 90 (.agg #[.int .i64 k]), recovered := false } :: older)) w fun e u' w' =>
      e = .returned (.tuple #[]) ∧ u' = .panicking ({ v := .iface 90 (.agg #[.int .i64 k]), recovered := true } :: older) ∧ Caught w r (.slice A sn sc) k w' := by
  have hlt : r < w.heap.size := (Array.getElem?_eq_some_iff.1 h3).1
  have hA : ∀ o, (w.alloc o).heap[r]? = some (.cells #[v0, .int .i64 e0] 76 (0, 0)) := fun o => (Below.heap_alloc _ _ _ hlt).trans h3
  have hs1 : ∀ o, (w.alloc o).cell? ⟨s, 0, none⟩ = some (.slice A sn sc) := fun o => cell_later (Below.alloc (Below.refl _ _) (Nat.le_refl _) o) h1
  have hs2 : ∀ o, (w.alloc o).cell? ⟨rb, 0, none⟩ = some (.pointer (some ⟨r, 0, none⟩)) := fun o => cell_later (Below.alloc (Below.refl _ _) (Nat.le_refl _) o) h2
  have hs3 : ∀ o, (w.alloc o).cell? ⟨r, 0, none⟩ = some v0 := fun o => cell_of_row _ r 0 _ _ _ (hA o)
  have hs4 : ∀ o, (w.alloc o).cell? ⟨r, 1, none⟩ = some (.int .i64 e0) := fun o => cell_of_row _ r 1 _ _ _ (hA o)
  have hs5 : ∀ o j, (w.alloc o).frozen? ⟨r, j, none⟩ = false := fun o j => by simp [World.frozen?, hA o]
  have hq1 : ∀ o u j, ((w.alloc o).setCell ⟨r, j, none⟩ u).cell? ⟨s, 0, none⟩ = some (.slice A sn sc) := fun o u j => (World.cell?_setCell_other _ _ _ _ (by intro e; injection e with e; exact hsr e.symm)).trans (hs1 o)
  have hq2 : ∀ o u j, ((w.alloc o).setCell ⟨r, j, none⟩ u).cell? ⟨rb, 0, none⟩ = some (.pointer (some ⟨r, 0, none⟩)) := fun o u j => (World.cell?_setCell_other _ _ _ _ (by intro e; injection e with e; exact hbr e.symm)).trans (hs2 o)
  have hq3 : ∀ x u j, ((w.alloc (.cells #[x] 90)).setCell ⟨r, j, none⟩ u).cell? ⟨w.heap.size, 0, none⟩ = some x := fun x u j => (World.cell?_setCell_other _ _ _ _ (by intro e; injection e with e; omega)).trans (cell_of_row _ _ 0 _ _ _ (heap_alloc_new w _))
  have hq4 : ∀ o u, ((w.alloc o).setCell ⟨r, 0, none⟩ u).cell? ⟨r, 1, none⟩ = some (.int .i64 e0) := fun o u => (World.cell?_setCell_other _ _ _ _ (by intro e; injection e with e1 e2; cases e2)).trans (hs4 o)
  have hq5 : ∀ o u, ((w.alloc o).setCell ⟨r, 1, none⟩ u).cell? ⟨r, 0, none⟩ = some v0 := fun o u => (World.cell?_setCell_other _ _ _ _ (by intro e; injection e with e1 e2; cases e2)).trans (hs3 o)
  have hq6 : ∀ o u j i, ((w.alloc o).setCell ⟨r, j, none⟩ u).frozen? ⟨r, i, none⟩ = false := fun o u j i => (World.frozen?_setCell _ _ _ _).trans (hs5 o i)
  have H3 := Lib.hid h3
  clear hA h3 h1 h2 hlt
  have hta := tassert
  refine callsD_of_wpS Tryd.func49 rfl fun c₀ cs hu => ?_
  apply wpS_seq
  apply wpS_region
  simp [wpOpsS, go_sem, recoverD, hu, Tryd.ntmps49, Exit.thenS]
  apply wpS_seq
  apply wpS_region
  simp [wpOpsS, go_sem, Exit.thenS]
  refine wpS_cond (t := true) (by simp [Act.eval, Array.replicate]) ?_
  simp only [if_true]
  refine wpS_of_wp ?_
  refine Code.wp_mono (Q := EndsAs (Caught w r (.slice A sn sc) k)) ?_ ?_
  · rintro e a w' ⟨rfl, hd, hc⟩
    exact ⟨hd, _, rfl, _, by simp [results, Tryd.results49], rfl, rfl, hc⟩
  · simp only [Array.replicate_succ, Array.replicate_zero, List.push_toArray, List.append_toArray, List.nil_append, List.cons_append, List.setIfInBounds_toArray, List.set]
    go_wp2
    go_region
    exact ⟨rfl, rfl, caught_of H3.out⟩

theorem idle_list (s rb : Addr) (w : World) :
    CallsD Tryd.prog 45 #[.pointer (some s), .pointer (some rb)] .returning w fun e u' w' => e = .returned (.tuple #[]) ∧ u' = .returning ∧ w = w' := by
  refine callsD_of_wpS Tryd.func45 rfl fun c₀ cs hu => ?_
  apply wpS_seq
  apply wpS_region
  simp [wpOpsS, go_sem, recoverD, hu, Tryd.ntmps45, Exit.thenS]
  apply wpS_seq
  apply wpS_region
  simp [wpOpsS, go_sem, Exit.thenS]
  refine wpS_cond (t := false) (by simp [Act.eval, Array.replicate]) ?_
  simp only [Bool.false_eq_true, if_false]
  refine wpS_of_wp (wp_skip ?_)
  cases c₀
  simp_all [bodyPostS, results, Tryd.results45]

set_option maxRecDepth 100000 in
set_option maxHeartbeats 800000 in
theorem catch_list (s rb r : Nat) (k : Int) (older : List PanicEntry) (w : World) (A : Option Addr) (sn sc : Nat) (v0 : Value) (e0 : Int)
    (h1 : w.cell? ⟨s, 0, none⟩ = some (.slice A sn sc)) (h2 : w.cell? ⟨rb, 0, none⟩ = some (.pointer (some ⟨r, 0, none⟩))) (h3 : w.heap[r]? = some (.cells #[v0, .int .i64 e0] 76 (0, 0))) (hsr : s ≠ r) (hbr : rb ≠ r) :
    CallsD Tryd.prog 45 #[.pointer (some ⟨s, 0, none⟩), .pointer (some ⟨rb, 0, none⟩)] (.panicking ({ v := .iface 90 (.agg #[.int .i64 k]), recovered := false } :: older)) w fun e u' w' =>
      e = .returned (.tuple #[]) ∧ u' = .panicking ({ v := .iface 90 (.agg #[.int .i64 k]), recovered := true } :: older) ∧ Caught w r (.slice A sn sc) k w' := by
  have hlt : r < w.heap.size := (Array.getElem?_eq_some_iff.1 h3).1
  have hA : ∀ o, (w.alloc o).heap[r]? = some (.cells #[v0, .int .i64 e0] 76 (0, 0)) := fun o => (Below.heap_alloc _ _ _ hlt).trans h3
  have hs1 : ∀ o, (w.alloc o).cell? ⟨s, 0, none⟩ = some (.slice A sn sc) := fun o => cell_later (Below.alloc (Below.refl _ _) (Nat.le_refl _) o) h1
  have hs2 : ∀ o, (w.alloc o).cell? ⟨rb, 0, none⟩ = some (.pointer (some ⟨r, 0, none⟩)) := fun o => cell_later (Below.alloc (Below.refl _ _) (Nat.le_refl _) o) h2
  have hs3 : ∀ o, (w.alloc o).cell? ⟨r, 0, none⟩ = some v0 := fun o => cell_of_row _ r 0 _ _ _ (hA o)
  have hs4 : ∀ o, (w.alloc o).cell? ⟨r, 1, none⟩ = some (.int .i64 e0) := fun o => cell_of_row _ r 1 _ _ _ (hA o)
  have hs5 : ∀ o j, (w.alloc o).frozen? ⟨r, j, none⟩ = false := fun o j => by simp [World.frozen?, hA o]
  have hq1 : ∀ o u j, ((w.alloc o).setCell ⟨r, j, none⟩ u).cell? ⟨s, 0, none⟩ = some (.slice A sn sc) := fun o u j => (World.cell?_setCell_other _ _ _ _ (by intro e; injection e with e; exact hsr e.symm)).trans (hs1 o)
  have hq2 : ∀ o u j, ((w.alloc o).setCell ⟨r, j, none⟩ u).cell? ⟨rb, 0, none⟩ = some (.pointer (some ⟨r, 0, none⟩)) := fun o u j => (World.cell?_setCell_other _ _ _ _ (by intro e; injection e with e; exact hbr e.symm)).trans (hs2 o)
  have hq3 : ∀ x u j, ((w.alloc (.cells #[x] 90)).setCell ⟨r, j, none⟩ u).cell? ⟨w.heap.size, 0, none⟩ = some x := fun x u j => (World.cell?_setCell_other _ _ _ _ (by intro e; injection e with e; omega)).trans (cell_of_row _ _ 0 _ _ _ (heap_alloc_new w _))
  have hq4 : ∀ o u, ((w.alloc o).setCell ⟨r, 0, none⟩ u).cell? ⟨r, 1, none⟩ = some (.int .i64 e0) := fun o u => (World.cell?_setCell_other _ _ _ _ (by intro e; injection e with e1 e2; cases e2)).trans (hs4 o)
  have hq5 : ∀ o u, ((w.alloc o).setCell ⟨r, 1, none⟩ u).cell? ⟨r, 0, none⟩ = some v0 := fun o u => (World.cell?_setCell_other _ _ _ _ (by intro e; injection e with e1 e2; cases e2)).trans (hs3 o)
  have hq6 : ∀ o u j i, ((w.alloc o).setCell ⟨r, j, none⟩ u).frozen? ⟨r, i, none⟩ = false := fun o u j i => (World.frozen?_setCell _ _ _ _).trans (hs5 o i)
  have H3 := Lib.hid h3
  clear hA h3 h1 h2 hlt
  have hta := tassert
  refine callsD_of_wpS Tryd.func45 rfl fun c₀ cs hu => ?_
  apply wpS_seq
  apply wpS_region
  simp [wpOpsS, go_sem, recoverD, hu, Tryd.ntmps45, Exit.thenS]
  apply wpS_seq
  apply wpS_region
  simp [wpOpsS, go_sem, Exit.thenS]
  refine wpS_cond (t := true) (by simp [Act.eval, Array.replicate]) ?_
  simp only [if_true]
  refine wpS_of_wp ?_
  refine Code.wp_mono (Q := EndsAs (Caught w r (.slice A sn sc) k)) ?_ ?_
  · rintro e a w' ⟨rfl, hd, hc⟩
    exact ⟨hd, _, rfl, _, by simp [results, Tryd.results45], rfl, rfl, hc⟩
  · simp only [Array.replicate_succ, Array.replicate_zero, List.push_toArray, List.append_toArray, List.nil_append, List.cons_append, List.setIfInBounds_toArray, List.set]
    go_wp2
    go_region
    exact ⟨rfl, rfl, caught_of H3.out⟩

end Go.Proofs.YtjdicifickjggaaDoor

/-
  What the one generic reading function does, an instance and a step each: it answers as the step does, or leaves the reader where it was, with the error; behind an error it does nothing. Conditions: sizes within the reach.
-/
namespace Go.Proofs.YtjdicifickjggaaDoor
open Go.RowKit

/-- A step answers some value; what holds of it and of the world behind it. -/
def Ans (U : Value → World → Prop) (e : Ending) (w' : World) : Prop := ∃ u, e = .returned u ∧ U u w'

/-- The reader is where it was, and has the error. -/
def Fell (w : World) (r B : Nat) (v : Value) (k : Int) (xs : List UInt8) (w' : World) : Prop := Cu w' r B v k xs ∧ Turns (fun i => i = r) w w'

theorem fell_of {w w1 w2 w3 : World} {r B : Nat} {v v1 : Value} {k c : Int} {xs ys : List UInt8} (hc : Cu w r B v k xs) (hb : Below w.heap.size w w1)
    (_h1 : Cu w2 r B v1 k ys) (ht : Turns (fun i => i = r) w1 w2) (h : Caught w2 r v c w3) : Fell w r B v c xs w3 := by
  have ht1 : Turns (fun i => i = r) w w1 := Turns.of_below hb
  have ht3 : Turns (fun i => i = r) w w3 := (ht1.trans ht (fun _ _ h => h)).trans h.2 (fun _ _ h => h)
  refine ⟨⟨h.1, hc.2.1.keep fun b o hb' => ht3.cell (p := ⟨b, o, none⟩) ?_ ?_, hc.2.2⟩, ht3⟩
  · have := hc.lt
    have := hc.2.2
    show b < _
    omega
  · have := hc.2.2
    intro e
    simp only at e
    omega


set_option maxRecDepth 100000 in
set_option maxHeartbeats 400000 in
theorem late_u64 (r B : Nat) (v fv : Value) (k : Int) (xs : List UInt8) (w : World) (hk : (k != 0) = true) (hc : Cu w r B v k xs) :
    Calls Tryd.prog 37 #[.pointer (some ⟨r, 0, none⟩), fv] w (Ans (fun u w' => u = (.int .u64 0) ∧ Cu w' r B v k xs ∧ Below w.heap.size w w')) := by
  have hA : ∀ o, (w.alloc o).cell? ⟨r, 1, none⟩ = some (.int .i64 k) := fun o => (hc.alloc o).cell1
  go_enter_defers Tryd.func37, Tryd.ntmps37
  go_wp2
  refine ⟨_, results_tmp rfl _ _ _, ?_⟩
  exact ⟨_, rfl, rfl, hc.alloc _, (Below.refl _ _).alloc (Nat.le_refl _) _⟩

set_option maxRecDepth 100000 in
set_option maxHeartbeats 800000 in
theorem goes_u64_u64 (r B : Nat) (v : Value) (k : Int) (xs : List UInt8) (w : World) (hk : (k != 0) = false) (hc : Cu w r B v k xs) (U : Value → World → Prop)
    (hstep : ∀ w1, Below w.heap.size w w1 → Calls Tryd.prog 38 #[.pointer (some ⟨r, 0, none⟩)] w1 (Ans U)) :
    Calls Tryd.prog 37 #[.pointer (some ⟨r, 0, none⟩), .func (.func 38) #[] #[]] w (Ans U) := by
  obtain ⟨A, c, rfl⟩ := hc.2.1.form
  have hA1 : ∀ o, (w.alloc o).cell? ⟨r, 1, none⟩ = some (.int .i64 k) := fun o => (hc.alloc o).cell1
  have hA0 : ∀ o, (w.alloc o).cell? ⟨r, 0, none⟩ = some (.slice A xs.length c) := fun o => (hc.alloc o).cell
  have hmf : ∀ (fn : Fn) (first cap : Array Value) (w : World), (Instr.makeFunc fn first cap).run Tryd.prog w = .ok (.func fn first cap) w := fun _ _ _ _ => rfl
  have HS := Lib.hid hstep
  clear hstep
  go_enter_defers Tryd.func37, Tryd.ntmps37
  go_wp2_with fail
  refine (HS.out _ ?_).mono ?_
  · exact ((Below.refl _ _).alloc (Nat.le_refl _) _).alloc (by simp) _
  rintro e w2 ⟨u, rfl, hP⟩
  go_wp2
  refine leaves_cons (f := 49) (args := #[.pointer (some ⟨w.heap.size + 1, 0, none⟩), .pointer (some ⟨w.heap.size, 0, none⟩)]) (by simp) (by simp [go_sem]) ?_
  refine (idle_u64 _ _ _).mono ?_
  rintro e u' w'' ⟨rfl, rfl, rfl⟩
  refine ⟨_, results_tmp rfl _ _ _, ?_⟩
  exact ⟨u, rfl, hP⟩

set_option maxRecDepth 100000 in
set_option maxHeartbeats 800000 in
theorem falls_u64_u64 (r B : Nat) (v : Value) (k c : Int) (xs : List UInt8) (w : World) (hk : (k != 0) = false) (hc : Cu w r B v k xs)
    (hstep : ∀ w1, Below w.heap.size w w1 → Calls Tryd.prog 38 #[.pointer (some ⟨r, 0, none⟩)] w1 (Stops w1 r B k c)) :
    Calls Tryd.prog 37 #[.pointer (some ⟨r, 0, none⟩), .func (.func 38) #[] #[]] w (Ans (fun u w' => u = (.int .u64 0) ∧ Fell w r B v c xs w')) := by
  obtain ⟨A, sc, rfl⟩ := hc.2.1.form
  have hA1 : ∀ o, (w.alloc o).cell? ⟨r, 1, none⟩ = some (.int .i64 k) := fun o => (hc.alloc o).cell1
  have hA0 : ∀ o, (w.alloc o).cell? ⟨r, 0, none⟩ = some (.slice A xs.length sc) := fun o => (hc.alloc o).cell
  have hmf : ∀ (fn : Fn) (first cap : Array Value) (w : World), (Instr.makeFunc fn first cap).run Tryd.prog w = .ok (.func fn first cap) w := fun _ _ _ _ => rfl
  have HS := Lib.hid hstep
  clear hstep
  go_enter_defers Tryd.func37, Tryd.ntmps37
  go_wp2_with fail
  refine (HS.out _ ?_).mono ?_
  · exact ((Below.refl _ _).alloc (Nat.le_refl _) _).alloc (by simp) _
  rintro e w2 ⟨rfl, v1, ys, hc1, ht1⟩
  have hlt := hc.lt
  have g1 : w2.cell? ⟨w.heap.size + 1, 0, none⟩ = some (.slice A xs.length sc) := by
    rw [ht1.cell (p := ⟨w.heap.size + 1, 0, none⟩) (by simp) (by show ¬ w.heap.size + 1 = r; omega)]
    simp [go_sem]
  have g2 : w2.cell? ⟨w.heap.size, 0, none⟩ = some (.pointer (some ⟨r, 0, none⟩)) := by
    rw [ht1.cell (p := ⟨w.heap.size, 0, none⟩) (by simp; omega) (by show ¬ w.heap.size = r; omega)]
    simp [go_sem]
  have HF : ∀ w3, Caught w2 r (.slice A xs.length sc) c w3 → Fell w r B (.slice A xs.length sc) c xs w3 := fun w3 h3 => fell_of hc (((Below.refl _ _).alloc (Nat.le_refl _) _).alloc (by simp) _) hc1 ht1 h3
  have HH := Lib.hid HF
  clear HF ht1
  unfold flt
  go_wp2
  refine leaves_cons (f := 49) (args := #[.pointer (some ⟨w.heap.size + 1, 0, none⟩), .pointer (some ⟨w.heap.size, 0, none⟩)]) (by simp) (by simp [go_sem]) ?_
  refine (catch_u64 (w.heap.size + 1) w.heap.size r c [] w2 A xs.length sc _ k g1 g2 hc1.1 (by omega) (by omega)).mono ?_
  rintro e u' w3 ⟨rfl, rfl, hcau⟩
  refine ⟨_, results_tmp rfl _ _ _, ?_⟩
  exact ⟨_, rfl, rfl, HH.out w3 hcau⟩

set_option maxRecDepth 100000 in
set_option maxHeartbeats 800000 in
theorem goes_u64_size (r B : Nat) (v : Value) (k : Int) (xs : List UInt8) (w : World) (hk : (k != 0) = false) (hc : Cu w r B v k xs) (U : Value → World → Prop)
    (hstep : ∀ w1, Below w.heap.size w w1 → Calls Tryd.prog 46 #[.pointer (some ⟨r, 0, none⟩)] w1 (Ans U)) :
    Calls Tryd.prog 37 #[.pointer (some ⟨r, 0, none⟩), .func (.func 46) #[] #[]] w (Ans U) := by
  obtain ⟨A, c, rfl⟩ := hc.2.1.form
  have hA1 : ∀ o, (w.alloc o).cell? ⟨r, 1, none⟩ = some (.int .i64 k) := fun o => (hc.alloc o).cell1
  have hA0 : ∀ o, (w.alloc o).cell? ⟨r, 0, none⟩ = some (.slice A xs.length c) := fun o => (hc.alloc o).cell
  have hmf : ∀ (fn : Fn) (first cap : Array Value) (w : World), (Instr.makeFunc fn first cap).run Tryd.prog w = .ok (.func fn first cap) w := fun _ _ _ _ => rfl
  have HS := Lib.hid hstep
  clear hstep
  go_enter_defers Tryd.func37, Tryd.ntmps37
  go_wp2_with fail
  refine (HS.out _ ?_).mono ?_
  · exact ((Below.refl _ _).alloc (Nat.le_refl _) _).alloc (by simp) _
  rintro e w2 ⟨u, rfl, hP⟩
  go_wp2
  refine leaves_cons (f := 49) (args := #[.pointer (some ⟨w.heap.size + 1, 0, none⟩), .pointer (some ⟨w.heap.size, 0, none⟩)]) (by simp) (by simp [go_sem]) ?_
  refine (idle_u64 _ _ _).mono ?_
  rintro e u' w'' ⟨rfl, rfl, rfl⟩
  refine ⟨_, results_tmp rfl _ _ _, ?_⟩
  exact ⟨u, rfl, hP⟩

set_option maxRecDepth 100000 in
set_option maxHeartbeats 800000 in
theorem falls_u64_size (r B : Nat) (v : Value) (k c : Int) (xs : List UInt8) (w : World) (hk : (k != 0) = false) (hc : Cu w r B v k xs)
    (hstep : ∀ w1, Below w.heap.size w w1 → Calls Tryd.prog 46 #[.pointer (some ⟨r, 0, none⟩)] w1 (Stops w1 r B k c)) :
    Calls Tryd.prog 37 #[.pointer (some ⟨r, 0, none⟩), .func (.func 46) #[] #[]] w (Ans (fun u w' => u = (.int .u64 0) ∧ Fell w r B v c xs w')) := by
  obtain ⟨A, sc, rfl⟩ := hc.2.1.form
  have hA1 : ∀ o, (w.alloc o).cell? ⟨r, 1, none⟩ = some (.int .i64 k) := fun o => (hc.alloc o).cell1
  have hA0 : ∀ o, (w.alloc o).cell? ⟨r, 0, none⟩ = some (.slice A xs.length sc) := fun o => (hc.alloc o).cell
  have hmf : ∀ (fn : Fn) (first cap : Array Value) (w : World), (Instr.makeFunc fn first cap).run Tryd.prog w = .ok (.func fn first cap) w := fun _ _ _ _ => rfl
  have HS := Lib.hid hstep
  clear hstep
  go_enter_defers Tryd.func37, Tryd.ntmps37
  go_wp2_with fail
  refine (HS.out _ ?_).mono ?_
  · exact ((Below.refl _ _).alloc (Nat.le_refl _) _).alloc (by simp) _
  rintro e w2 ⟨rfl, v1, ys, hc1, ht1⟩
  have hlt := hc.lt
  have g1 : w2.cell? ⟨w.heap.size + 1, 0, none⟩ = some (.slice A xs.length sc) := by
    rw [ht1.cell (p := ⟨w.heap.size + 1, 0, none⟩) (by simp) (by show ¬ w.heap.size + 1 = r; omega)]
    simp [go_sem]
  have g2 : w2.cell? ⟨w.heap.size, 0, none⟩ = some (.pointer (some ⟨r, 0, none⟩)) := by
    rw [ht1.cell (p := ⟨w.heap.size, 0, none⟩) (by simp; omega) (by show ¬ w.heap.size = r; omega)]
    simp [go_sem]
  have HF : ∀ w3, Caught w2 r (.slice A xs.length sc) c w3 → Fell w r B (.slice A xs.length sc) c xs w3 := fun w3 h3 => fell_of hc (((Below.refl _ _).alloc (Nat.le_refl _) _).alloc (by simp) _) hc1 ht1 h3
  have HH := Lib.hid HF
  clear HF ht1
  unfold flt
  go_wp2
  refine leaves_cons (f := 49) (args := #[.pointer (some ⟨w.heap.size + 1, 0, none⟩), .pointer (some ⟨w.heap.size, 0, none⟩)]) (by simp) (by simp [go_sem]) ?_
  refine (catch_u64 (w.heap.size + 1) w.heap.size r c [] w2 A xs.length sc _ k g1 g2 hc1.1 (by omega) (by omega)).mono ?_
  rintro e u' w3 ⟨rfl, rfl, hcau⟩
  refine ⟨_, results_tmp rfl _ _ _, ?_⟩
  exact ⟨_, rfl, rfl, HH.out w3 hcau⟩

set_option maxRecDepth 100000 in
set_option maxHeartbeats 400000 in
theorem late_list (r B : Nat) (v fv : Value) (k : Int) (xs : List UInt8) (w : World) (hk : (k != 0) = true) (hc : Cu w r B v k xs) :
    Calls Tryd.prog 34 #[.pointer (some ⟨r, 0, none⟩), fv] w (Ans (fun u w' => u = (.slice none 0 0) ∧ Cu w' r B v k xs ∧ Below w.heap.size w w')) := by
  have hA : ∀ o, (w.alloc o).cell? ⟨r, 1, none⟩ = some (.int .i64 k) := fun o => (hc.alloc o).cell1
  go_enter_defers Tryd.func34, Tryd.ntmps34
  go_wp2
  refine ⟨_, results_tmp rfl _ _ _, ?_⟩
  exact ⟨_, rfl, rfl, hc.alloc _, (Below.refl _ _).alloc (Nat.le_refl _) _⟩

set_option maxRecDepth 100000 in
set_option maxHeartbeats 800000 in
theorem goes_list_bytes (r B : Nat) (v q : Value) (k : Int) (xs : List UInt8) (w : World) (hk : (k != 0) = false) (hc : Cu w r B v k xs) (U : Value → World → Prop)
    (hstep : ∀ w1, Below w.heap.size w w1 → Calls Tryd.prog 35 #[.pointer (some ⟨r, 0, none⟩), q] w1 (Ans U)) :
    Calls Tryd.prog 34 #[.pointer (some ⟨r, 0, none⟩), .func (.func 35) #[] #[q]] w (Ans U) := by
  obtain ⟨A, c, rfl⟩ := hc.2.1.form
  have hA1 : ∀ o, (w.alloc o).cell? ⟨r, 1, none⟩ = some (.int .i64 k) := fun o => (hc.alloc o).cell1
  have hA0 : ∀ o, (w.alloc o).cell? ⟨r, 0, none⟩ = some (.slice A xs.length c) := fun o => (hc.alloc o).cell
  have hmf : ∀ (fn : Fn) (first cap : Array Value) (w : World), (Instr.makeFunc fn first cap).run Tryd.prog w = .ok (.func fn first cap) w := fun _ _ _ _ => rfl
  have HS := Lib.hid hstep
  clear hstep
  go_enter_defers Tryd.func34, Tryd.ntmps34
  go_wp2_with fail
  refine (HS.out _ ?_).mono ?_
  · exact ((Below.refl _ _).alloc (Nat.le_refl _) _).alloc (by simp) _
  rintro e w2 ⟨u, rfl, hP⟩
  go_wp2
  refine leaves_cons (f := 45) (args := #[.pointer (some ⟨w.heap.size + 1, 0, none⟩), .pointer (some ⟨w.heap.size, 0, none⟩)]) (by simp) (by simp [go_sem]) ?_
  refine (idle_list _ _ _).mono ?_
  rintro e u' w'' ⟨rfl, rfl, rfl⟩
  refine ⟨_, results_tmp rfl _ _ _, ?_⟩
  exact ⟨u, rfl, hP⟩

set_option maxRecDepth 100000 in
set_option maxHeartbeats 800000 in
theorem falls_list_bytes (r B : Nat) (v q : Value) (k c : Int) (xs : List UInt8) (w : World) (hk : (k != 0) = false) (hc : Cu w r B v k xs)
    (hstep : ∀ w1, Below w.heap.size w w1 → Calls Tryd.prog 35 #[.pointer (some ⟨r, 0, none⟩), q] w1 (Stops w1 r B k c)) :
    Calls Tryd.prog 34 #[.pointer (some ⟨r, 0, none⟩), .func (.func 35) #[] #[q]] w (Ans (fun u w' => u = (.slice none 0 0) ∧ Fell w r B v c xs w')) := by
  obtain ⟨A, sc, rfl⟩ := hc.2.1.form
  have hA1 : ∀ o, (w.alloc o).cell? ⟨r, 1, none⟩ = some (.int .i64 k) := fun o => (hc.alloc o).cell1
  have hA0 : ∀ o, (w.alloc o).cell? ⟨r, 0, none⟩ = some (.slice A xs.length sc) := fun o => (hc.alloc o).cell
  have hmf : ∀ (fn : Fn) (first cap : Array Value) (w : World), (Instr.makeFunc fn first cap).run Tryd.prog w = .ok (.func fn first cap) w := fun _ _ _ _ => rfl
  have HS := Lib.hid hstep
  clear hstep
  go_enter_defers Tryd.func34, Tryd.ntmps34
  go_wp2_with fail
  refine (HS.out _ ?_).mono ?_
  · exact ((Below.refl _ _).alloc (Nat.le_refl _) _).alloc (by simp) _
  rintro e w2 ⟨rfl, v1, ys, hc1, ht1⟩
  have hlt := hc.lt
  have g1 : w2.cell? ⟨w.heap.size + 1, 0, none⟩ = some (.slice A xs.length sc) := by
    rw [ht1.cell (p := ⟨w.heap.size + 1, 0, none⟩) (by simp) (by show ¬ w.heap.size + 1 = r; omega)]
    simp [go_sem]
  have g2 : w2.cell? ⟨w.heap.size, 0, none⟩ = some (.pointer (some ⟨r, 0, none⟩)) := by
    rw [ht1.cell (p := ⟨w.heap.size, 0, none⟩) (by simp; omega) (by show ¬ w.heap.size = r; omega)]
    simp [go_sem]
  have HF : ∀ w3, Caught w2 r (.slice A xs.length sc) c w3 → Fell w r B (.slice A xs.length sc) c xs w3 := fun w3 h3 => fell_of hc (((Below.refl _ _).alloc (Nat.le_refl _) _).alloc (by simp) _) hc1 ht1 h3
  have HH := Lib.hid HF
  clear HF ht1
  unfold flt
  go_wp2
  refine leaves_cons (f := 45) (args := #[.pointer (some ⟨w.heap.size + 1, 0, none⟩), .pointer (some ⟨w.heap.size, 0, none⟩)]) (by simp) (by simp [go_sem]) ?_
  refine (catch_list (w.heap.size + 1) w.heap.size r c [] w2 A xs.length sc _ k g1 g2 hc1.1 (by omega) (by omega)).mono ?_
  rintro e u' w3 ⟨rfl, rfl, hcau⟩
  refine ⟨_, results_tmp rfl _ _ _, ?_⟩
  exact ⟨_, rfl, rfl, HH.out w3 hcau⟩

end Go.Proofs.YtjdicifickjggaaDoor

/-
  What the steps that read lists do (a copy comes back). Conditions: sizes within the reach.
-/
namespace Go.Proofs.YtjdicifickjggaaDoor
open Go.RowKit

/-- Bytes are taken: a slice of the reader's own memory. -/
def Takes (w : World) (r B : Nat) (k : Int) (zs ys : List UInt8) (e : Ending) (w' : World) : Prop :=
  ∃ A c, Goes w r B k (.slice A zs.length c) ys e w' ∧ Byt w' B (.slice A zs.length c) zs

/-- A list: a size, and so many bytes, but not more than most. -/
def listP (most : Int) (xs : List UInt8) : Except Int (List UInt8 × List UInt8) :=
  match sizeP xs with
  | .error c => .error c
  | .ok (n, ys) => if n > most then .error 2 else if ys.length < n then .error 4 else .ok (ys.take n.toNat, ys.drop n.toNat)

theorem sizeP_bd {xs ys : List UInt8} {n : Int} (h : sizeP xs = .ok (n, ys)) : 0 ≤ n ∧ n ≤ 33554432 := by
  unfold sizeP at h
  split at h
  · cases h
  split at h
  · have := val_take_lt xs 1
    cases h
    omega
  split at h
  · cases h
  split at h
  · cases h
  split at h
  · cases h
  · have := (val_bd ((xs.drop 1).take (wd (val (xs.take 1))))).1
    cases h
    omega

theorem csize_ok (r B : Nat) (v : Value) (k : Int) (n : Int) (xs ys : List UInt8) (w : World) (h : sizeP xs = .ok (n, ys)) (hc : Cu w r B v k xs) :
    Calls Tryd.prog 46 #[.pointer (some ⟨r, 0, none⟩)] w (Goes w r B k (.int .u64 n) ys) :=
  (csize_any r B v k xs w hc).mono fun _ _ hh => by unfold sizeV at hh; rw [h] at hh; exact hh
theorem csize_bad (r B : Nat) (v : Value) (k : Int) (c : Int) (xs : List UInt8) (w : World) (h : sizeP xs = .error c) (hc : Cu w r B v k xs) :
    Calls Tryd.prog 46 #[.pointer (some ⟨r, 0, none⟩)] w (Stops w r B k c) :=
  (csize_any r B v k xs w hc).mono fun _ _ hh => by unfold sizeV at hh; rw [h] at hh; exact hh

set_option maxRecDepth 100000 in
set_option maxHeartbeats 800000 in
theorem clist_ok (r B : Nat) (v : Value) (k n most : Int) (xs ys : List UInt8) (w : World) (h : sizeP xs = .ok (n, ys)) (h1 : n ≤ most) (h2 : n ≤ ys.length) (hc : Cu w r B v k xs) :
    Calls Tryd.prog 36 #[.pointer (some ⟨r, 0, none⟩), .int .i64 most] w (Takes w r B k (ys.take n.toNat) (ys.drop n.toNat)) := by
  obtain ⟨hn0, hn1⟩ := sizeP_bd h
  have hs := csize_ok r B v k n xs ys w h hc
  have HS := Lib.hid hs
  have hlen : (ys.take n.toNat).length = n.toNat := by rw [List.length_take]; omega
  have HL := Lib.hid hlen
  obtain ⟨zs, hzs⟩ : ∃ zs, zs = ys.take n.toNat := ⟨_, rfl⟩
  obtain ⟨ds, hds⟩ : ∃ ds, ds = ys.drop n.toNat := ⟨_, rfl⟩
  rw [← hzs] at HL
  rw [← hzs, ← hds]
  have HZ := Lib.hid hzs
  have HD := Lib.hid hds
  clear hs h hlen hzs hds
  go_enter Tryd.func36, Tryd.ntmps36
  go_wp2_with fail
  refine HS.out.mono ?_
  rintro e w1 ⟨rfl, v1, hc1, ht1⟩
  go_wp2_with fail
  refine (take_ok r B v1 k n ys w1 hn0 h2 hc1).mono ?_
  rintro e w2 ⟨A, c, ⟨rfl, v2, hc2, ht2⟩, hby⟩
  rw [← HZ.out, ← HD.out] at *
  go_wp2
  go_ret
  refine ⟨A, c, ⟨?_, v2, hc2, ht1.trans ht2 (fun _ _ h => h)⟩, ?_⟩
  · rw [HL.out]; rfl
  · rw [HL.out]; exact hby


set_option maxRecDepth 100000 in
set_option maxHeartbeats 800000 in
theorem clist_bad (r B : Nat) (v : Value) (k c most : Int) (xs : List UInt8) (w : World) (h : listP most xs = .error c) (hc : Cu w r B v k xs) :
    Calls Tryd.prog 36 #[.pointer (some ⟨r, 0, none⟩), .int .i64 most] w (Stops w r B k c) := by
  unfold listP at h
  cases hs : sizeP xs with
  | error c' =>
    rw [hs] at h
    injection h with h
    subst h
    have hst := csize_bad r B v k c' xs w hs hc
    have HS := Lib.hid hst
    clear hst hs
    go_enter Tryd.func36, Tryd.ntmps36
    go_wp2_with fail
    refine HS.out.mono ?_
    rintro e w1 ⟨rfl, hst⟩
    go_wp2
    exact ⟨rfl, rfl, hst⟩
  | ok p =>
    obtain ⟨n, ys⟩ := p
    rw [hs] at h
    obtain ⟨hn0, hn1⟩ := sizeP_bd hs
    have hst := csize_ok r B v k n xs ys w hs hc
    have HS := Lib.hid hst
    clear hst hs
    simp only at h
    by_cases h1 : n > most
    · rw [if_pos h1] at h
      injection h with h
      have HC := Lib.hid h
      clear h
      go_enter Tryd.func36, Tryd.ntmps36
      go_wp2_with fail
      refine HS.out.mono ?_
      rintro e w1 ⟨rfl, v1, hc1, ht1⟩
      go_wp2_with fail
      refine (fail_any _ _).mono ?_
      rintro e w2 ⟨rfl, rfl⟩
      go_wp2
      refine ⟨rfl, ?_, v1, ys, hc1, ht1⟩
      rw [← HC.out]
    · rw [if_neg h1] at h
      by_cases h2 : ys.length < n
      · rw [if_pos h2] at h
        injection h with h
        have HC := Lib.hid h
        clear h
        go_enter Tryd.func36, Tryd.ntmps36
        go_wp2_with fail
        refine HS.out.mono ?_
        rintro e w1 ⟨rfl, v1, hc1, ht1⟩
        go_wp2_with fail
        refine (take_end r B v1 k n ys w1 h2 hc1).mono ?_
        rintro e w2 ⟨rfl, v2, zs, hc2, ht2⟩
        go_wp2
        refine ⟨rfl, ?_, v2, zs, hc2, ht1.trans ht2 (fun _ _ h => h)⟩
        rw [← HC.out]
      · rw [if_neg h2] at h
        cases h

/-- A copy of bytes comes back, in new memory; the reader moves on. -/
def Copied (w : World) (r B : Nat) (k : Int) (zs ys : List UInt8) (u : Value) (w' : World) : Prop :=
  ∃ A c, u = .slice A zs.length c ∧ w'.ownsRow w.heap.size 5 1 (.slice A zs.length c) zs.length (zs.map bv) ∧ ∃ v', Cu w' r B v' k ys ∧ Turns (fun i => i = r) w w'

theorem copied_of {w w1 w2 : World} {r B : Nat} {k : Int} {zs ys : List UInt8} {v' : Value} {A : Option Addr} {c : Nat} (hc : Cu w1 r B v' k ys) (ht : Turns (fun i => i = r) w w1)
    (hown : w2.ownsRow w1.heap.size 5 1 (.slice A zs.length c) zs.length (zs.map bv)) (hb : Below w1.heap.size w1 w2) : Copied w r B k zs ys (.slice A zs.length c) w2 := by
  refine ⟨A, c, rfl, ⟨hown.1, ?_⟩, v', hc.below hb, ht.trans (Turns.of_below (S := fun i => i = r) hb) (fun _ _ h => h)⟩
  rcases hown.2 with h | ⟨g, cap, cur, hv, hg, rr⟩
  · exact .inl h
  · exact .inr ⟨g, cap, cur, hv, Nat.le_trans ht.size hg, rr⟩

theorem Copied.pre {w w1 w2 : World} {r B : Nat} {k : Int} {zs ys : List UInt8} {u : Value} (hb : Below w.heap.size w w1) (h : Copied w1 r B k zs ys u w2) : Copied w r B k zs ys u w2 := by
  obtain ⟨A, c, he, hown, v', hc, ht⟩ := h
  refine ⟨A, c, he, ⟨hown.1, ?_⟩, v', hc, (Turns.of_below (S := fun i => i = r) hb).trans ht (fun _ _ h => h)⟩
  rcases hown.2 with h | ⟨g, cap, cur, hv, hg, rr⟩
  · exact .inl h
  · exact .inr ⟨g, cap, cur, hv, Nat.le_trans hb.size hg, rr⟩

set_option maxRecDepth 100000 in
set_option maxHeartbeats 800000 in
theorem bytes1_ok (r B q : Nat) (v : Value) (k n most : Int) (xs ys : List UInt8) (w : World) (hq : w.cell? ⟨q, 0, none⟩ = some (.int .i64 most)) (h : sizeP xs = .ok (n, ys)) (h1 : n ≤ most) (h2 : n ≤ ys.length) (hc : Cu w r B v k xs) :
    Calls Tryd.prog 35 #[.pointer (some ⟨r, 0, none⟩), .pointer (some ⟨q, 0, none⟩)] w fun e w' => ∃ u, e = .returned u ∧ Copied w r B k (ys.take n.toNat) (ys.drop n.toNat) u w' := by
  have hl := clist_ok r B v k n most xs ys w h h1 h2 hc
  obtain ⟨hn0, hn1⟩ := sizeP_bd h
  have hlen : (ys.take n.toNat).length ≤ 33554432 := by rw [List.length_take]; omega
  obtain ⟨zs, hzs⟩ : ∃ zs, zs = ys.take n.toNat := ⟨_, rfl⟩
  obtain ⟨ds, hds⟩ : ∃ ds, ds = ys.drop n.toNat := ⟨_, rfl⟩
  rw [← hzs] at hlen
  rw [← hzs, ← hds] at hl ⊢
  have HS := Lib.hid hl
  clear hl h hzs hds
  go_enter Tryd.func35, Tryd.ntmps35
  go_wp2_with fail
  refine HS.out.mono ?_
  rintro e w1 ⟨A, c, ⟨rfl, v1, hc1, ht1⟩, hby⟩
  go_wp2_with fail
  refine (clone_any B _ zs w1 hby (by omega)).mono ?_
  rintro e w2 ⟨A2, c2, rfl, hown, hb2⟩
  go_wp2
  go_ret
  exact ⟨_, rfl, copied_of hc1 ht1 hown hb2⟩

set_option maxRecDepth 100000 in
set_option maxHeartbeats 800000 in
theorem bytes1_bad (r B q : Nat) (v : Value) (k c most : Int) (xs : List UInt8) (w : World) (hq : w.cell? ⟨q, 0, none⟩ = some (.int .i64 most)) (h : listP most xs = .error c) (hc : Cu w r B v k xs) :
    Calls Tryd.prog 35 #[.pointer (some ⟨r, 0, none⟩), .pointer (some ⟨q, 0, none⟩)] w (Stops w r B k c) := by
  have hl := clist_bad r B v k c most xs w h hc
  have HS := Lib.hid hl
  clear hl h
  go_enter Tryd.func35, Tryd.ntmps35
  go_wp2_with fail
  refine HS.out.mono ?_
  rintro e w1 ⟨rfl, hst⟩
  go_wp2
  exact ⟨rfl, rfl, hst⟩

theorem takes_ok (r B : Nat) (v : Value) (k n : Int) (xs : List UInt8) (w : World) (h0 : 0 ≤ n) (h1 : n ≤ xs.length) (hc : Cu w r B v k xs) :
    Calls Tryd.prog 48 #[.pointer (some ⟨r, 0, none⟩), .int .i64 n] w (Takes w r B k (xs.take n.toNat) (xs.drop n.toNat)) :=
  (take_ok r B v k n xs w h0 h1 hc).mono fun e w' ⟨A, c, hg, hb⟩ => by
    have hl : (xs.take n.toNat).length = n.toNat := by rw [List.length_take]; omega
    refine ⟨A, c, ?_, ?_⟩
    · rw [hl]; exact hg
    · rw [hl]; exact hb

end Go.Proofs.YtjdicifickjggaaDoor

/-
  What the reader's methods do. Conditions: sizes within the reach.
-/
namespace Go.Proofs.YtjdicifickjggaaDoor
open Go.RowKit

/-- A method answers u; the reader has the error k and the bytes ys left; nothing else has turned. -/
def Did (w : World) (r B : Nat) (u : Value) (k : Int) (ys : List UInt8) (e : Ending) (w' : World) : Prop :=
  e = .returned u ∧ ∃ v', Cu w' r B v' k ys ∧ Turns (fun i => i = r) w w'

/-- What reading a number of n bytes answers, the error behind it, the bytes left. -/
def numR (n : Nat) (k : Int) (xs : List UInt8) : Int × Int × List UInt8 :=
  if k ≠ 0 then (0, k, xs) else if xs.length < n then (0, 4, xs) else (val (xs.take n), 0, xs.drop n)
def sizeR (k : Int) (xs : List UInt8) : Int × Int × List UInt8 :=
  if k ≠ 0 then (0, k, xs) else match sizeP xs with | .error c => (0, c, xs) | .ok (n, ys) => (n, 0, ys)

theorem goes_did {w w1 : World} {r B : Nat} {k : Int} {u : Value} {ys : List UInt8} (hb : Below w.heap.size w w1) (e : Ending) (w2 : World) (h : Goes w1 r B k u ys e w2) :
    Ans (fun u' w' => u' = u ∧ ∃ v', Cu w' r B v' k ys ∧ Turns (fun i => i = r) w w') e w2 := by
  obtain ⟨he, v', hc, ht⟩ := h
  exact ⟨u, he, rfl, v', hc, (Turns.of_below (S := fun i => i = r) hb).trans ht (fun _ _ h => h)⟩
theorem ans_did {w w' : World} {r B : Nat} {k : Int} {u : Value} {ys : List UInt8} {e : Ending} (h : Ans (fun u' w' => u' = u ∧ ∃ v', Cu w' r B v' k ys ∧ Turns (fun i => i = r) w w') e w') : Did w r B u k ys e w' := by
  obtain ⟨u', he, rfl, hh⟩ := h
  exact ⟨he, hh⟩
theorem fell_did {w w' : World} {r B : Nat} {v : Value} {k : Int} {u : Value} {ys : List UInt8} {e : Ending} (h : Ans (fun u' w' => u' = u ∧ Fell w r B v k ys w') e w') : Did w r B u k ys e w' := by
  obtain ⟨u', he, rfl, hc, ht⟩ := h
  exact ⟨he, v, hc, ht⟩
theorem late_did {w w' : World} {r B : Nat} {v : Value} {k : Int} {u : Value} {ys : List UInt8} {e : Ending} (h : Ans (fun u' w' => u' = u ∧ Cu w' r B v k ys ∧ Below w.heap.size w w') e w') : Did w r B u k ys e w' := by
  obtain ⟨u', he, rfl, hc, hb⟩ := h
  exact ⟨he, v, hc, Turns.of_below hb⟩

theorem read_u64 (r B : Nat) (v : Value) (k : Int) (xs : List UInt8) (w : World) (hc : Cu w r B v k xs) :
    Calls Tryd.prog 37 #[.pointer (some ⟨r, 0, none⟩), .func (.func 38) #[] #[]] w (Did w r B (.int .u64 (numR 8 k xs).1) (numR 8 k xs).2.1 (numR 8 k xs).2.2) := by
  by_cases hk : k = 0
  · subst hk
    by_cases h : xs.length < 8
    · have hp : numR 8 0 xs = (0, 4, xs) := by unfold numR; rw [if_neg (by decide), if_pos h]
      rw [hp]
      exact (falls_u64_u64 r B v 0 4 xs w (by decide) hc fun w1 hb => (cu64_any r B v 0 xs w1 (hc.below hb)).mono fun e w2 hh => by unfold numP at hh; rw [if_pos h] at hh; exact hh).mono fun e w' hh => fell_did hh
    · have hp : numR 8 0 xs = (val (xs.take 8), 0, xs.drop 8) := by unfold numR; rw [if_neg (by decide), if_neg h]
      rw [hp]
      exact (goes_u64_u64 r B v 0 xs w (by decide) hc _ fun w1 hb => (cu64_any r B v 0 xs w1 (hc.below hb)).mono fun e w2 hh => by unfold numP at hh; rw [if_neg h] at hh; exact goes_did hb e w2 hh).mono fun e w' hh => ans_did hh
  · have hp : numR 8 k xs = (0, k, xs) := by unfold numR; rw [if_pos hk]
    rw [hp]
    exact (late_u64 r B v _ k xs w (by simpa using hk) hc).mono fun e w' hh => late_did hh

set_option maxRecDepth 100000 in
set_option maxHeartbeats 400000 in
theorem ru64_any (r B : Nat) (v : Value) (k : Int) (xs : List UInt8) (w : World) (hc : Cu w r B v k xs) :
    Calls Tryd.prog 20 #[.pointer (some ⟨r, 0, none⟩)] w (Did w r B (.int .u64 (numR 8 k xs).1) (numR 8 k xs).2.1 (numR 8 k xs).2.2) := by
  have h := read_u64 r B v k xs w hc
  obtain ⟨z, hz⟩ : ∃ z, z = (numR 8 k xs).1 := ⟨_, rfl⟩
  obtain ⟨k', hk'⟩ : ∃ k', k' = (numR 8 k xs).2.1 := ⟨_, rfl⟩
  obtain ⟨ys, hys⟩ : ∃ ys, ys = (numR 8 k xs).2.2 := ⟨_, rfl⟩
  rw [← hz, ← hk', ← hys] at h ⊢
  have HH := Lib.hid h
  clear h hz hk' hys
  go_enter Tryd.func20, Tryd.ntmps20
  go_wp2_with fail
  refine HH.out.mono ?_
  rintro e w1 ⟨rfl, hd⟩
  go_wp2
  go_ret
  exact ⟨rfl, hd⟩

theorem read_size (r B : Nat) (v : Value) (k : Int) (xs : List UInt8) (w : World) (hc : Cu w r B v k xs) :
    Calls Tryd.prog 37 #[.pointer (some ⟨r, 0, none⟩), .func (.func 46) #[] #[]] w (Did w r B (.int .u64 (sizeR k xs).1) (sizeR k xs).2.1 (sizeR k xs).2.2) := by
  by_cases hk : k = 0
  · subst hk
    cases h : sizeP xs with
    | error c =>
      have hp : sizeR 0 xs = (0, c, xs) := by unfold sizeR; rw [if_neg (by decide), h]
      rw [hp]
      exact (falls_u64_size r B v 0 c xs w (by decide) hc fun w1 hb => csize_bad r B v 0 c xs w1 h (hc.below hb)).mono fun e w' hh => fell_did hh
    | ok p =>
      obtain ⟨n, ys⟩ := p
      have hp : sizeR 0 xs = (n, 0, ys) := by unfold sizeR; rw [if_neg (by decide), h]
      rw [hp]
      exact (goes_u64_size r B v 0 xs w (by decide) hc _ fun w1 hb => (csize_ok r B v 0 n xs ys w1 h (hc.below hb)).mono fun e w2 hh => goes_did hb e w2 hh).mono fun e w' hh => ans_did hh
  · have hp : sizeR k xs = (0, k, xs) := by unfold sizeR; rw [if_pos hk]
    rw [hp]
    exact (late_u64 r B v _ k xs w (by simpa using hk) hc).mono fun e w' hh => late_did hh

/-- A method answers a copy of bytes in new memory. -/
def DidB (w : World) (r B : Nat) (k : Int) (zs ys : List UInt8) (e : Ending) (w' : World) : Prop := ∃ u, e = .returned u ∧ Copied w r B k zs ys u w'

theorem none_copied {w w' : World} {r B : Nat} {v : Value} {k : Int} {ys : List UInt8} (hc : Cu w' r B v k ys) (ht : Turns (fun i => i = r) w w') : Copied w r B k [] ys (.slice none 0 0) w' :=
  ⟨none, 0, rfl, World.ownsRow_nil _ _ _ _, v, hc, ht⟩

def rawR (n : Int) (k : Int) (xs : List UInt8) : List UInt8 × Int × List UInt8 :=
  if k ≠ 0 then ([], k, xs) else if xs.length < n then ([], 4, xs) else (xs.take n.toNat, 0, xs.drop n.toNat)
def listR (most : Int) (k : Int) (xs : List UInt8) : List UInt8 × Int × List UInt8 :=
  if k ≠ 0 then ([], k, xs) else match listP most xs with | .error c => ([], c, xs) | .ok (zs, ys) => (zs, 0, ys)

theorem read_bytes (r B q : Nat) (v : Value) (k most : Int) (xs : List UInt8) (w : World) (hq : w.cell? ⟨q, 0, none⟩ = some (.int .i64 most)) (hc : Cu w r B v k xs) :
    Calls Tryd.prog 34 #[.pointer (some ⟨r, 0, none⟩), .func (.func 35) #[] #[.pointer (some ⟨q, 0, none⟩)]] w (DidB w r B (listR most k xs).2.1 (listR most k xs).1 (listR most k xs).2.2) := by
  by_cases hk : k = 0
  · subst hk
    cases h : listP most xs with
    | error c =>
      have hp : listR most 0 xs = ([], c, xs) := by unfold listR; rw [if_neg (by decide), h]
      rw [hp]
      exact (falls_list_bytes r B v _ 0 c xs w (by decide) hc fun w1 hb => bytes1_bad r B q v 0 c most xs w1 (cell_later hb hq) h (hc.below hb)).mono fun e w' ⟨u, he, hu, hc', ht⟩ => ⟨u, he, hu ▸ none_copied hc' ht⟩
    | ok p =>
      obtain ⟨zs, ds⟩ := p
      have hp : listR most 0 xs = (zs, 0, ds) := by unfold listR; rw [if_neg (by decide), h]
      rw [hp]
      unfold listP at h
      cases hs : sizeP xs with
      | error c' => rw [hs] at h; cases h
      | ok p' =>
        obtain ⟨n, ys⟩ := p'
        rw [hs] at h
        simp only at h
        by_cases c1 : n > most
        · rw [if_pos c1] at h; cases h
        rw [if_neg c1] at h
        by_cases c2 : (ys.length : Int) < n
        · rw [if_pos c2] at h; cases h
        rw [if_neg c2] at h
        cases h
        exact goes_list_bytes r B v _ 0 xs w (by decide) hc _ fun w1 hb => (bytes1_ok r B q v 0 n most xs ys w1 (cell_later hb hq) hs (by omega) (by omega) (hc.below hb)).mono fun e w2 ⟨u, he, hu⟩ => ⟨u, he, hu.pre hb⟩
  · have hp : listR most k xs = ([], k, xs) := by unfold listR; rw [if_pos hk]
    rw [hp]
    exact (late_list r B v _ k xs w (by simpa using hk) hc).mono fun e w' ⟨u, he, hu, hc', hb⟩ => ⟨u, he, hu ▸ none_copied hc' (Turns.of_below hb)⟩

set_option maxRecDepth 100000 in
set_option maxHeartbeats 400000 in
theorem rlist_any (r B : Nat) (v : Value) (k n : Int) (xs : List UInt8) (w : World) (hc : Cu w r B v k xs) :
    Calls Tryd.prog 18 #[.pointer (some ⟨r, 0, none⟩), .int .i64 n] w (DidB w r B (listR n k xs).2.1 (listR n k xs).1 (listR n k xs).2.2) := by
  have hq : (w.alloc (.cells #[.int .i64 n] 3)).cell? ⟨w.heap.size, 0, none⟩ = some (.int .i64 n) := cell_of_row _ _ 0 _ _ _ (heap_alloc_new w _)
  have h := read_bytes r B w.heap.size v k n xs _ hq (hc.alloc _)
  have hmf : ∀ (fn : Fn) (first cap : Array Value) (w : World), (Instr.makeFunc fn first cap).run Tryd.prog w = .ok (.func fn first cap) w := fun _ _ _ _ => rfl
  obtain ⟨z, hz⟩ : ∃ z, z = (listR n k xs).1 := ⟨_, rfl⟩
  obtain ⟨k', hk'⟩ : ∃ k', k' = (listR n k xs).2.1 := ⟨_, rfl⟩
  obtain ⟨ys, hys⟩ : ∃ ys, ys = (listR n k xs).2.2 := ⟨_, rfl⟩
  rw [← hz, ← hk', ← hys] at h ⊢
  have HH := Lib.hid h
  clear h hz hk' hys hq
  go_enter Tryd.func18, Tryd.ntmps18
  go_wp2_with fail
  refine HH.out.mono ?_
  rintro e w1 ⟨u, rfl, hd⟩
  go_wp2
  go_ret
  exact ⟨u, rfl, hd.pre ((Below.refl _ _).alloc (Nat.le_refl _) _)⟩

set_option maxRecDepth 100000 in
set_option maxHeartbeats 400000 in
theorem rleft_any (r B : Nat) (v : Value) (k : Int) (xs : List UInt8) (w : World) (hc : Cu w r B v k xs) :
    Calls Tryd.prog 39 #[.pointer (some ⟨r, 0, none⟩)] w fun e w' => e = .returned (.int .i64 xs.length) ∧ w = w' := by
  obtain ⟨A, c, rfl⟩ := hc.2.1.form
  have h1 := hc.cell
  go_enter Tryd.func39, Tryd.ntmps39
  go_wp2
  go_ret
  exact ⟨rfl, rfl⟩

/-- What closing answers. -/
def closeR (k : Int) (xs : List UInt8) : Int := if k = 0 ∧ 0 < xs.length then 3 else k

set_option maxRecDepth 100000 in
set_option maxHeartbeats 400000 in
theorem rclose_any (r B : Nat) (v : Value) (k : Int) (xs : List UInt8) (w : World) (hc : Cu w r B v k xs) :
    Calls Tryd.prog 21 #[.pointer (some ⟨r, 0, none⟩)] w fun e w' => e = .returned (.int .i64 (closeR k xs)) ∧ w = w' := by
  have h1 := hc.cell1
  have hl := rleft_any r B v k xs w hc
  have HL := Lib.hid hl
  clear hl
  by_cases hk : k = 0
  · subst hk
    by_cases hx : 0 < xs.length
    · have hr : closeR 0 xs = 3 := by unfold closeR; rw [if_pos ⟨rfl, hx⟩]
      rw [hr]
      have hxi : (0 : Int) < xs.length := by omega
      have hd : decide ((0 : Int) < xs.length) = true := by simpa using hx
      go_enter Tryd.func21, Tryd.ntmps21
      go_wp2_with fail
      refine HL.out.mono ?_
      rintro e w1 ⟨rfl, rfl⟩
      go_wp2
      go_ret
      exact ⟨rfl, rfl⟩
    · have hr : closeR 0 xs = 0 := by unfold closeR; rw [if_neg (fun h => hx h.2)]
      rw [hr]
      have hxi : ((xs.length : Nat) : Int) = 0 := by omega
      have hd : decide ((0 : Int) < xs.length) = false := decide_eq_false (by omega)
      go_enter Tryd.func21, Tryd.ntmps21
      go_wp2_with fail
      refine HL.out.mono ?_
      rintro e w1 ⟨rfl, rfl⟩
      go_wp2
      go_ret
      exact ⟨rfl, rfl⟩
  · have hr : closeR k xs = k := by unfold closeR; rw [if_neg (fun h => hk h.1)]
    have HR := Lib.hid hr
    clear hr
    have hb : (k == 0) = false := by simpa using hk
    go_enter Tryd.func21, Tryd.ntmps21
    go_wp2
    go_ret
    exact ⟨by rw [HR.out]; rfl, rfl⟩

/-- A new reader of a copy of these bytes. -/
def Opened (w : World) (xs : List UInt8) (e : Ending) (w' : World) : Prop :=
  ∃ r v, e = .returned (.pointer (some ⟨r, 0, none⟩)) ∧ Cu w' r r v 0 xs ∧ w.heap.size ≤ r ∧ Below w.heap.size w w'

set_option maxRecDepth 100000 in
set_option maxHeartbeats 400000 in
theorem open_any (B : Nat) (x : Value) (xs : List UInt8) (w : World) (hx : Byt w B x xs) (hl : xs.length ≤ 60000) :
    Calls Tryd.prog 17 #[x] w (Opened w xs) := by
  go_enter Tryd.func17, Tryd.ntmps17
  go_wp2_with fail
  refine (clone_any B x xs w hx (by omega)).mono ?_
  rintro e w1 ⟨A1, c1, rfl, hown, hb1⟩
  go_wp2
  go_ret
  refine ⟨w1.heap.size, .slice A1 xs.length c1, rfl, ⟨heap_alloc_new w1 _, ?_, Nat.le_refl _⟩, hb1.size, hb1.alloc hb1.size _⟩
  exact (Byt.of_own hown).keep fun b o hb => World.cell?_alloc_lt w1 _ _ hb

end Go.Proofs.YtjdicifickjggaaDoor
