/-
  What the reader's methods do. Conditions: sizes within the reach.
-/
import Derived.Test.YtadgaeokiolmmaaMeth
import Derived.Test.YtadgaeokiolmmaaSteps
import Derived.BigQuiet
import Derived.Deep.QuietTactic
namespace Go.Proofs.Ytadgaeokiolmmaa
open Go.RowKit

/-- A method answers u; the reader has the error k and the bytes ys left; nothing else has turned. -/
def Did (w : World) (r B : Nat) (u : Value) (k : Int) (ys : List UInt8) (e : Ending) (w' : World) : Prop :=
  e = .returned u ∧ ∃ v', Cu w' r B v' k ys ∧ Turns (fun i => i = r) w w'

/-- What reading a number of n bytes answers, the error behind it, the bytes left. -/
def numR (n : Nat) (k : Int) (xs : List UInt8) : Int × Int × List UInt8 :=
  if k ≠ 0 then (0, k, xs) else if xs.length < n then (0, 4, xs) else (val (xs.take n), 0, xs.drop n)
def sizeR (k : Int) (xs : List UInt8) : Int × Int × List UInt8 :=
  if k ≠ 0 then (0, k, xs) else match sizeP xs with | .error c => (0, c, xs) | .ok (n, ys) => (n, 0, ys)

theorem goes_did {w w1 : World} {r B : Nat} {k : Int} {u : Value} {ys : List UInt8} (hb : Below w.heap.size w w1) (e : Ending) (w2 : World) (h : Goes w1 r B k u ys e w2) :
    Ans (fun u' w' => u' = u ∧ ∃ v', Cu w' r B v' k ys ∧ Turns (fun i => i = r) w w') e w2 := by
  obtain ⟨he, v', hc, ht⟩ := h
  exact ⟨u, he, rfl, v', hc, (Turns.of_below (S := fun i => i = r) hb).trans ht (fun _ _ h => h)⟩
theorem ans_did {w w' : World} {r B : Nat} {k : Int} {u : Value} {ys : List UInt8} {e : Ending} (h : Ans (fun u' w' => u' = u ∧ ∃ v', Cu w' r B v' k ys ∧ Turns (fun i => i = r) w w') e w') : Did w r B u k ys e w' := by
  obtain ⟨u', he, rfl, hh⟩ := h
  exact ⟨he, hh⟩
theorem fell_did {w w' : World} {r B : Nat} {v : Value} {k : Int} {u : Value} {ys : List UInt8} {e : Ending} (h : Ans (fun u' w' => u' = u ∧ Fell w r B v k ys w') e w') : Did w r B u k ys e w' := by
  obtain ⟨u', he, rfl, hc, ht⟩ := h
  exact ⟨he, v, hc, ht⟩
theorem late_did {w w' : World} {r B : Nat} {v : Value} {k : Int} {u : Value} {ys : List UInt8} {e : Ending} (h : Ans (fun u' w' => u' = u ∧ Cu w' r B v k ys ∧ Below w.heap.size w w') e w') : Did w r B u k ys e w' := by
  obtain ⟨u', he, rfl, hc, hb⟩ := h
  exact ⟨he, v, hc, Turns.of_below hb⟩

theorem read_u8 (r B : Nat) (v : Value) (k : Int) (xs : List UInt8) (w : World) (hc : Cu w r B v k xs) :
    Calls Try.prog 75 #[.pointer (some ⟨r, 0, none⟩), .func (.func 76) #[] #[]] w (Did w r B (.int .u8 (numR 1 k xs).1) (numR 1 k xs).2.1 (numR 1 k xs).2.2) := by
  by_cases hk : k = 0
  · subst hk
    by_cases h : xs.length < 1
    · have hp : numR 1 0 xs = (0, 4, xs) := by unfold numR; rw [if_neg (by decide), if_pos h]
      rw [hp]
      exact (falls_u8_u8 r B v 0 4 xs w (by decide) hc fun w1 hb => (cu8_any r B v 0 xs w1 (hc.below hb)).mono fun e w2 hh => by unfold numP at hh; rw [if_pos h] at hh; exact hh).mono fun e w' hh => fell_did hh
    · have hp : numR 1 0 xs = (val (xs.take 1), 0, xs.drop 1) := by unfold numR; rw [if_neg (by decide), if_neg h]
      rw [hp]
      exact (goes_u8_u8 r B v 0 xs w (by decide) hc _ fun w1 hb => (cu8_any r B v 0 xs w1 (hc.below hb)).mono fun e w2 hh => by unfold numP at hh; rw [if_neg h] at hh; exact goes_did hb e w2 hh).mono fun e w' hh => ans_did hh
  · have hp : numR 1 k xs = (0, k, xs) := by unfold numR; rw [if_pos hk]
    rw [hp]
    exact (late_u8 r B v _ k xs w (by simpa using hk) hc).mono fun e w' hh => late_did hh

set_option maxHeartbeats 400000 in
theorem ru8_any (r B : Nat) (v : Value) (k : Int) (xs : List UInt8) (w : World) (hc : Cu w r B v k xs) :
    Calls Try.prog 43 #[.pointer (some ⟨r, 0, none⟩)] w (Did w r B (.int .u8 (numR 1 k xs).1) (numR 1 k xs).2.1 (numR 1 k xs).2.2) := by
  have h := read_u8 r B v k xs w hc
  obtain ⟨z, hz⟩ : ∃ z, z = (numR 1 k xs).1 := ⟨_, rfl⟩
  obtain ⟨k', hk'⟩ : ∃ k', k' = (numR 1 k xs).2.1 := ⟨_, rfl⟩
  obtain ⟨ys, hys⟩ : ∃ ys, ys = (numR 1 k xs).2.2 := ⟨_, rfl⟩
  rw [← hz, ← hk', ← hys] at h ⊢
  have HH := Lib.hid h
  clear h hz hk' hys
  go_enter Try.func43, Try.ntmps43
  go_wp2_with fail
  refine HH.out.mono ?_
  rintro e w1 ⟨rfl, hd⟩
  go_wp2
  go_ret
  exact ⟨rfl, hd⟩

theorem read_u16 (r B : Nat) (v : Value) (k : Int) (xs : List UInt8) (w : World) (hc : Cu w r B v k xs) :
    Calls Try.prog 94 #[.pointer (some ⟨r, 0, none⟩), .func (.func 95) #[] #[]] w (Did w r B (.int .u16 (numR 2 k xs).1) (numR 2 k xs).2.1 (numR 2 k xs).2.2) := by
  by_cases hk : k = 0
  · subst hk
    by_cases h : xs.length < 2
    · have hp : numR 2 0 xs = (0, 4, xs) := by unfold numR; rw [if_neg (by decide), if_pos h]
      rw [hp]
      exact (falls_u16_u16 r B v 0 4 xs w (by decide) hc fun w1 hb => (cu16_any r B v 0 xs w1 (hc.below hb)).mono fun e w2 hh => by unfold numP at hh; rw [if_pos h] at hh; exact hh).mono fun e w' hh => fell_did hh
    · have hp : numR 2 0 xs = (val (xs.take 2), 0, xs.drop 2) := by unfold numR; rw [if_neg (by decide), if_neg h]
      rw [hp]
      exact (goes_u16_u16 r B v 0 xs w (by decide) hc _ fun w1 hb => (cu16_any r B v 0 xs w1 (hc.below hb)).mono fun e w2 hh => by unfold numP at hh; rw [if_neg h] at hh; exact goes_did hb e w2 hh).mono fun e w' hh => ans_did hh
  · have hp : numR 2 k xs = (0, k, xs) := by unfold numR; rw [if_pos hk]
    rw [hp]
    exact (late_u16 r B v _ k xs w (by simpa using hk) hc).mono fun e w' hh => late_did hh

set_option maxHeartbeats 400000 in
theorem ru16_any (r B : Nat) (v : Value) (k : Int) (xs : List UInt8) (w : World) (hc : Cu w r B v k xs) :
    Calls Try.prog 80 #[.pointer (some ⟨r, 0, none⟩)] w (Did w r B (.int .u16 (numR 2 k xs).1) (numR 2 k xs).2.1 (numR 2 k xs).2.2) := by
  have h := read_u16 r B v k xs w hc
  obtain ⟨z, hz⟩ : ∃ z, z = (numR 2 k xs).1 := ⟨_, rfl⟩
  obtain ⟨k', hk'⟩ : ∃ k', k' = (numR 2 k xs).2.1 := ⟨_, rfl⟩
  obtain ⟨ys, hys⟩ : ∃ ys, ys = (numR 2 k xs).2.2 := ⟨_, rfl⟩
  rw [← hz, ← hk', ← hys] at h ⊢
  have HH := Lib.hid h
  clear h hz hk' hys
  go_enter Try.func80, Try.ntmps80
  go_wp2_with fail
  refine HH.out.mono ?_
  rintro e w1 ⟨rfl, hd⟩
  go_wp2
  go_ret
  exact ⟨rfl, hd⟩

theorem read_u32 (r B : Nat) (v : Value) (k : Int) (xs : List UInt8) (w : World) (hc : Cu w r B v k xs) :
    Calls Try.prog 96 #[.pointer (some ⟨r, 0, none⟩), .func (.func 97) #[] #[]] w (Did w r B (.int .u32 (numR 4 k xs).1) (numR 4 k xs).2.1 (numR 4 k xs).2.2) := by
  by_cases hk : k = 0
  · subst hk
    by_cases h : xs.length < 4
    · have hp : numR 4 0 xs = (0, 4, xs) := by unfold numR; rw [if_neg (by decide), if_pos h]
      rw [hp]
      exact (falls_u32_u32 r B v 0 4 xs w (by decide) hc fun w1 hb => (cu32_any r B v 0 xs w1 (hc.below hb)).mono fun e w2 hh => by unfold numP at hh; rw [if_pos h] at hh; exact hh).mono fun e w' hh => fell_did hh
    · have hp : numR 4 0 xs = (val (xs.take 4), 0, xs.drop 4) := by unfold numR; rw [if_neg (by decide), if_neg h]
      rw [hp]
      exact (goes_u32_u32 r B v 0 xs w (by decide) hc _ fun w1 hb => (cu32_any r B v 0 xs w1 (hc.below hb)).mono fun e w2 hh => by unfold numP at hh; rw [if_neg h] at hh; exact goes_did hb e w2 hh).mono fun e w' hh => ans_did hh
  · have hp : numR 4 k xs = (0, k, xs) := by unfold numR; rw [if_pos hk]
    rw [hp]
    exact (late_u32 r B v _ k xs w (by simpa using hk) hc).mono fun e w' hh => late_did hh

set_option maxHeartbeats 400000 in
theorem ru32_any (r B : Nat) (v : Value) (k : Int) (xs : List UInt8) (w : World) (hc : Cu w r B v k xs) :
    Calls Try.prog 81 #[.pointer (some ⟨r, 0, none⟩)] w (Did w r B (.int .u32 (numR 4 k xs).1) (numR 4 k xs).2.1 (numR 4 k xs).2.2) := by
  have h := read_u32 r B v k xs w hc
  obtain ⟨z, hz⟩ : ∃ z, z = (numR 4 k xs).1 := ⟨_, rfl⟩
  obtain ⟨k', hk'⟩ : ∃ k', k' = (numR 4 k xs).2.1 := ⟨_, rfl⟩
  obtain ⟨ys, hys⟩ : ∃ ys, ys = (numR 4 k xs).2.2 := ⟨_, rfl⟩
  rw [← hz, ← hk', ← hys] at h ⊢
  have HH := Lib.hid h
  clear h hz hk' hys
  go_enter Try.func81, Try.ntmps81
  go_wp2_with fail
  refine HH.out.mono ?_
  rintro e w1 ⟨rfl, hd⟩
  go_wp2
  go_ret
  exact ⟨rfl, hd⟩

/-- A method answers a copy of bytes in new memory. -/
def DidB (w : World) (r B : Nat) (k : Int) (zs ys : List UInt8) (e : Ending) (w' : World) : Prop := ∃ u, e = .returned u ∧ Copied w r B k zs ys u w'

theorem none_copied {w w' : World} {r B : Nat} {v : Value} {k : Int} {ys : List UInt8} (hc : Cu w' r B v k ys) (ht : Turns (fun i => i = r) w w') : Copied w r B k [] ys (.slice none 0 0) w' :=
  ⟨none, 0, rfl, World.ownsRow_nil _ _ _ _, v, hc, ht⟩

def rawR (n : Int) (k : Int) (xs : List UInt8) : List UInt8 × Int × List UInt8 :=
  if k ≠ 0 then ([], k, xs) else if xs.length < n then ([], 4, xs) else (xs.take n.toNat, 0, xs.drop n.toNat)
def listR (most : Int) (k : Int) (xs : List UInt8) : List UInt8 × Int × List UInt8 :=
  if k ≠ 0 then ([], k, xs) else match listP most xs with | .error c => ([], c, xs) | .ok (zs, ys) => (zs, 0, ys)

theorem read_raw (r B q : Nat) (v : Value) (k n : Int) (xs : List UInt8) (w : World) (hq : w.cell? ⟨q, 0, none⟩ = some (.int .i64 n)) (hx : xs.length ≤ 60000000) (hc : Cu w r B v k xs) :
    Calls Try.prog 77 #[.pointer (some ⟨r, 0, none⟩), .func (.func 78) #[] #[.pointer (some ⟨q, 0, none⟩)]] w (DidB w r B (rawR n k xs).2.1 (rawR n k xs).1 (rawR n k xs).2.2) := by
  by_cases hk : k = 0
  · subst hk
    by_cases h : (xs.length : Int) < n
    · have hp : rawR n 0 xs = ([], 4, xs) := by unfold rawR; rw [if_neg (by decide), if_pos h]
      rw [hp]
      exact (falls_list_raw r B v _ 0 4 xs w (by decide) hc fun w1 hb => raw1_end r B q v 0 n xs w1 (cell_later hb hq) h (hc.below hb)).mono fun e w' ⟨u, he, hu, hc', ht⟩ => ⟨u, he, hu ▸ none_copied hc' ht⟩
    · have hp : rawR n 0 xs = (xs.take n.toNat, 0, xs.drop n.toNat) := by unfold rawR; rw [if_neg (by decide), if_neg h]
      rw [hp]
      exact goes_list_raw r B v _ 0 xs w (by decide) hc _ fun w1 hb => (raw1_ok r B q v 0 n xs w1 (cell_later hb hq) (by omega) hx (hc.below hb)).mono fun e w2 ⟨u, he, hu⟩ => ⟨u, he, hu.pre hb⟩
  · have hp : rawR n k xs = ([], k, xs) := by unfold rawR; rw [if_pos hk]
    rw [hp]
    exact (late_list r B v _ k xs w (by simpa using hk) hc).mono fun e w' ⟨u, he, hu, hc', hb⟩ => ⟨u, he, hu ▸ none_copied hc' (Turns.of_below hb)⟩

set_option maxHeartbeats 400000 in
theorem rraw_any (r B : Nat) (v : Value) (k n : Int) (xs : List UInt8) (w : World) (hx : xs.length ≤ 60000000) (hc : Cu w r B v k xs) :
    Calls Try.prog 44 #[.pointer (some ⟨r, 0, none⟩), .int .i64 n] w (DidB w r B (rawR n k xs).2.1 (rawR n k xs).1 (rawR n k xs).2.2) := by
  have hq : (w.alloc (.cells #[.int .i64 n] 3)).cell? ⟨w.heap.size, 0, none⟩ = some (.int .i64 n) := cell_of_row _ _ 0 _ _ _ (heap_alloc_new w _)
  have h := read_raw r B w.heap.size v k n xs _ hq hx (hc.alloc _)
  have hmf : ∀ (fn : Fn) (first cap : Array Value) (w : World), (Instr.makeFunc fn first cap).run Try.prog w = .ok (.func fn first cap) w := fun _ _ _ _ => rfl
  obtain ⟨z, hz⟩ : ∃ z, z = (rawR n k xs).1 := ⟨_, rfl⟩
  obtain ⟨k', hk'⟩ : ∃ k', k' = (rawR n k xs).2.1 := ⟨_, rfl⟩
  obtain ⟨ys, hys⟩ : ∃ ys, ys = (rawR n k xs).2.2 := ⟨_, rfl⟩
  rw [← hz, ← hk', ← hys] at h ⊢
  have HH := Lib.hid h
  clear h hz hk' hys hq
  go_enter Try.func44, Try.ntmps44
  go_wp2_with fail
  refine HH.out.mono ?_
  rintro e w1 ⟨u, rfl, hd⟩
  go_wp2
  go_ret
  exact ⟨u, rfl, hd.pre ((Below.refl _ _).alloc (Nat.le_refl _) _)⟩

set_option maxHeartbeats 400000 in
theorem rerr_any (r B : Nat) (v : Value) (k : Int) (xs : List UInt8) (w : World) (hc : Cu w r B v k xs) :
    Calls Try.prog 46 #[.pointer (some ⟨r, 0, none⟩)] w fun e w' => e = .returned (.int .i64 k) ∧ w = w' := by
  have h1 := hc.cell1
  go_enter Try.func46, Try.ntmps46
  go_wp2
  go_ret
  exact ⟨rfl, rfl⟩

set_option maxHeartbeats 400000 in
theorem rleft_any (r B : Nat) (v : Value) (k : Int) (xs : List UInt8) (w : World) (hc : Cu w r B v k xs) :
    Calls Try.prog 42 #[.pointer (some ⟨r, 0, none⟩)] w fun e w' => e = .returned (.int .i64 xs.length) ∧ w = w' := by
  obtain ⟨A, c, rfl⟩ := hc.2.1.form
  have h1 := hc.cell
  go_enter Try.func42, Try.ntmps42
  go_wp2
  go_ret
  exact ⟨rfl, rfl⟩

/-- What closing answers. -/
def closeR (k : Int) (xs : List UInt8) : Int := if k = 0 ∧ 0 < xs.length then 3 else k

/-- A new reader of a copy of these bytes. -/
def Opened (w : World) (xs : List UInt8) (e : Ending) (w' : World) : Prop :=
  ∃ r v, e = .returned (.pointer (some ⟨r, 0, none⟩)) ∧ Cu w' r r v 0 xs ∧ w.heap.size ≤ r ∧ Below w.heap.size w w'

set_option maxHeartbeats 400000 in
theorem open_any (B : Nat) (x : Value) (xs : List UInt8) (w : World) (hx : Byt w B x xs) (hl : xs.length ≤ 60000000) :
    Calls Try.prog 41 #[x] w (Opened w xs) := by
  go_enter Try.func41, Try.ntmps41
  go_wp2_with fail
  refine (clone_any B x xs w hx (by omega)).mono ?_
  rintro e w1 ⟨A1, c1, rfl, hown, hb1⟩
  go_wp2
  go_ret
  refine ⟨w1.heap.size, .slice A1 xs.length c1, rfl, ⟨heap_alloc_new w1 _, ?_, Nat.le_refl _⟩, hb1.size, hb1.alloc hb1.size _⟩
  exact (Byt.of_own hown).keep fun b o hb => World.cell?_alloc_lt w1 _ _ hb

end Go.Proofs.Ytadgaeokiolmmaa
