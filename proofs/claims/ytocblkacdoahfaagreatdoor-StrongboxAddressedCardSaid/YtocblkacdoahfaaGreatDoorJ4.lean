/-
  Texts joined: Steps, Rdr, Row. Conditions: those of each.
-/
import Derived.Test.YtocblkacdoahfaaGreatDoorJ3
import Derived.BigQuiet
import Derived.Deep.QuietTactic
import Derived.Test.YtocblkacdoahfaaGreatDoorJ1
import Derived.Deep.DeepCutAuto
/-
  What the steps that read lists do (a copy comes back). Conditions: sizes within the reach.
-/
namespace Go.Proofs.YtocblkacdoahfaaGreatDoor
open Go.RowKit

/-- Bytes are taken: a slice of the reader's own memory. -/
def Takes (w : World) (r B : Nat) (k : Int) (zs ys : List UInt8) (e : Ending) (w' : World) : Prop :=
  ∃ A c, Goes w r B k (.slice A zs.length c) ys e w' ∧ Byt w' B (.slice A zs.length c) zs

/-- A list: a size, and so many bytes, but not more than most. -/
def listP (most : Int) (xs : List UInt8) : Except Int (List UInt8 × List UInt8) :=
  match sizeP xs with
  | .error c => .error c
  | .ok (n, ys) => if n > most then .error 2 else if ys.length < n then .error 4 else .ok (ys.take n.toNat, ys.drop n.toNat)

theorem sizeP_bd {xs ys : List UInt8} {n : Int} (h : sizeP xs = .ok (n, ys)) : 0 ≤ n ∧ n ≤ 33554432 := by
  unfold sizeP at h
  split at h
  · cases h
  split at h
  · have := val_take_lt xs 1
    cases h
    omega
  split at h
  · cases h
  split at h
  · cases h
  split at h
  · cases h
  · have := (val_bd ((xs.drop 1).take (wd (val (xs.take 1))))).1
    cases h
    omega

/-- A copy of bytes comes back, in new memory; the reader moves on. -/
def Copied (w : World) (r B : Nat) (k : Int) (zs ys : List UInt8) (u : Value) (w' : World) : Prop :=
  ∃ A c, u = .slice A zs.length c ∧ w'.ownsRow w.heap.size 5 1 (.slice A zs.length c) zs.length (zs.map bv) ∧ ∃ v', Cu w' r B v' k ys ∧ Turns (fun i => i = r) w w'

theorem copied_of {w w1 w2 : World} {r B : Nat} {k : Int} {zs ys : List UInt8} {v' : Value} {A : Option Addr} {c : Nat} (hc : Cu w1 r B v' k ys) (ht : Turns (fun i => i = r) w w1)
    (hown : w2.ownsRow w1.heap.size 5 1 (.slice A zs.length c) zs.length (zs.map bv)) (hb : Below w1.heap.size w1 w2) : Copied w r B k zs ys (.slice A zs.length c) w2 := by
  refine ⟨A, c, rfl, ⟨hown.1, ?_⟩, v', hc.below hb, ht.trans (Turns.of_below (S := fun i => i = r) hb) (fun _ _ h => h)⟩
  rcases hown.2 with h | ⟨g, cap, cur, hv, hg, rr⟩
  · exact .inl h
  · exact .inr ⟨g, cap, cur, hv, Nat.le_trans ht.size hg, rr⟩

theorem Copied.pre {w w1 w2 : World} {r B : Nat} {k : Int} {zs ys : List UInt8} {u : Value} (hb : Below w.heap.size w w1) (h : Copied w1 r B k zs ys u w2) : Copied w r B k zs ys u w2 := by
  obtain ⟨A, c, he, hown, v', hc, ht⟩ := h
  refine ⟨A, c, he, ⟨hown.1, ?_⟩, v', hc, (Turns.of_below (S := fun i => i = r) hb).trans ht (fun _ _ h => h)⟩
  rcases hown.2 with h | ⟨g, cap, cur, hv, hg, rr⟩
  · exact .inl h
  · exact .inr ⟨g, cap, cur, hv, Nat.le_trans hb.size hg, rr⟩

theorem takes_ok (r B : Nat) (v : Value) (k n : Int) (xs : List UInt8) (w : World) (h0 : 0 ≤ n) (h1 : n ≤ xs.length) (hc : Cu w r B v k xs) :
    Calls Tryz.prog 95 #[.pointer (some ⟨r, 0, none⟩), .int .i64 n] w (Takes w r B k (xs.take n.toNat) (xs.drop n.toNat)) :=
  (take_ok r B v k n xs w h0 h1 hc).mono fun e w' ⟨A, c, hg, hb⟩ => by
    have hl : (xs.take n.toNat).length = n.toNat := by rw [List.length_take]; omega
    refine ⟨A, c, ?_, ?_⟩
    · rw [hl]; exact hg
    · rw [hl]; exact hb

set_option maxRecDepth 100000 in
set_option maxHeartbeats 800000 in
theorem raw1_ok (r B q : Nat) (v : Value) (k n : Int) (xs : List UInt8) (w : World) (hq : w.cell? ⟨q, 0, none⟩ = some (.int .i64 n)) (h2 : n ≤ xs.length) (hx : xs.length ≤ 60000000) (hc : Cu w r B v k xs) :
    Calls Tryz.prog 94 #[.pointer (some ⟨r, 0, none⟩), .pointer (some ⟨q, 0, none⟩)] w fun e w' => ∃ u, e = .returned u ∧ Copied w r B k (xs.take n.toNat) (xs.drop n.toNat) u w' := by
  have hlen : (xs.take n.toNat).length ≤ 60000000 := by rw [List.length_take]; omega
  by_cases h0 : 0 ≤ n
  · have hl := takes_ok r B v k n xs w h0 h2 hc
    obtain ⟨zs, hzs⟩ : ∃ zs, zs = xs.take n.toNat := ⟨_, rfl⟩
    obtain ⟨ds, hds⟩ : ∃ ds, ds = xs.drop n.toNat := ⟨_, rfl⟩
    rw [← hzs] at hlen
    rw [← hzs, ← hds] at hl ⊢
    clear hzs hds
    have HS := Lib.hid hl
    clear hl
    go_enter Tryz.func94, Tryz.ntmps94
    go_wp2_with fail
    refine HS.out.mono ?_
    rintro e w1 ⟨A, c, ⟨rfl, v1, hc1, ht1⟩, hby⟩
    go_wp2_with fail
    refine (clone_any B _ zs w1 hby (by omega)).mono ?_
    rintro e w2 ⟨A2, c2, rfl, hown, hb2⟩
    go_wp2
    go_ret
    exact ⟨_, rfl, copied_of hc1 ht1 hown hb2⟩
  · have hl := takes_ok r B v k 0 xs w (by omega) (by omega) hc
    have hn : n.toNat = 0 := by omega
    have hn0 : (0 : Int).toNat = n.toNat := by omega
    rw [hn0] at hl
    obtain ⟨zs, hzs⟩ : ∃ zs, zs = xs.take n.toNat := ⟨_, rfl⟩
    obtain ⟨ds, hds⟩ : ∃ ds, ds = xs.drop n.toNat := ⟨_, rfl⟩
    rw [← hzs] at hlen
    rw [← hzs, ← hds] at hl ⊢
    clear hzs hds hn hn0
    have hneg : n < 0 := by omega
    have HS := Lib.hid hl
    clear hl
    go_enter Tryz.func94, Tryz.ntmps94
    go_wp2_with fail
    refine HS.out.mono ?_
    rintro e w1 ⟨A, c, ⟨rfl, v1, hc1, ht1⟩, hby⟩
    go_wp2_with fail
    refine (clone_any B _ zs w1 hby (by omega)).mono ?_
    rintro e w2 ⟨A2, c2, rfl, hown, hb2⟩
    go_wp2
    go_ret
    exact ⟨_, rfl, copied_of hc1 ht1 hown hb2⟩

set_option maxRecDepth 100000 in
set_option maxHeartbeats 800000 in
theorem raw1_end (r B q : Nat) (v : Value) (k n : Int) (xs : List UInt8) (w : World) (hq : w.cell? ⟨q, 0, none⟩ = some (.int .i64 n)) (h2 : xs.length < n) (hc : Cu w r B v k xs) :
    Calls Tryz.prog 94 #[.pointer (some ⟨r, 0, none⟩), .pointer (some ⟨q, 0, none⟩)] w (Stops w r B k 4) := by
  have h0 : 0 ≤ n := by omega
  go_enter Tryz.func94, Tryz.ntmps94
  go_wp2_with fail
  refine (take_end r B v k n xs w h2 hc).mono ?_
  rintro e w1 ⟨rfl, hst⟩
  go_wp2
  exact ⟨rfl, rfl, hst⟩

end Go.Proofs.YtocblkacdoahfaaGreatDoor

/-
  What the reader's methods do. Conditions: sizes within the reach.
-/
namespace Go.Proofs.YtocblkacdoahfaaGreatDoor
open Go.RowKit

/-- A method answers u; the reader has the error k and the bytes ys left; nothing else has turned. -/
def Did (w : World) (r B : Nat) (u : Value) (k : Int) (ys : List UInt8) (e : Ending) (w' : World) : Prop :=
  e = .returned u ∧ ∃ v', Cu w' r B v' k ys ∧ Turns (fun i => i = r) w w'

/-- What reading a number of n bytes answers, the error behind it, the bytes left. -/
def numR (n : Nat) (k : Int) (xs : List UInt8) : Int × Int × List UInt8 :=
  if k ≠ 0 then (0, k, xs) else if xs.length < n then (0, 4, xs) else (val (xs.take n), 0, xs.drop n)
def sizeR (k : Int) (xs : List UInt8) : Int × Int × List UInt8 :=
  if k ≠ 0 then (0, k, xs) else match sizeP xs with | .error c => (0, c, xs) | .ok (n, ys) => (n, 0, ys)

theorem goes_did {w w1 : World} {r B : Nat} {k : Int} {u : Value} {ys : List UInt8} (hb : Below w.heap.size w w1) (e : Ending) (w2 : World) (h : Goes w1 r B k u ys e w2) :
    Ans (fun u' w' => u' = u ∧ ∃ v', Cu w' r B v' k ys ∧ Turns (fun i => i = r) w w') e w2 := by
  obtain ⟨he, v', hc, ht⟩ := h
  exact ⟨u, he, rfl, v', hc, (Turns.of_below (S := fun i => i = r) hb).trans ht (fun _ _ h => h)⟩
theorem ans_did {w w' : World} {r B : Nat} {k : Int} {u : Value} {ys : List UInt8} {e : Ending} (h : Ans (fun u' w' => u' = u ∧ ∃ v', Cu w' r B v' k ys ∧ Turns (fun i => i = r) w w') e w') : Did w r B u k ys e w' := by
  obtain ⟨u', he, rfl, hh⟩ := h
  exact ⟨he, hh⟩
theorem fell_did {w w' : World} {r B : Nat} {v : Value} {k : Int} {u : Value} {ys : List UInt8} {e : Ending} (h : Ans (fun u' w' => u' = u ∧ Fell w r B v k ys w') e w') : Did w r B u k ys e w' := by
  obtain ⟨u', he, rfl, hc, ht⟩ := h
  exact ⟨he, v, hc, ht⟩
theorem late_did {w w' : World} {r B : Nat} {v : Value} {k : Int} {u : Value} {ys : List UInt8} {e : Ending} (h : Ans (fun u' w' => u' = u ∧ Cu w' r B v k ys ∧ Below w.heap.size w w') e w') : Did w r B u k ys e w' := by
  obtain ⟨u', he, rfl, hc, hb⟩ := h
  exact ⟨he, v, hc, Turns.of_below hb⟩

theorem read_u8 (r B : Nat) (v : Value) (k : Int) (xs : List UInt8) (w : World) (hc : Cu w r B v k xs) :
    Calls Tryz.prog 91 #[.pointer (some ⟨r, 0, none⟩), .func (.func 92) #[] #[]] w (Did w r B (.int .u8 (numR 1 k xs).1) (numR 1 k xs).2.1 (numR 1 k xs).2.2) := by
  by_cases hk : k = 0
  · subst hk
    by_cases h : xs.length < 1
    · have hp : numR 1 0 xs = (0, 4, xs) := by unfold numR; rw [if_neg (by decide), if_pos h]
      rw [hp]
      exact (falls_u8_u8 r B v 0 4 xs w (by decide) hc fun w1 hb => (cu8_any r B v 0 xs w1 (hc.below hb)).mono fun e w2 hh => by unfold numP at hh; rw [if_pos h] at hh; exact hh).mono fun e w' hh => fell_did hh
    · have hp : numR 1 0 xs = (val (xs.take 1), 0, xs.drop 1) := by unfold numR; rw [if_neg (by decide), if_neg h]
      rw [hp]
      exact (goes_u8_u8 r B v 0 xs w (by decide) hc _ fun w1 hb => (cu8_any r B v 0 xs w1 (hc.below hb)).mono fun e w2 hh => by unfold numP at hh; rw [if_neg h] at hh; exact goes_did hb e w2 hh).mono fun e w' hh => ans_did hh
  · have hp : numR 1 k xs = (0, k, xs) := by unfold numR; rw [if_pos hk]
    rw [hp]
    exact (late_u8 r B v _ k xs w (by simpa using hk) hc).mono fun e w' hh => late_did hh

set_option maxRecDepth 100000 in
set_option maxHeartbeats 400000 in
theorem ru8_any (r B : Nat) (v : Value) (k : Int) (xs : List UInt8) (w : World) (hc : Cu w r B v k xs) :
    Calls Tryz.prog 65 #[.pointer (some ⟨r, 0, none⟩)] w (Did w r B (.int .u8 (numR 1 k xs).1) (numR 1 k xs).2.1 (numR 1 k xs).2.2) := by
  have h := read_u8 r B v k xs w hc
  obtain ⟨z, hz⟩ : ∃ z, z = (numR 1 k xs).1 := ⟨_, rfl⟩
  obtain ⟨k', hk'⟩ : ∃ k', k' = (numR 1 k xs).2.1 := ⟨_, rfl⟩
  obtain ⟨ys, hys⟩ : ∃ ys, ys = (numR 1 k xs).2.2 := ⟨_, rfl⟩
  rw [← hz, ← hk', ← hys] at h ⊢
  have HH := Lib.hid h
  clear h hz hk' hys
  go_enter Tryz.func65, Tryz.ntmps65
  go_wp2_with fail
  refine HH.out.mono ?_
  rintro e w1 ⟨rfl, hd⟩
  go_wp2
  go_ret
  exact ⟨rfl, hd⟩

theorem read_u16 (r B : Nat) (v : Value) (k : Int) (xs : List UInt8) (w : World) (hc : Cu w r B v k xs) :
    Calls Tryz.prog 120 #[.pointer (some ⟨r, 0, none⟩), .func (.func 121) #[] #[]] w (Did w r B (.int .u16 (numR 2 k xs).1) (numR 2 k xs).2.1 (numR 2 k xs).2.2) := by
  by_cases hk : k = 0
  · subst hk
    by_cases h : xs.length < 2
    · have hp : numR 2 0 xs = (0, 4, xs) := by unfold numR; rw [if_neg (by decide), if_pos h]
      rw [hp]
      exact (falls_u16_u16 r B v 0 4 xs w (by decide) hc fun w1 hb => (cu16_any r B v 0 xs w1 (hc.below hb)).mono fun e w2 hh => by unfold numP at hh; rw [if_pos h] at hh; exact hh).mono fun e w' hh => fell_did hh
    · have hp : numR 2 0 xs = (val (xs.take 2), 0, xs.drop 2) := by unfold numR; rw [if_neg (by decide), if_neg h]
      rw [hp]
      exact (goes_u16_u16 r B v 0 xs w (by decide) hc _ fun w1 hb => (cu16_any r B v 0 xs w1 (hc.below hb)).mono fun e w2 hh => by unfold numP at hh; rw [if_neg h] at hh; exact goes_did hb e w2 hh).mono fun e w' hh => ans_did hh
  · have hp : numR 2 k xs = (0, k, xs) := by unfold numR; rw [if_pos hk]
    rw [hp]
    exact (late_u16 r B v _ k xs w (by simpa using hk) hc).mono fun e w' hh => late_did hh

set_option maxRecDepth 100000 in
set_option maxHeartbeats 400000 in
theorem ru16_any (r B : Nat) (v : Value) (k : Int) (xs : List UInt8) (w : World) (hc : Cu w r B v k xs) :
    Calls Tryz.prog 96 #[.pointer (some ⟨r, 0, none⟩)] w (Did w r B (.int .u16 (numR 2 k xs).1) (numR 2 k xs).2.1 (numR 2 k xs).2.2) := by
  have h := read_u16 r B v k xs w hc
  obtain ⟨z, hz⟩ : ∃ z, z = (numR 2 k xs).1 := ⟨_, rfl⟩
  obtain ⟨k', hk'⟩ : ∃ k', k' = (numR 2 k xs).2.1 := ⟨_, rfl⟩
  obtain ⟨ys, hys⟩ : ∃ ys, ys = (numR 2 k xs).2.2 := ⟨_, rfl⟩
  rw [← hz, ← hk', ← hys] at h ⊢
  have HH := Lib.hid h
  clear h hz hk' hys
  go_enter Tryz.func96, Tryz.ntmps96
  go_wp2_with fail
  refine HH.out.mono ?_
  rintro e w1 ⟨rfl, hd⟩
  go_wp2
  go_ret
  exact ⟨rfl, hd⟩

theorem read_u32 (r B : Nat) (v : Value) (k : Int) (xs : List UInt8) (w : World) (hc : Cu w r B v k xs) :
    Calls Tryz.prog 122 #[.pointer (some ⟨r, 0, none⟩), .func (.func 123) #[] #[]] w (Did w r B (.int .u32 (numR 4 k xs).1) (numR 4 k xs).2.1 (numR 4 k xs).2.2) := by
  by_cases hk : k = 0
  · subst hk
    by_cases h : xs.length < 4
    · have hp : numR 4 0 xs = (0, 4, xs) := by unfold numR; rw [if_neg (by decide), if_pos h]
      rw [hp]
      exact (falls_u32_u32 r B v 0 4 xs w (by decide) hc fun w1 hb => (cu32_any r B v 0 xs w1 (hc.below hb)).mono fun e w2 hh => by unfold numP at hh; rw [if_pos h] at hh; exact hh).mono fun e w' hh => fell_did hh
    · have hp : numR 4 0 xs = (val (xs.take 4), 0, xs.drop 4) := by unfold numR; rw [if_neg (by decide), if_neg h]
      rw [hp]
      exact (goes_u32_u32 r B v 0 xs w (by decide) hc _ fun w1 hb => (cu32_any r B v 0 xs w1 (hc.below hb)).mono fun e w2 hh => by unfold numP at hh; rw [if_neg h] at hh; exact goes_did hb e w2 hh).mono fun e w' hh => ans_did hh
  · have hp : numR 4 k xs = (0, k, xs) := by unfold numR; rw [if_pos hk]
    rw [hp]
    exact (late_u32 r B v _ k xs w (by simpa using hk) hc).mono fun e w' hh => late_did hh

set_option maxRecDepth 100000 in
set_option maxHeartbeats 400000 in
theorem ru32_any (r B : Nat) (v : Value) (k : Int) (xs : List UInt8) (w : World) (hc : Cu w r B v k xs) :
    Calls Tryz.prog 97 #[.pointer (some ⟨r, 0, none⟩)] w (Did w r B (.int .u32 (numR 4 k xs).1) (numR 4 k xs).2.1 (numR 4 k xs).2.2) := by
  have h := read_u32 r B v k xs w hc
  obtain ⟨z, hz⟩ : ∃ z, z = (numR 4 k xs).1 := ⟨_, rfl⟩
  obtain ⟨k', hk'⟩ : ∃ k', k' = (numR 4 k xs).2.1 := ⟨_, rfl⟩
  obtain ⟨ys, hys⟩ : ∃ ys, ys = (numR 4 k xs).2.2 := ⟨_, rfl⟩
  rw [← hz, ← hk', ← hys] at h ⊢
  have HH := Lib.hid h
  clear h hz hk' hys
  go_enter Tryz.func97, Tryz.ntmps97
  go_wp2_with fail
  refine HH.out.mono ?_
  rintro e w1 ⟨rfl, hd⟩
  go_wp2
  go_ret
  exact ⟨rfl, hd⟩

/-- A method answers a copy of bytes in new memory. -/
def DidB (w : World) (r B : Nat) (k : Int) (zs ys : List UInt8) (e : Ending) (w' : World) : Prop := ∃ u, e = .returned u ∧ Copied w r B k zs ys u w'

theorem none_copied {w w' : World} {r B : Nat} {v : Value} {k : Int} {ys : List UInt8} (hc : Cu w' r B v k ys) (ht : Turns (fun i => i = r) w w') : Copied w r B k [] ys (.slice none 0 0) w' :=
  ⟨none, 0, rfl, World.ownsRow_nil _ _ _ _, v, hc, ht⟩

def rawR (n : Int) (k : Int) (xs : List UInt8) : List UInt8 × Int × List UInt8 :=
  if k ≠ 0 then ([], k, xs) else if xs.length < n then ([], 4, xs) else (xs.take n.toNat, 0, xs.drop n.toNat)
def listR (most : Int) (k : Int) (xs : List UInt8) : List UInt8 × Int × List UInt8 :=
  if k ≠ 0 then ([], k, xs) else match listP most xs with | .error c => ([], c, xs) | .ok (zs, ys) => (zs, 0, ys)

theorem read_raw (r B q : Nat) (v : Value) (k n : Int) (xs : List UInt8) (w : World) (hq : w.cell? ⟨q, 0, none⟩ = some (.int .i64 n)) (hx : xs.length ≤ 60000000) (hc : Cu w r B v k xs) :
    Calls Tryz.prog 93 #[.pointer (some ⟨r, 0, none⟩), .func (.func 94) #[] #[.pointer (some ⟨q, 0, none⟩)]] w (DidB w r B (rawR n k xs).2.1 (rawR n k xs).1 (rawR n k xs).2.2) := by
  by_cases hk : k = 0
  · subst hk
    by_cases h : (xs.length : Int) < n
    · have hp : rawR n 0 xs = ([], 4, xs) := by unfold rawR; rw [if_neg (by decide), if_pos h]
      rw [hp]
      exact (falls_list_raw r B v _ 0 4 xs w (by decide) hc fun w1 hb => raw1_end r B q v 0 n xs w1 (cell_later hb hq) h (hc.below hb)).mono fun e w' ⟨u, he, hu, hc', ht⟩ => ⟨u, he, hu ▸ none_copied hc' ht⟩
    · have hp : rawR n 0 xs = (xs.take n.toNat, 0, xs.drop n.toNat) := by unfold rawR; rw [if_neg (by decide), if_neg h]
      rw [hp]
      exact goes_list_raw r B v _ 0 xs w (by decide) hc _ fun w1 hb => (raw1_ok r B q v 0 n xs w1 (cell_later hb hq) (by omega) hx (hc.below hb)).mono fun e w2 ⟨u, he, hu⟩ => ⟨u, he, hu.pre hb⟩
  · have hp : rawR n k xs = ([], k, xs) := by unfold rawR; rw [if_pos hk]
    rw [hp]
    exact (late_list r B v _ k xs w (by simpa using hk) hc).mono fun e w' ⟨u, he, hu, hc', hb⟩ => ⟨u, he, hu ▸ none_copied hc' (Turns.of_below hb)⟩

set_option maxRecDepth 100000 in
set_option maxHeartbeats 400000 in
theorem rraw_any (r B : Nat) (v : Value) (k n : Int) (xs : List UInt8) (w : World) (hx : xs.length ≤ 60000000) (hc : Cu w r B v k xs) :
    Calls Tryz.prog 66 #[.pointer (some ⟨r, 0, none⟩), .int .i64 n] w (DidB w r B (rawR n k xs).2.1 (rawR n k xs).1 (rawR n k xs).2.2) := by
  have hq : (w.alloc (.cells #[.int .i64 n] 3)).cell? ⟨w.heap.size, 0, none⟩ = some (.int .i64 n) := cell_of_row _ _ 0 _ _ _ (heap_alloc_new w _)
  have h := read_raw r B w.heap.size v k n xs _ hq hx (hc.alloc _)
  have hmf : ∀ (fn : Fn) (first cap : Array Value) (w : World), (Instr.makeFunc fn first cap).run Tryz.prog w = .ok (.func fn first cap) w := fun _ _ _ _ => rfl
  obtain ⟨z, hz⟩ : ∃ z, z = (rawR n k xs).1 := ⟨_, rfl⟩
  obtain ⟨k', hk'⟩ : ∃ k', k' = (rawR n k xs).2.1 := ⟨_, rfl⟩
  obtain ⟨ys, hys⟩ : ∃ ys, ys = (rawR n k xs).2.2 := ⟨_, rfl⟩
  rw [← hz, ← hk', ← hys] at h ⊢
  have HH := Lib.hid h
  clear h hz hk' hys hq
  go_enter Tryz.func66, Tryz.ntmps66
  go_wp2_with fail
  refine HH.out.mono ?_
  rintro e w1 ⟨u, rfl, hd⟩
  go_wp2
  go_ret
  exact ⟨u, rfl, hd.pre ((Below.refl _ _).alloc (Nat.le_refl _) _)⟩

set_option maxRecDepth 100000 in
set_option maxHeartbeats 400000 in
theorem rerr_any (r B : Nat) (v : Value) (k : Int) (xs : List UInt8) (w : World) (hc : Cu w r B v k xs) :
    Calls Tryz.prog 68 #[.pointer (some ⟨r, 0, none⟩)] w fun e w' => e = .returned (.int .i64 k) ∧ w = w' := by
  have h1 := hc.cell1
  go_enter Tryz.func68, Tryz.ntmps68
  go_wp2
  go_ret
  exact ⟨rfl, rfl⟩

set_option maxRecDepth 100000 in
set_option maxHeartbeats 400000 in
theorem rleft_any (r B : Nat) (v : Value) (k : Int) (xs : List UInt8) (w : World) (hc : Cu w r B v k xs) :
    Calls Tryz.prog 64 #[.pointer (some ⟨r, 0, none⟩)] w fun e w' => e = .returned (.int .i64 xs.length) ∧ w = w' := by
  obtain ⟨A, c, rfl⟩ := hc.2.1.form
  have h1 := hc.cell
  go_enter Tryz.func64, Tryz.ntmps64
  go_wp2
  go_ret
  exact ⟨rfl, rfl⟩

/-- What closing answers. -/
def closeR (k : Int) (xs : List UInt8) : Int := if k = 0 ∧ 0 < xs.length then 3 else k

/-- A new reader of a copy of these bytes. -/
def Opened (w : World) (xs : List UInt8) (e : Ending) (w' : World) : Prop :=
  ∃ r v, e = .returned (.pointer (some ⟨r, 0, none⟩)) ∧ Cu w' r r v 0 xs ∧ w.heap.size ≤ r ∧ Below w.heap.size w w'

set_option maxRecDepth 100000 in
set_option maxHeartbeats 400000 in
theorem open_any (B : Nat) (x : Value) (xs : List UInt8) (w : World) (hx : Byt w B x xs) (hl : xs.length ≤ 60000000) :
    Calls Tryz.prog 63 #[x] w (Opened w xs) := by
  go_enter Tryz.func63, Tryz.ntmps63
  go_wp2_with fail
  refine (clone_any B x xs w hx (by omega)).mono ?_
  rintro e w1 ⟨A1, c1, rfl, hown, hb1⟩
  go_wp2
  go_ret
  refine ⟨w1.heap.size, .slice A1 xs.length c1, rfl, ⟨heap_alloc_new w1 _, ?_, Nat.le_refl _⟩, hb1.size, hb1.alloc hb1.size _⟩
  exact (Byt.of_own hown).keep fun b o hb => World.cell?_alloc_lt w1 _ _ hb

end Go.Proofs.YtocblkacdoahfaaGreatDoor

/-
  Rows of bytes that may be written, and new ones of zeros. Conditions: sizes within the reach.
-/
namespace Go.Proofs.YtocblkacdoahfaaGreatDoor
open Go.RowKit

/-- Block g holds these bytes, and may be written. -/
def Row (w : World) (g : Nat) (xs : List UInt8) : Prop := w.heap[g]? = some (.cells (xs.map bv).toArray 5 (0, 0))

theorem Row.lt {w : World} {g : Nat} {xs : List UInt8} (h : Row w g xs) : g < w.heap.size := (Array.getElem?_eq_some_iff.1 h).1
theorem Row.cell {w : World} {g i : Nat} {xs : List UInt8} {c : UInt8} (h : Row w g xs) (hi : xs[i]? = some c) : w.cell? ⟨g, i, none⟩ = some (bv c) := by
  rw [cell_of_row w g i _ _ _ h]
  simp [hi]
theorem Row.free {w : World} {g : Nat} {xs : List UInt8} (h : Row w g xs) (i : Nat) : w.frozen? ⟨g, i, none⟩ = false := by
  unfold Row at h
  simp [World.frozen?, h]
theorem Row.set {w : World} {g i : Nat} {xs : List UInt8} (h : Row w g xs) (c : UInt8) : Row (w.setCell ⟨g, i, none⟩ (bv c)) g (xs.set i c) := by
  unfold Row at h ⊢
  simp [World.setCell, Array.getElem?_modify, h, List.map_set]
theorem Row.turns {S : Nat → Prop} {w w' : World} {g : Nat} {xs : List UInt8} (h : Row w g xs) (ht : Turns S w w') (hS : ¬ S g) : Row w' g xs := (ht.block g h.lt hS).trans h
theorem Row.byt {w : World} {g n c : Nat} {xs : List UInt8} (h : Row w g xs) (hn : n ≤ xs.length) (hc : n ≤ c) (hcm : c ≤ maxLen) : Byt w w.heap.size (.slice (some ⟨g, 0, none⟩) n c) (xs.take n) := by
  have hl : (xs.take n).length = n := by rw [List.length_take]; omega
  refine ⟨some ⟨g, 0, none⟩, c, by rw [hl], by omega, hcm, (by intro h; cases h), fun _ => ⟨g, 0, rfl, h.lt, fun j u hu => ?_⟩⟩
  rw [Nat.zero_add]
  refine h.cell ?_
  rw [List.getElem?_take] at hu
  split at hu
  · exact hu
  · cases hu

theorem set_next {xs zs : List UInt8} {i n : Nat} {c : UInt8} (hi : i < xs.length) (hc : xs[i]? = some c) (hz : zs = xs.take i ++ List.replicate (n - i) 0) (hn : n = xs.length) :
    zs.set i c = xs.take (i + 1) ++ List.replicate (n - (i + 1)) 0 := by
  subst hz
  have hl : (xs.take i).length = i := by rw [List.length_take]; omega
  rw [List.set_append_right _ _ (by omega), hl, Nat.sub_self]
  obtain ⟨m, hm⟩ : ∃ m, n - i = m + 1 := ⟨n - i - 1, by omega⟩
  rw [hm, List.replicate_succ, List.set_cons_zero, List.take_add_one, hc]
  have : n - (i + 1) = m := by omega
  rw [this]
  simp

/-- n zero bytes, as a block's cells. -/
def zeroRow (n : Nat) : Array Value := ((List.replicate n (0 : UInt8)).map bv).toArray

theorem made_zero (n : Nat) : madeCells (Value.int .u8 0).cells n = zeroRow n := by
  unfold zeroRow
  simp only [madeCells, Value.cells, List.map_replicate, bv]
  apply Array.ext
  · simp
  · intro i h1 h2
    simp [Nat.mod_one]

theorem make_bytes (W : World) (n : Nat) (q : Int) (hq : q = n) (hn : n ≤ 281474976710656) :
    (Instr.makeSlice 23 (.int .i64 q) (.int .i64 q)).run Tryz.prog W = .ok (.slice (some ⟨W.heap.size, 0, none⟩) n n) (W.alloc (.cells (zeroRow n) 5)) := by
  obtain ⟨i0, hi, hz0, hz1, hz2⟩ := info_parts info_u8
  subst hq
  rw [run_make (P := Tryz.prog) W 23 5 i0 (.int .u8 0) slice_u8 hi hz0 .i64 .i64 n n (by omega) (by omega) (by rw [hz2]; omega) (by omega), hz1]
  simp only [Int.toNat_natCast, Nat.mul_one]
  rw [made_zero]

theorem row_new (w : World) (n : Nat) : Row (w.alloc (.cells (zeroRow n) 5)) w.heap.size (List.replicate n 0) := heap_alloc_new w _


/-- Behind i rounds: the first i bytes are as they will be, the rest is zero. -/
def FillB (w : World) (g i : Nat) (bs : List UInt8) (wr : World) : Prop :=
  ∃ zs, zs = bs.take i ++ List.replicate (bs.length - i) 0 ∧ Row wr g zs ∧ Below w.heap.size w wr

theorem fillB_next {w w' : World} {g i : Nat} {bs zs : List UInt8} {c : UInt8} (hi : i < bs.length) (hc : bs[i]? = some c) (hz : zs = bs.take i ++ List.replicate (bs.length - i) 0)
    (hr : Row w' g (zs.set i c)) (hb' : Below w.heap.size w w') : FillB w g (i + 1) bs w' :=
  ⟨_, set_next hi hc hz rfl, hr, hb'⟩

theorem fillB_zero {bs zs : List UInt8} {i : Nat} (hi : i < bs.length) (hz : zs = bs.take i ++ List.replicate (bs.length - i) 0) : zs[i]? = some 0 := by
  subst hz
  have hl : (bs.take i).length = i := by rw [List.length_take]; omega
  rw [List.getElem?_append_right (by omega), hl, Nat.sub_self]
  obtain ⟨m, hm⟩ : ∃ m, bs.length - i = m + 1 := ⟨bs.length - i - 1, by omega⟩
  rw [hm, List.replicate_succ]
  rfl
theorem fillB_end {w wr : World} {g : Nat} {bs : List UInt8} (h : FillB w g bs.length bs wr) : Row wr g bs ∧ Below w.heap.size w wr := by
  obtain ⟨zs, hz, hr, hb⟩ := h
  rw [Nat.sub_self, List.replicate_zero, List.append_nil, List.take_length] at hz
  exact ⟨hz ▸ hr, hb⟩

end Go.Proofs.YtocblkacdoahfaaGreatDoor
