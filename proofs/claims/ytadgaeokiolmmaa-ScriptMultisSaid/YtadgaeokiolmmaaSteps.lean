/-
  What the steps that read lists do (a copy comes back). Conditions: sizes within the reach.
-/
import Derived.Test.YtadgaeokiolmmaaCatch
namespace Go.Proofs.Ytadgaeokiolmmaa
open Go.RowKit

/-- Bytes are taken: a slice of the reader's own memory. -/
def Takes (w : World) (r B : Nat) (k : Int) (zs ys : List UInt8) (e : Ending) (w' : World) : Prop :=
  ∃ A c, Goes w r B k (.slice A zs.length c) ys e w' ∧ Byt w' B (.slice A zs.length c) zs

/-- A list: a size, and so many bytes, but not more than most. -/
def listP (most : Int) (xs : List UInt8) : Except Int (List UInt8 × List UInt8) :=
  match sizeP xs with
  | .error c => .error c
  | .ok (n, ys) => if n > most then .error 2 else if ys.length < n then .error 4 else .ok (ys.take n.toNat, ys.drop n.toNat)

theorem sizeP_bd {xs ys : List UInt8} {n : Int} (h : sizeP xs = .ok (n, ys)) : 0 ≤ n ∧ n ≤ 33554432 := by
  unfold sizeP at h
  split at h
  · cases h
  split at h
  · have := val_take_lt xs 1
    cases h
    omega
  split at h
  · cases h
  split at h
  · cases h
  split at h
  · cases h
  · have := (val_bd ((xs.drop 1).take (wd (val (xs.take 1))))).1
    cases h
    omega

/-- A copy of bytes comes back, in new memory; the reader moves on. -/
def Copied (w : World) (r B : Nat) (k : Int) (zs ys : List UInt8) (u : Value) (w' : World) : Prop :=
  ∃ A c, u = .slice A zs.length c ∧ w'.ownsRow w.heap.size 5 1 (.slice A zs.length c) zs.length (zs.map bv) ∧ ∃ v', Cu w' r B v' k ys ∧ Turns (fun i => i = r) w w'

theorem copied_of {w w1 w2 : World} {r B : Nat} {k : Int} {zs ys : List UInt8} {v' : Value} {A : Option Addr} {c : Nat} (hc : Cu w1 r B v' k ys) (ht : Turns (fun i => i = r) w w1)
    (hown : w2.ownsRow w1.heap.size 5 1 (.slice A zs.length c) zs.length (zs.map bv)) (hb : Below w1.heap.size w1 w2) : Copied w r B k zs ys (.slice A zs.length c) w2 := by
  refine ⟨A, c, rfl, ⟨hown.1, ?_⟩, v', hc.below hb, ht.trans (Turns.of_below (S := fun i => i = r) hb) (fun _ _ h => h)⟩
  rcases hown.2 with h | ⟨g, cap, cur, hv, hg, rr⟩
  · exact .inl h
  · exact .inr ⟨g, cap, cur, hv, Nat.le_trans ht.size hg, rr⟩

theorem Copied.pre {w w1 w2 : World} {r B : Nat} {k : Int} {zs ys : List UInt8} {u : Value} (hb : Below w.heap.size w w1) (h : Copied w1 r B k zs ys u w2) : Copied w r B k zs ys u w2 := by
  obtain ⟨A, c, he, hown, v', hc, ht⟩ := h
  refine ⟨A, c, he, ⟨hown.1, ?_⟩, v', hc, (Turns.of_below (S := fun i => i = r) hb).trans ht (fun _ _ h => h)⟩
  rcases hown.2 with h | ⟨g, cap, cur, hv, hg, rr⟩
  · exact .inl h
  · exact .inr ⟨g, cap, cur, hv, Nat.le_trans hb.size hg, rr⟩

theorem takes_ok (r B : Nat) (v : Value) (k n : Int) (xs : List UInt8) (w : World) (h0 : 0 ≤ n) (h1 : n ≤ xs.length) (hc : Cu w r B v k xs) :
    Calls Try.prog 79 #[.pointer (some ⟨r, 0, none⟩), .int .i64 n] w (Takes w r B k (xs.take n.toNat) (xs.drop n.toNat)) :=
  (take_ok r B v k n xs w h0 h1 hc).mono fun e w' ⟨A, c, hg, hb⟩ => by
    have hl : (xs.take n.toNat).length = n.toNat := by rw [List.length_take]; omega
    refine ⟨A, c, ?_, ?_⟩
    · rw [hl]; exact hg
    · rw [hl]; exact hb

set_option maxHeartbeats 800000 in
theorem raw1_ok (r B q : Nat) (v : Value) (k n : Int) (xs : List UInt8) (w : World) (hq : w.cell? ⟨q, 0, none⟩ = some (.int .i64 n)) (h2 : n ≤ xs.length) (hx : xs.length ≤ 60000000) (hc : Cu w r B v k xs) :
    Calls Try.prog 78 #[.pointer (some ⟨r, 0, none⟩), .pointer (some ⟨q, 0, none⟩)] w fun e w' => ∃ u, e = .returned u ∧ Copied w r B k (xs.take n.toNat) (xs.drop n.toNat) u w' := by
  have hlen : (xs.take n.toNat).length ≤ 60000000 := by rw [List.length_take]; omega
  by_cases h0 : 0 ≤ n
  · have hl := takes_ok r B v k n xs w h0 h2 hc
    obtain ⟨zs, hzs⟩ : ∃ zs, zs = xs.take n.toNat := ⟨_, rfl⟩
    obtain ⟨ds, hds⟩ : ∃ ds, ds = xs.drop n.toNat := ⟨_, rfl⟩
    rw [← hzs] at hlen
    rw [← hzs, ← hds] at hl ⊢
    clear hzs hds
    have HS := Lib.hid hl
    clear hl
    go_enter Try.func78, Try.ntmps78
    go_wp2_with fail
    refine HS.out.mono ?_
    rintro e w1 ⟨A, c, ⟨rfl, v1, hc1, ht1⟩, hby⟩
    go_wp2_with fail
    refine (clone_any B _ zs w1 hby (by omega)).mono ?_
    rintro e w2 ⟨A2, c2, rfl, hown, hb2⟩
    go_wp2
    go_ret
    exact ⟨_, rfl, copied_of hc1 ht1 hown hb2⟩
  · have hl := takes_ok r B v k 0 xs w (by omega) (by omega) hc
    have hn : n.toNat = 0 := by omega
    have hn0 : (0 : Int).toNat = n.toNat := by omega
    rw [hn0] at hl
    obtain ⟨zs, hzs⟩ : ∃ zs, zs = xs.take n.toNat := ⟨_, rfl⟩
    obtain ⟨ds, hds⟩ : ∃ ds, ds = xs.drop n.toNat := ⟨_, rfl⟩
    rw [← hzs] at hlen
    rw [← hzs, ← hds] at hl ⊢
    clear hzs hds hn hn0
    have hneg : n < 0 := by omega
    have HS := Lib.hid hl
    clear hl
    go_enter Try.func78, Try.ntmps78
    go_wp2_with fail
    refine HS.out.mono ?_
    rintro e w1 ⟨A, c, ⟨rfl, v1, hc1, ht1⟩, hby⟩
    go_wp2_with fail
    refine (clone_any B _ zs w1 hby (by omega)).mono ?_
    rintro e w2 ⟨A2, c2, rfl, hown, hb2⟩
    go_wp2
    go_ret
    exact ⟨_, rfl, copied_of hc1 ht1 hown hb2⟩

set_option maxHeartbeats 800000 in
theorem raw1_end (r B q : Nat) (v : Value) (k n : Int) (xs : List UInt8) (w : World) (hq : w.cell? ⟨q, 0, none⟩ = some (.int .i64 n)) (h2 : xs.length < n) (hc : Cu w r B v k xs) :
    Calls Try.prog 78 #[.pointer (some ⟨r, 0, none⟩), .pointer (some ⟨q, 0, none⟩)] w (Stops w r B k 4) := by
  have h0 : 0 ≤ n := by omega
  go_enter Try.func78, Try.ntmps78
  go_wp2_with fail
  refine (take_end r B v k n xs w h2 hc).mono ?_
  rintro e w1 ⟨rfl, hst⟩
  go_wp2
  exact ⟨rfl, rfl, hst⟩

end Go.Proofs.Ytadgaeokiolmmaa
