/-
  What the steps that read lists do (a copy comes back). Conditions: sizes within the reach.
-/
import Derived.Test.YtelbcmcffjpdoaaCatch
namespace Go.Proofs.Ytelbcmcffjpdoaa
open Go.RowKit

/-- Bytes are taken: a slice of the reader's own memory. -/
def Takes (w : World) (r B : Nat) (k : Int) (zs ys : List UInt8) (e : Ending) (w' : World) : Prop :=
  ∃ A c, Goes w r B k (.slice A zs.length c) ys e w' ∧ Byt w' B (.slice A zs.length c) zs

/-- A list: a size, and so many bytes, but not more than most. -/
def listP (most : Int) (xs : List UInt8) : Except Int (List UInt8 × List UInt8) :=
  match sizeP xs with
  | .error c => .error c
  | .ok (n, ys) => if n > most then .error 2 else if ys.length < n then .error 4 else .ok (ys.take n.toNat, ys.drop n.toNat)

theorem sizeP_bd {xs ys : List UInt8} {n : Int} (h : sizeP xs = .ok (n, ys)) : 0 ≤ n ∧ n ≤ 33554432 := by
  unfold sizeP at h
  split at h
  · cases h
  split at h
  · have := val_take_lt xs 1
    cases h
    omega
  split at h
  · cases h
  split at h
  · cases h
  split at h
  · cases h
  · have := (val_bd ((xs.drop 1).take (wd (val (xs.take 1))))).1
    cases h
    omega

theorem csize_ok (r B : Nat) (v : Value) (k : Int) (n : Int) (xs ys : List UInt8) (w : World) (h : sizeP xs = .ok (n, ys)) (hc : Cu w r B v k xs) :
    Calls Try.prog 47 #[.pointer (some ⟨r, 0, none⟩)] w (Goes w r B k (.int .u64 n) ys) :=
  (csize_any r B v k xs w hc).mono fun _ _ hh => by unfold sizeV at hh; rw [h] at hh; exact hh
theorem csize_bad (r B : Nat) (v : Value) (k : Int) (c : Int) (xs : List UInt8) (w : World) (h : sizeP xs = .error c) (hc : Cu w r B v k xs) :
    Calls Try.prog 47 #[.pointer (some ⟨r, 0, none⟩)] w (Stops w r B k c) :=
  (csize_any r B v k xs w hc).mono fun _ _ hh => by unfold sizeV at hh; rw [h] at hh; exact hh

set_option maxHeartbeats 800000 in
theorem clist_ok (r B : Nat) (v : Value) (k n most : Int) (xs ys : List UInt8) (w : World) (h : sizeP xs = .ok (n, ys)) (h1 : n ≤ most) (h2 : n ≤ ys.length) (hc : Cu w r B v k xs) :
    Calls Try.prog 52 #[.pointer (some ⟨r, 0, none⟩), .int .i64 most] w (Takes w r B k (ys.take n.toNat) (ys.drop n.toNat)) := by
  obtain ⟨hn0, hn1⟩ := sizeP_bd h
  have hs := csize_ok r B v k n xs ys w h hc
  have HS := Lib.hid hs
  have hlen : (ys.take n.toNat).length = n.toNat := by rw [List.length_take]; omega
  have HL := Lib.hid hlen
  obtain ⟨zs, hzs⟩ : ∃ zs, zs = ys.take n.toNat := ⟨_, rfl⟩
  obtain ⟨ds, hds⟩ : ∃ ds, ds = ys.drop n.toNat := ⟨_, rfl⟩
  rw [← hzs] at HL
  rw [← hzs, ← hds]
  have HZ := Lib.hid hzs
  have HD := Lib.hid hds
  clear hs h hlen hzs hds
  go_enter Try.func52, Try.ntmps52
  go_wp2_with fail
  refine HS.out.mono ?_
  rintro e w1 ⟨rfl, v1, hc1, ht1⟩
  go_wp2_with fail
  refine (take_ok r B v1 k n ys w1 hn0 h2 hc1).mono ?_
  rintro e w2 ⟨A, c, ⟨rfl, v2, hc2, ht2⟩, hby⟩
  rw [← HZ.out, ← HD.out] at *
  go_wp2
  go_ret
  refine ⟨A, c, ⟨?_, v2, hc2, ht1.trans ht2 (fun _ _ h => h)⟩, ?_⟩
  · rw [HL.out]; rfl
  · rw [HL.out]; exact hby


set_option maxHeartbeats 800000 in
theorem clist_bad (r B : Nat) (v : Value) (k c most : Int) (xs : List UInt8) (w : World) (h : listP most xs = .error c) (hc : Cu w r B v k xs) :
    Calls Try.prog 52 #[.pointer (some ⟨r, 0, none⟩), .int .i64 most] w (Stops w r B k c) := by
  unfold listP at h
  cases hs : sizeP xs with
  | error c' =>
    rw [hs] at h
    injection h with h
    subst h
    have hst := csize_bad r B v k c' xs w hs hc
    have HS := Lib.hid hst
    clear hst hs
    go_enter Try.func52, Try.ntmps52
    go_wp2_with fail
    refine HS.out.mono ?_
    rintro e w1 ⟨rfl, hst⟩
    go_wp2
    exact ⟨rfl, rfl, hst⟩
  | ok p =>
    obtain ⟨n, ys⟩ := p
    rw [hs] at h
    obtain ⟨hn0, hn1⟩ := sizeP_bd hs
    have hst := csize_ok r B v k n xs ys w hs hc
    have HS := Lib.hid hst
    clear hst hs
    simp only at h
    by_cases h1 : n > most
    · rw [if_pos h1] at h
      injection h with h
      have HC := Lib.hid h
      clear h
      go_enter Try.func52, Try.ntmps52
      go_wp2_with fail
      refine HS.out.mono ?_
      rintro e w1 ⟨rfl, v1, hc1, ht1⟩
      go_wp2_with fail
      refine (fail_any _ _).mono ?_
      rintro e w2 ⟨rfl, rfl⟩
      go_wp2
      refine ⟨rfl, ?_, v1, ys, hc1, ht1⟩
      rw [← HC.out]
    · rw [if_neg h1] at h
      by_cases h2 : ys.length < n
      · rw [if_pos h2] at h
        injection h with h
        have HC := Lib.hid h
        clear h
        go_enter Try.func52, Try.ntmps52
        go_wp2_with fail
        refine HS.out.mono ?_
        rintro e w1 ⟨rfl, v1, hc1, ht1⟩
        go_wp2_with fail
        refine (take_end r B v1 k n ys w1 h2 hc1).mono ?_
        rintro e w2 ⟨rfl, v2, zs, hc2, ht2⟩
        go_wp2
        refine ⟨rfl, ?_, v2, zs, hc2, ht1.trans ht2 (fun _ _ h => h)⟩
        rw [← HC.out]
      · rw [if_neg h2] at h
        cases h

/-- A copy of bytes comes back, in new memory; the reader moves on. -/
def Copied (w : World) (r B : Nat) (k : Int) (zs ys : List UInt8) (u : Value) (w' : World) : Prop :=
  ∃ A c, u = .slice A zs.length c ∧ w'.ownsRow w.heap.size 5 1 (.slice A zs.length c) zs.length (zs.map bv) ∧ ∃ v', Cu w' r B v' k ys ∧ Turns (fun i => i = r) w w'

theorem copied_of {w w1 w2 : World} {r B : Nat} {k : Int} {zs ys : List UInt8} {v' : Value} {A : Option Addr} {c : Nat} (hc : Cu w1 r B v' k ys) (ht : Turns (fun i => i = r) w w1)
    (hown : w2.ownsRow w1.heap.size 5 1 (.slice A zs.length c) zs.length (zs.map bv)) (hb : Below w1.heap.size w1 w2) : Copied w r B k zs ys (.slice A zs.length c) w2 := by
  refine ⟨A, c, rfl, ⟨hown.1, ?_⟩, v', hc.below hb, ht.trans (Turns.of_below (S := fun i => i = r) hb) (fun _ _ h => h)⟩
  rcases hown.2 with h | ⟨g, cap, cur, hv, hg, rr⟩
  · exact .inl h
  · exact .inr ⟨g, cap, cur, hv, Nat.le_trans ht.size hg, rr⟩

theorem Copied.pre {w w1 w2 : World} {r B : Nat} {k : Int} {zs ys : List UInt8} {u : Value} (hb : Below w.heap.size w w1) (h : Copied w1 r B k zs ys u w2) : Copied w r B k zs ys u w2 := by
  obtain ⟨A, c, he, hown, v', hc, ht⟩ := h
  refine ⟨A, c, he, ⟨hown.1, ?_⟩, v', hc, (Turns.of_below (S := fun i => i = r) hb).trans ht (fun _ _ h => h)⟩
  rcases hown.2 with h | ⟨g, cap, cur, hv, hg, rr⟩
  · exact .inl h
  · exact .inr ⟨g, cap, cur, hv, Nat.le_trans hb.size hg, rr⟩

set_option maxHeartbeats 800000 in
theorem bytes1_ok (r B q : Nat) (v : Value) (k n most : Int) (xs ys : List UInt8) (w : World) (hq : w.cell? ⟨q, 0, none⟩ = some (.int .i64 most)) (h : sizeP xs = .ok (n, ys)) (h1 : n ≤ most) (h2 : n ≤ ys.length) (hc : Cu w r B v k xs) :
    Calls Try.prog 51 #[.pointer (some ⟨r, 0, none⟩), .pointer (some ⟨q, 0, none⟩)] w fun e w' => ∃ u, e = .returned u ∧ Copied w r B k (ys.take n.toNat) (ys.drop n.toNat) u w' := by
  have hl := clist_ok r B v k n most xs ys w h h1 h2 hc
  obtain ⟨hn0, hn1⟩ := sizeP_bd h
  have hlen : (ys.take n.toNat).length ≤ 33554432 := by rw [List.length_take]; omega
  obtain ⟨zs, hzs⟩ : ∃ zs, zs = ys.take n.toNat := ⟨_, rfl⟩
  obtain ⟨ds, hds⟩ : ∃ ds, ds = ys.drop n.toNat := ⟨_, rfl⟩
  rw [← hzs] at hlen
  rw [← hzs, ← hds] at hl ⊢
  have HS := Lib.hid hl
  clear hl h hzs hds
  go_enter Try.func51, Try.ntmps51
  go_wp2_with fail
  refine HS.out.mono ?_
  rintro e w1 ⟨A, c, ⟨rfl, v1, hc1, ht1⟩, hby⟩
  go_wp2_with fail
  refine (clone_any B _ zs w1 hby (by omega)).mono ?_
  rintro e w2 ⟨A2, c2, rfl, hown, hb2⟩
  go_wp2
  go_ret
  exact ⟨_, rfl, copied_of hc1 ht1 hown hb2⟩

set_option maxHeartbeats 800000 in
theorem bytes1_bad (r B q : Nat) (v : Value) (k c most : Int) (xs : List UInt8) (w : World) (hq : w.cell? ⟨q, 0, none⟩ = some (.int .i64 most)) (h : listP most xs = .error c) (hc : Cu w r B v k xs) :
    Calls Try.prog 51 #[.pointer (some ⟨r, 0, none⟩), .pointer (some ⟨q, 0, none⟩)] w (Stops w r B k c) := by
  have hl := clist_bad r B v k c most xs w h hc
  have HS := Lib.hid hl
  clear hl h
  go_enter Try.func51, Try.ntmps51
  go_wp2_with fail
  refine HS.out.mono ?_
  rintro e w1 ⟨rfl, hst⟩
  go_wp2
  exact ⟨rfl, rfl, hst⟩

theorem takes_ok (r B : Nat) (v : Value) (k n : Int) (xs : List UInt8) (w : World) (h0 : 0 ≤ n) (h1 : n ≤ xs.length) (hc : Cu w r B v k xs) :
    Calls Try.prog 50 #[.pointer (some ⟨r, 0, none⟩), .int .i64 n] w (Takes w r B k (xs.take n.toNat) (xs.drop n.toNat)) :=
  (take_ok r B v k n xs w h0 h1 hc).mono fun e w' ⟨A, c, hg, hb⟩ => by
    have hl : (xs.take n.toNat).length = n.toNat := by rw [List.length_take]; omega
    refine ⟨A, c, ?_, ?_⟩
    · rw [hl]; exact hg
    · rw [hl]; exact hb

set_option maxHeartbeats 800000 in
theorem raw1_ok (r B q : Nat) (v : Value) (k n : Int) (xs : List UInt8) (w : World) (hq : w.cell? ⟨q, 0, none⟩ = some (.int .i64 n)) (h2 : n ≤ xs.length) (hx : xs.length ≤ 60000) (hc : Cu w r B v k xs) :
    Calls Try.prog 49 #[.pointer (some ⟨r, 0, none⟩), .pointer (some ⟨q, 0, none⟩)] w fun e w' => ∃ u, e = .returned u ∧ Copied w r B k (xs.take n.toNat) (xs.drop n.toNat) u w' := by
  have hlen : (xs.take n.toNat).length ≤ 60000 := by rw [List.length_take]; omega
  by_cases h0 : 0 ≤ n
  · have hl := takes_ok r B v k n xs w h0 h2 hc
    obtain ⟨zs, hzs⟩ : ∃ zs, zs = xs.take n.toNat := ⟨_, rfl⟩
    obtain ⟨ds, hds⟩ : ∃ ds, ds = xs.drop n.toNat := ⟨_, rfl⟩
    rw [← hzs] at hlen
    rw [← hzs, ← hds] at hl ⊢
    clear hzs hds
    have HS := Lib.hid hl
    clear hl
    go_enter Try.func49, Try.ntmps49
    go_wp2_with fail
    refine HS.out.mono ?_
    rintro e w1 ⟨A, c, ⟨rfl, v1, hc1, ht1⟩, hby⟩
    go_wp2_with fail
    refine (clone_any B _ zs w1 hby (by omega)).mono ?_
    rintro e w2 ⟨A2, c2, rfl, hown, hb2⟩
    go_wp2
    go_ret
    exact ⟨_, rfl, copied_of hc1 ht1 hown hb2⟩
  · have hl := takes_ok r B v k 0 xs w (by omega) (by omega) hc
    have hn : n.toNat = 0 := by omega
    have hn0 : (0 : Int).toNat = n.toNat := by omega
    rw [hn0] at hl
    obtain ⟨zs, hzs⟩ : ∃ zs, zs = xs.take n.toNat := ⟨_, rfl⟩
    obtain ⟨ds, hds⟩ : ∃ ds, ds = xs.drop n.toNat := ⟨_, rfl⟩
    rw [← hzs] at hlen
    rw [← hzs, ← hds] at hl ⊢
    clear hzs hds hn hn0
    have hneg : n < 0 := by omega
    have HS := Lib.hid hl
    clear hl
    go_enter Try.func49, Try.ntmps49
    go_wp2_with fail
    refine HS.out.mono ?_
    rintro e w1 ⟨A, c, ⟨rfl, v1, hc1, ht1⟩, hby⟩
    go_wp2_with fail
    refine (clone_any B _ zs w1 hby (by omega)).mono ?_
    rintro e w2 ⟨A2, c2, rfl, hown, hb2⟩
    go_wp2
    go_ret
    exact ⟨_, rfl, copied_of hc1 ht1 hown hb2⟩

set_option maxHeartbeats 800000 in
theorem raw1_end (r B q : Nat) (v : Value) (k n : Int) (xs : List UInt8) (w : World) (hq : w.cell? ⟨q, 0, none⟩ = some (.int .i64 n)) (h2 : xs.length < n) (hc : Cu w r B v k xs) :
    Calls Try.prog 49 #[.pointer (some ⟨r, 0, none⟩), .pointer (some ⟨q, 0, none⟩)] w (Stops w r B k 4) := by
  have h0 : 0 ≤ n := by omega
  go_enter Try.func49, Try.ntmps49
  go_wp2_with fail
  refine (take_end r B v k n xs w h2 hc).mono ?_
  rintro e w1 ⟨rfl, hst⟩
  go_wp2
  exact ⟨rfl, rfl, hst⟩

end Go.Proofs.Ytelbcmcffjpdoaa
