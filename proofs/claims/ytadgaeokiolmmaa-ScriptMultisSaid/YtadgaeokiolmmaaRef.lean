/-
  What Clone, Out and the references' own byte functions do. Conditions: sizes within the reach.
-/
import Derived.Test.YtadgaeokiolmmaaWire
namespace Go.Proofs.Ytadgaeokiolmmaa
open Go.RowKit

/-- A call that hands back a new row of these bytes, and turns nothing that was there. -/
def Fresh (w : World) (xs : List UInt8) (e : Ending) (w' : World) : Prop :=
  ∃ A c, e = .returned (.slice A xs.length c) ∧ w'.ownsRow w.heap.size 5 1 (.slice A xs.length c) xs.length (xs.map bv) ∧ Below w.heap.size w w'

theorem fresh_of {w w' : World} {v : Value} {xs : List UInt8} (h : w'.ownsRow w.heap.size 5 1 v xs.length (xs.map bv)) (hb : Below w.heap.size w w') : Fresh w xs (.returned v) w' := by
  obtain ⟨A, c, rfl⟩ := own_form h
  exact ⟨A, c, rfl, h, hb⟩

set_option maxHeartbeats 400000 in
theorem clone_any (B : Nat) (x : Value) (xs : List UInt8) (w : World) (hr : Byt w B x xs) (hlen : xs.length ≤ 140737488355328) :
    Calls Try.prog 74 #[x] w (Fresh w xs) := by
  obtain ⟨i0, hi, hz0, hz1, hz2⟩ := info_parts info_u8
  obtain ⟨A, c, hx⟩ := hr.form
  subst hx
  rcases A with _ | ad
  · have hnil : xs = [] := by
      obtain ⟨A', c', e, _, _, hA, _⟩ := hr
      exact (hA (Value.slice.inj e).1.symm).1
    subst hnil
    have hq := Lib.run_eql_slice_nil (P := Try.prog) w 22 5 none 0 c 0 0 slice_u8
    go_enter Try.func74, Try.ntmps74
    go_wp2
    go_ret
    exact fresh_of (World.ownsRow_nil _ _ _ _) (Below.refl _ _)
  · have hq := Lib.run_eql_slice_nil (P := Try.prog) w 22 5 (some ad) xs.length c 0 0 slice_u8
    have hr1 : Byt (w.alloc (.cells #[] 5)) B (.slice (some ad) xs.length c) xs := by
      obtain ⟨A', c', e, h1, h2, h3, h4⟩ := hr
      refine ⟨A', c', e, h1, h2, h3, fun hne => ?_⟩
      obtain ⟨b, o, e1, hb, hc⟩ := h4 hne
      exact ⟨b, o, e1, hb, fun j u hu => cell_later (Below.alloc (Below.refl _ _) (Nat.le_refl _) _) (hc j u hu)⟩
    have hown : (w.alloc (.cells #[] 5)).ownsRow w.heap.size 5 1 (.slice (some ⟨w.heap.size, 0, none⟩) 0 0) 0 [] :=
      World.ownsRow_made w #[] 0 (Nat.le_refl _) (by unfold maxLen; omega) rfl
    go_enter Try.func74, Try.ntmps74
    go_wp2_with (at_builtin; refine wpList_append_bytes rfl (.tmp 5) (.tmp 6) 22 rfl w.heap.size 5 i0 slice_u8 hi hz0 hz1 hz2 _ 0 [] rfl hown B _ xs rfl hr1 (by omega) (by simp) ?_; intro v1 w1 hown1 hg1 hat1; obtain ⟨A1, c1, rfl⟩ := own_form hown1)
    go_ret
    rw [Nat.zero_add] at *
    exact fresh_of hown1 ((Below.alloc (Below.refl _ _) (Nat.le_refl _) _).grown hg1 (by simp) (fun k hk => by cases hk; exact Nat.le_refl _))

theorem Wr.byt {w : World} {g base : Nat} {v : Value} {xs : List UInt8} (h : Wr w g base v xs) : Byt w w.heap.size v xs := Byt.of_own h.2

set_option maxHeartbeats 400000 in
theorem out_any (g base : Nat) (v : Value) (xs : List UInt8) (w : World) (hw : Wr w g base v xs) (hlen : xs.length ≤ 60000000) :
    Calls Try.prog 55 #[.pointer (some ⟨g, 0, none⟩)] w (Fresh w xs) := by
  have hc := hw.cell
  obtain ⟨A, c, rfl⟩ := own_form hw.2
  go_enter Try.func55, Try.ntmps55
  go_wp2_with fail
  refine (clone_any w.heap.size _ xs w hw.byt (by omega)).mono ?_
  rintro e w1 ⟨A1, c1, rfl, hown1, hb1⟩
  go_wp2
  go_ret
  exact ⟨_, _, rfl, hown1, hb1⟩

set_option maxHeartbeats 400000 in
theorem equal_any (B B' : Nat) (x y : Value) (xs ys : List UInt8) (w : World) (hx : Byt w B x xs) (hy : Byt w B' y ys) :
    Calls Try.prog 17 #[x, y] w fun e w' => e = .returned (.bool (xs == ys)) ∧ w = w' := by
  have h1 := run_string_of (P := Try.prog) w 22 9 5 slice_u8 Try.underlying5 Try.underlying9 B x xs hx
  have h2 := run_string_of (P := Try.prog) w 22 9 5 slice_u8 Try.underlying5 Try.underlying9 B' y ys hy
  go_enter Try.func17, Try.ntmps17
  go_wp2
  go_ret
  exact ⟨rfl, rfl⟩

theorem equal_yes (B B' : Nat) (x y : Value) (xs ys : List UInt8) (w : World) (hx : Byt w B x xs) (hy : Byt w B' y ys) (h : xs = ys) :
    Calls Try.prog 17 #[x, y] w fun e w' => e = .returned (.bool true) ∧ w = w' :=
  (equal_any B B' x y xs ys w hx hy).mono fun _ _ ⟨he, hw⟩ => ⟨by rw [he, h]; simp, hw⟩

theorem Byt.take_ {w : World} {B c : Nat} {A : Option Addr} {xs : List UInt8} (h : Byt w B (.slice A xs.length c) xs) {k : Nat} (hk : k ≤ xs.length) : Byt w B (.slice A k c) (xs.take k) := by
  obtain ⟨A', c', e, h1, h2, h3, h4⟩ := h
  injection e with e1 e2 e3
  subst e1 e3
  refine ⟨A, c, by rw [List.length_take, Nat.min_eq_left hk], by rw [List.length_take]; omega, h2, fun h => ?_, fun hne => ?_⟩
  · obtain ⟨rfl, hc⟩ := h3 h
    exact ⟨by simp, hc⟩
  · obtain ⟨b, o, e1, hb, hc⟩ := h4 (by rintro rfl; simp at hne)
    refine ⟨b, o, e1, hb, fun j u hu => hc j u ?_⟩
    rw [List.getElem?_take] at hu
    split at hu
    · exact hu
    · cases hu

theorem low_split (m : Int) (k : Nat) (hk : 0 < k) : low m k = b8 m :: low (m / 256) (k - 1) := by
  obtain ⟨k, rfl⟩ : ∃ j, k = j + 1 := ⟨k - 1, by omega⟩
  rfl

theorem low_step {n m : Int} {k : Nat} {zs : List UInt8} (hlt : zs.length < k) (h : low n k = zs ++ low m (k - zs.length)) : low n k = (zs ++ [b8 m]) ++ low (m / 256) (k - (zs ++ [b8 m]).length) := by
  rw [h, low_split m _ (by omega), List.length_append]
  simp
  congr 1

set_option maxHeartbeats 400000 in
theorem low_any (n : Int) (k : Nat) (w : World) (h0 : 0 ≤ n) (h1 : n < 18446744073709551616) (hk : k ≤ 8) :
    Calls Try.prog 56 #[.int .u64 n, .int .i64 (k : Int)] w (Fresh w (low n k)) := by
  obtain ⟨i0, hi, hz0, hz1, hz2⟩ := info_parts info_u8
  go_enter Try.func56, Try.ntmps56
  go_wp2
  go_loopw [0, 5, 6] (fun x v i wr => ∃ (m : Int) (zs : List UInt8), zs.length ≤ k ∧ i = .int .i64 (zs.length : Int) ∧ x = .int .u64 m ∧ 0 ≤ m ∧ m < 18446744073709551616 ∧ Hid (low n k = zs ++ low m (k - zs.length)) ∧
      wr.ownsRow w.heap.size 5 1 v zs.length (zs.map bv) ∧ Below w.heap.size w wr)
    (fun _ _ i _ => k - (intOf i).toNat)
  case atStart => exact ⟨n, [], by simp, rfl, rfl, h0, h1, rfl, World.ownsRow_nil _ _ _ _, Below.refl _ _⟩
  case round =>
    obtain ⟨m, zs, hz, rfl, rfl, hm0, hm1, hlow, hown, hbel⟩ := hrel
    by_cases hlt : zs.length < k
    · have hmade : Byt (wr.alloc (.cells #[.int .u8 (m % 256)] 5)) (wr.heap.size + 1) (.slice (some ⟨wr.heap.size, 0, none⟩) 1 1) [b8 m] := Byt.made wr _ [_] [b8 m] (by simp [bv_b8]) (by unfold maxLen; simp)
      go_wp2_with (at_builtin; refine wpList_append_bytes rfl (.tmp 12) (.tmp 16) 22 rfl w.heap.size 5 i0 slice_u8 hi hz0 hz1 hz2 _ zs.length (zs.map bv) rfl (hown.alloc _) (wr.heap.size + 1) _ [b8 m] rfl hmade (by simp; omega) (by have := hbel.size; simp; omega) ?_; intro v1 w1 hown1 hg1 hat1)
      have hstep := low_step hlt hlow.out
      have HS := Lib.hid hstep
      clear hstep
      have hb1 : Below w.heap.size w w1 := (hbel.alloc hbel.size _).grown hg1 (by have := hbel.size; simp; omega) (fun j hj => (hown.lt j hj).1)
      go_roundw
      case rel => exact ⟨m / 256, zs ++ [b8 m], by simp; omega, by simp, rfl, by omega, by omega, HS, by simpa using hown1, hb1⟩
      case measure => simp [intOf]; omega
    · go_wp2
      go_ret
      have hzk : zs.length = k := by omega
      have : low n k = zs := by
        have h := hlow.out
        rw [hzk, Nat.sub_self] at h
        simpa [low] using h
      rw [this]
      exact fresh_of hown hbel


theorem own_made (w : World) (e : TypeId) (l : List Value) (ys : List UInt8) (h : l = ys.map bv) (hl : ys.length ≤ maxLen) :
    (w.alloc (.cells l.toArray e)).ownsRow w.heap.size e 1 (.slice (some ⟨w.heap.size, 0, none⟩) ys.length ys.length) ys.length (ys.map bv) := by
  refine ⟨by simp, .inr ⟨w.heap.size, ys.length, l.toArray, rfl, Nat.le_refl _, heap_alloc_new w _, Nat.le_refl _, hl, by simp [h], ?_⟩⟩
  rw [h]
  exact List.take_of_length_le (by simp)

theorem Fresh.pre {w w1 w2 : World} {xs : List UInt8} {e : Ending} (hb : Below w.heap.size w w1) (h : Fresh w1 xs e w2) : Fresh w xs e w2 := by
  obtain ⟨A, c, he, hown, hb2⟩ := h
  refine ⟨A, c, he, ⟨hown.1, ?_⟩, hb.trans (hb2.mono hb.size)⟩
  rcases hown.2 with h | ⟨g, cap, cur, hv, hg, r⟩
  · exact .inl h
  · exact .inr ⟨g, cap, cur, hv, Nat.le_trans hb.size hg, r⟩

theorem low_num (n : Int) (k : Nat) (q : Int) (hq : q = k) (w : World) (h0 : 0 ≤ n) (h1 : n < 18446744073709551616) (hk : k ≤ 8) :
    Calls Try.prog 56 #[.int .u64 n, .int .i64 q] w (Fresh w (low n k)) := by
  subst hq
  exact low_any n k w h0 h1 hk

/-- What a longer size's three calls leave: its first byte's row, the number's row behind it, both joined. -/
theorem size_join {w w1 w2 : World} {b : UInt8} {l : List Value} {zs : List UInt8} {A : Option Addr} {c : Nat} {v2 : Value} (_hl : l = [b].map bv)
    (hb1 : Below (w.alloc (.cells l.toArray 5)).heap.size (w.alloc (.cells l.toArray 5)) w1)
    (_hz : w1.ownsRow (w.alloc (.cells l.toArray 5)).heap.size 5 1 (.slice A zs.length c) zs.length (zs.map bv))
    (hown2 : w2.ownsRow w.heap.size 5 1 v2 (1 + zs.length) ([b].map bv ++ zs.map bv)) (hg2 : w1.grownBy w2 (some w.heap.size)) : Fresh w (b :: zs) (.returned v2) w2 := by
  have h := hb1.size
  simp at h
  refine fresh_of (by simpa [Nat.add_comm] using hown2) ?_
  exact (((Below.refl w.heap.size w).alloc (Nat.le_refl _) _).trans (hb1.mono (by simp))).grown hg2 (by omega) (fun k hk => by cases hk; exact Nat.le_refl _)

end Go.Proofs.Ytadgaeokiolmmaa
