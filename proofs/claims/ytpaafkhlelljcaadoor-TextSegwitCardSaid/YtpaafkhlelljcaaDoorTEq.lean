/-
  The references' Equal, and the laws' short. Conditions: none.
-/
import Derived.Test.YtpaafkhlelljcaaDoorOwn
namespace Go.Proofs.YtpaafkhlelljcaaDoor
open Go.RowKit

set_option maxRecDepth 100000 in
set_option maxHeartbeats 400000 in
theorem equal_any (B B' : Nat) (x y : Value) (xs ys : List UInt8) (w : World) (hx : Byt w B x xs) (hy : Byt w B' y ys) :
    Calls Tryd.prog 15 #[x, y] w fun e w' => e = .returned (.bool (xs == ys)) ∧ w = w' := by
  have h1 := run_string_of (P := Tryd.prog) w 22 9 5 slice_u8 Tryd.underlying5 Tryd.underlying9 B x xs hx
  have h2 := run_string_of (P := Tryd.prog) w 22 9 5 slice_u8 Tryd.underlying5 Tryd.underlying9 B' y ys hy
  go_enter Tryd.func15, Tryd.ntmps15
  go_wp2
  go_ret
  exact ⟨rfl, rfl⟩

theorem equal_yes (B B' : Nat) (x y : Value) (xs ys : List UInt8) (w : World) (hx : Byt w B x xs) (hy : Byt w B' y ys) (h : xs = ys) :
    Calls Tryd.prog 15 #[x, y] w fun e w' => e = .returned (.bool true) ∧ w = w' :=
  (equal_any B B' x y xs ys w hx hy).mono fun _ _ ⟨he, hw⟩ => ⟨by rw [he, h]; simp, hw⟩

theorem Byt.take_ {w : World} {B c : Nat} {A : Option Addr} {xs : List UInt8} (h : Byt w B (.slice A xs.length c) xs) {k : Nat} (hk : k ≤ xs.length) : Byt w B (.slice A k c) (xs.take k) := by
  obtain ⟨A', c', e, h1, h2, h3, h4⟩ := h
  injection e with e1 e2 e3
  subst e1 e3
  refine ⟨A, c, by rw [List.length_take, Nat.min_eq_left hk], by rw [List.length_take]; omega, h2, fun h => ?_, fun hne => ?_⟩
  · obtain ⟨rfl, hc⟩ := h3 h
    exact ⟨by simp, hc⟩
  · obtain ⟨b, o, e1, hb, hc⟩ := h4 (by rintro rfl; simp at hne)
    refine ⟨b, o, e1, hb, fun j u hu => hc j u ?_⟩
    rw [List.getElem?_take] at hu
    split at hu
    · exact hu
    · cases hu

set_option maxRecDepth 100000 in
set_option maxHeartbeats 400000 in
theorem short_any (n B : Nat) (x : Value) (xs : List UInt8) (w : World) (hx : Byt w B x xs) (hn : n ≤ 60000) :
    Calls Tryd.prog 9 #[x, .int .i64 n] w fun e w' => (∃ y, e = .returned y ∧ Byt w B y (xs.take n)) ∧ w = w' := by
  have hl := hx.len
  obtain ⟨A, c, rfl⟩ := hx.form
  obtain ⟨hc1, hc2⟩ := hx.cap
  unfold maxLen at hl
  by_cases h : n < xs.length
  · have ht := hx.take_ (k := n) (by omega)
    have HT := Lib.hid ht
    have he : c = 0 → False := fun h0 => by omega
    clear hx ht
    go_enter Tryd.func9, Tryd.ntmps9
    go_wp2
    go_ret
    exact ⟨⟨_, rfl, HT.out⟩, rfl⟩
  · have ht : xs.take n = xs := List.take_of_length_le (by omega)
    have HT := Lib.hid ht
    have HX := Lib.hid hx
    clear hx ht
    go_enter Tryd.func9, Tryd.ntmps9
    go_wp2
    go_ret
    exact ⟨⟨_, rfl, by rw [HT.out]; exact HX.out⟩, rfl⟩
end Go.Proofs.YtpaafkhlelljcaaDoor
