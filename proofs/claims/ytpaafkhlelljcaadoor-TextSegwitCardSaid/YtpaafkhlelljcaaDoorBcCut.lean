/-
  Slices of slices of bytes; bytes.Equal. Conditions: none.
-/
import Derived.Test.YtpaafkhlelljcaaDoorReb
import Derived.Test.YtpaafkhlelljcaaDoorTEq
import Derived.Deep.RegionHeld
import Derived.OrdersHeld
namespace Go.Proofs.YtpaafkhlelljcaaDoor
open Go.RowKit

theorem byt_drewN {w : World} {B : Nat} {v : Value} {xs : List UInt8} (h : Byt w B v xs) (n : Nat) : Byt (w.drewN n) B v xs := h.keep fun _ _ _ => rfl

theorem run_to (A : Option Addr) (n c m : Nat) (hm : m ≤ c) (h0 : 0 < c) (W : World) :
    (Instr.slice 22 (.slice A n c) none (some (.int .i64 (m : Int))) none).run Tryd.prog W = .ok (.slice A m c) W := by
  obtain ⟨i0, hi, hz0, hz1, hz2⟩ := info_parts info_u8
  have he : Tryd.prog.elem 22 = 5 := by kernel_rfl
  have ht : Tryd.prog.underlying 22 = some (.slice (Tryd.prog.elem 22)) := by rw [he]; exact slice_u8
  rw [run_slice_h (ht := ht) (h0 := by omega) (h2 := by omega), he]
  have hc0 : ¬ c = 0 := by omega
  simp [sizeOf, typeInfo, hi, hz1, sliced, go_sem, hc0]
theorem run_to3 (A : Option Addr) (n c m : Nat) (hm : m ≤ c) (W : World) :
    (Instr.slice 22 (.slice A n c) none (some (.int .i64 (m : Int))) (some (.int .i64 (m : Int)))).run Tryd.prog W = .ok (.slice A m m) W := by
  obtain ⟨i0, hi, hz0, hz1, hz2⟩ := info_parts info_u8
  have he : Tryd.prog.elem 22 = 5 := by kernel_rfl
  have ht : Tryd.prog.underlying 22 = some (.slice (Tryd.prog.elem 22)) := by rw [he]; exact slice_u8
  rw [run_slice_hm (ht := ht) (h0 := by omega) (h2 := by omega) (h3 := by omega), he]
  by_cases h0 : m = 0
  · subst h0
    simp [sizeOf, typeInfo, hi, hz1, sliced, go_sem]
  · simp [sizeOf, typeInfo, hi, hz1, sliced, go_sem, h0]

theorem byt_cap {w : World} {B c : Nat} {A : Option Addr} {xs : List UInt8} (h : Byt w B (.slice A xs.length c) xs) {k : Nat} (hk : k ≤ xs.length) : Byt w B (.slice A k k) (xs.take k) := by
  obtain ⟨A', c', e, h1, h2, h3, h4⟩ := h
  injection e with e1 e2 e3
  subst e1 e3
  have hm : k ≤ maxLen := by omega
  refine ⟨A, k, by rw [List.length_take, Nat.min_eq_left hk], by rw [List.length_take]; omega, hm, fun h => ?_, fun hne => ?_⟩
  · obtain ⟨rfl, hc⟩ := h3 h
    simp at hk
    subst hk
    exact ⟨by simp, rfl⟩
  · obtain ⟨b, o, e1, hb, hc⟩ := h4 (by rintro rfl; simp at hne)
    refine ⟨b, o, e1, hb, fun j u hu => hc j u ?_⟩
    rw [List.getElem?_take] at hu
    split at hu
    · exact hu
    · cases hu

set_option maxRecDepth 100000 in
set_option maxHeartbeats 400000 in
theorem bequal_any (B B' : Nat) (x y : Value) (xs ys : List UInt8) (w : World) (hx : Byt w B x xs) (hy : Byt w B' y ys) :
    Calls Tryd.prog 38 #[x, y] w fun e w' => e = .returned (.bool (xs == ys)) ∧ w = w' := by
  have h1 := run_string_of (P := Tryd.prog) w 22 9 5 slice_u8 Tryd.underlying5 Tryd.underlying9 B x xs hx
  have h2 := run_string_of (P := Tryd.prog) w 22 9 5 slice_u8 Tryd.underlying5 Tryd.underlying9 B' y ys hy
  go_enter Tryd.func38, Tryd.ntmps38
  go_wp2
  go_ret
  exact ⟨rfl, rfl⟩

end Go.Proofs.YtpaafkhlelljcaaDoor
