/-
  New dice. Conditions: the seed is a uint64.
-/
import Derived.Test.YtammeedmccblcaaCsDice
import Derived.Test.YtammeedmccblcaaCsThP
namespace Go.Proofs.Ytammeedmccblcaa.Cs
open Go.RowKit

set_option maxRecDepth 100000 in
set_option maxHeartbeats 3200000 in
theorem or_any (g : Nat) (t : TypeId) (x : Int) (w : World) (h : VRow w g t [.int .u64 x, .int .u64 1]) :
    Calls Try.prog 72 #[.slice (some ⟨g, 0, none⟩) 2 2] w fun e w' => e = .returned (.int .u64 (seedF x)) ∧ Below w.heap.size w w' := by
  have c0 : w.cell? ⟨g, 0, none⟩ = some (.int .u64 x) := h.cell rfl
  have c1 : w.cell? ⟨g, 1, none⟩ = some (.int .u64 1) := h.cell rfl
  clear h
  unfold seedF
  by_cases hx : x = 0
  · subst hx
    rw [if_pos rfl]
    go_enter Try.func72, Try.ntmps72
    go_wp2
    go_loopw [8] (fun si wr => ∃ i : Nat, i ≤ 1 ∧ si = .int .i64 (i : Int) ∧ Hid (wr = w)) (fun si _ => 2 - (intOf si).toNat)
    case atStart => exact ⟨0, by omega, rfl, Lib.hid rfl⟩
    case round =>
      obtain ⟨i, hi, rfl, hw⟩ := hrel
      obtain rfl := hw.out
      obtain rfl | rfl : i = 0 ∨ i = 1 := by omega
      · as_aux_lemma =>
        go_wp2_with fail
        exact ⟨⟨1, by omega, by first | rfl | exact next (by omega), by first | exact hw | exact Lib.hid trivial⟩, by decide⟩
      · as_aux_lemma =>
        go_wp2_with fail
        go_ret
        exact ⟨rfl, Below.refl _ _⟩
  · rw [if_neg hx]
    have dx : decide (x = 0) = false := decide_eq_false hx
    go_enter Try.func72, Try.ntmps72
    go_wp2
    go_loopw [8] (fun si wr => si = .int .i64 0 ∧ Hid (wr = w)) (fun si _ => 2 - (intOf si).toNat)
    case atStart => exact ⟨rfl, Lib.hid rfl⟩
    case round =>
      obtain ⟨rfl, hw⟩ := hrel
      obtain rfl := hw.out
      go_wp2_with fail
      go_ret
      exact ⟨rfl, Below.refl _ _⟩
theorem seeds_two (x : Int) (W : World) : (Instr.buildSlice 131 2 #[(0, .int .u64 x), (1, .int .u64 1)]).run Try.prog W = .ok (.slice (some ⟨W.heap.size, 0, none⟩) 2 2) (W.alloc (.cells #[.int .u64 x, .int .u64 1] 23)) := by kernel_rfl
set_option maxRecDepth 100000 in
set_option maxHeartbeats 3200000 in
theorem dice_any (x : Int) (w : World) :
    Calls Try.prog 56 #[.int .u64 x] w fun e w' => ∃ G, e = .returned (.pointer (some ⟨G, 0, none⟩)) ∧ w.heap.size ≤ G ∧ VRow w' G 119 [.int .u64 (seedF x)] ∧ Below w.heap.size w w' := by
  have hs2 := seeds_two x
  have hor := fun g W (h : VRow W g 23 [.int .u64 x, .int .u64 1]) => or_any g _ x W h
  generalize seedF x = y at hor ⊢
  have hbA : ∀ O, Below w.heap.size w (w.alloc O) := fun O => (Below.refl _ _).alloc (Nat.le_refl _) _
  go_enter Try.func56, Try.ntmps56
  go_wp2_with (first
    | (go_at_call 72; refine (hor _ _ (VRow.new _ _ [.int .u64 x, .int .u64 1])).mono ?_; rintro e w2 ⟨rfl, hb2⟩))
  go_ret
  exact ⟨w2.heap.size, rfl, Nat.le_trans (by simp) hb2.size, VRow.new _ _ _, ((hbA _).trans (hb2.mono (by simp))).alloc (Nat.le_trans (by simp) hb2.size) _⟩
end Go.Proofs.Ytammeedmccblcaa.Cs
