/-
  The document's own words for coins: what they bring, what counts, sums of what is chosen. Conditions: the numbers are those of their types.
-/
import Derived.Test.YtammeedmccblcaaCsSel
namespace Go.Proofs.Ytammeedmccblcaa.Cs
open Go.RowKit

set_option maxRecDepth 100000 in
set_option maxHeartbeats 1600000 in
theorem rworth_any (rate v sz : Int) (w : World) (hv0 : -9223372036854775808 ≤ v) (hv1 : v ≤ 9223372036854775807) (hs0 : -9223372036854775808 ≤ sz) (hs1 : sz ≤ 9223372036854775807) :
    Calls Try.prog 11 #[.agg #[.int .i64 v, .int .i64 sz], .int .i64 rate] w fun e w' => e = .returned (.int .i64 (worthF rate v sz)) ∧ Below w.heap.size w w' := by
  have hf := fun W => refFee_any rate sz W hs0 hs1
  have hfe := fun (h : (feeS rate sz).2 = 0) => feeS_ok (r := (feeS rate sz).1) (Prod.ext rfl h)
  have hw : worthF rate v sz = if (feeS rate sz).2 = 0 ∧ amtB v = true then (if 0 ≤ v - (feeS rate sz).1 then v - (feeS rate sz).1 else 0) else 0 := rfl
  generalize feeS rate sz = F at hf hfe hw
  obtain ⟨f, e⟩ := F
  simp only at hf hfe hw
  by_cases he : e = 0
  · subst he
    have hb := amtB_true (hfe rfl).2.2.2.2
    clear hfe
    cases hv : amtB v with
    | false =>
      have HW := Lib.hid hw
      clear hw
      go_enter Try.func11, Try.ntmps11
      go_wp2_with (first | (go_at_call 25; refine (hf _).mono ?_; rintro e w' ⟨rfl, rfl⟩) | (go_at_call 26; refine (refValid_any _ _).mono ?_; rintro e w' ⟨rfl, rfl⟩))
      go_ret
      exact ⟨ret_i64 (by rw [HW.out, hv]; simp), (Below.refl _ _).alloc (Nat.le_refl _) _⟩
    | true =>
      have hvb := amtB_true hv
      have HW := Lib.hid hw
      clear hw
      have hwr : IntKind.i64.wrap (v - f) = v - f := IntWalk.i64_in _ (by omega)
      by_cases hlt : v < f
      · have dl : decide (v < f) = true := decide_eq_true hlt
        go_enter Try.func11, Try.ntmps11
        go_wp2_with (first | (go_at_call 25; refine (hf _).mono ?_; rintro e w' ⟨rfl, rfl⟩) | (go_at_call 26; refine (refValid_any _ _).mono ?_; rintro e w' ⟨rfl, rfl⟩))
        go_ret
        exact ⟨ret_i64 (by rw [HW.out, if_pos ⟨trivial, hv⟩, if_neg (by omega)]), (Below.refl _ _).alloc (Nat.le_refl _) _⟩
      · have dl : decide (v < f) = false := decide_eq_false hlt
        go_enter Try.func11, Try.ntmps11
        go_wp2_with (first | (go_at_call 25; refine (hf _).mono ?_; rintro e w' ⟨rfl, rfl⟩) | (go_at_call 26; refine (refValid_any _ _).mono ?_; rintro e w' ⟨rfl, rfl⟩))
        go_ret
        exact ⟨ret_i64 (by rw [HW.out, if_pos ⟨trivial, hv⟩, if_pos (by omega)]), (Below.refl _ _).alloc (Nat.le_refl _) _⟩
  · clear hfe
    have HW := Lib.hid hw
    clear hw
    go_enter Try.func11, Try.ntmps11
    go_wp2_with (first | (go_at_call 25; refine (hf _).mono ?_; rintro e w' ⟨rfl, rfl⟩) | (go_at_call 26; refine (refValid_any _ _).mono ?_; rintro e w' ⟨rfl, rfl⟩))
    go_ret
    exact ⟨ret_i64 (by rw [HW.out, if_neg (fun h => he h.1)]), (Below.refl _ _).alloc (Nat.le_refl _) _⟩
theorem rtsk5 : (Try.prog.info? 25).map (·.size) = some 5 := by kernel_rfl
set_option maxRecDepth 100000 in
set_option maxHeartbeats 3200000 in
theorem count_any (need extra rate tries seed : Int) (w : World) :
    Calls Try.prog 29 #[.agg (tkC need extra rate tries seed).toArray] w fun e w' => e = .returned (.agg (tkC (lowF need) (lowF extra) rate (triesF tries) seed).toArray) ∧ Below w.heap.size w w' := by
  have hz : (zeroValue 25).run Try.prog w = .ok (.agg #[.int .i64 0, .int .i64 0, .int .i64 0, .int .i64 0, .int .u64 0]) w := by kernel_rfl
  have hr : ∀ (a b c d : Int) (W : World) (tm : Array Value), tm.getD 2 undef = .pointer (some ⟨w.heap.size + 1, 0, none⟩) → W = (w.alloc (.cells #[.int .i64 a, .int .i64 b, .int .i64 rate, .int .i64 c, .int .u64 seed] 25)).alloc (.cells #[.int .i64 a, .int .i64 b, .int .i64 rate, .int .i64 c, .int .u64 seed] 25) →
      (results Try.f29 tm).run Try.prog W = .ok (.agg #[.int .i64 a, .int .i64 b, .int .i64 rate, .int .i64 c, .int .u64 seed]) W := fun a b c d W tm ht hW => by
    refine results_cell_row Try.results29 _ _ (w.heap.size + 1) 25 _ (0, 0) _ ht ?_ Try.underlying25 rfl rtsk5
    have h := heap_alloc_new (w.alloc (.cells #[.int .i64 a, .int .i64 b, .int .i64 rate, .int .i64 c, .int .u64 seed] 25)) (.cells #[.int .i64 a, .int .i64 b, .int .i64 rate, .int .i64 c, .int .u64 seed] 25)
    rw [show (w.alloc (.cells #[.int .i64 a, .int .i64 b, .int .i64 rate, .int .i64 c, .int .u64 seed] 25)).heap.size = w.heap.size + 1 by simp] at h
    rw [hW]
    exact h
  have HR := Lib.hid hr
  clear hr
  have hb : ∀ X Y : Obj, Below w.heap.size w ((w.alloc X).alloc Y) := fun X Y => ((Below.refl _ _).alloc (Nat.le_refl _) _).alloc (by simp) _
  unfold tkC
  go_enter Try.func29, Try.ntmps29
  go_wp2
  all_goals (refine bodyPost_ret (v := .agg #[.int .i64 _, .int .i64 _, .int .i64 rate, .int .i64 _, .int .u64 seed]) (HR.out _ _ _ 0 _ _ rfl rfl) rfl ⟨?_, hb _ _⟩)
  all_goals (congr 3; simp only [lowF, triesF, List.cons.injEq, Value.int.injEq, true_and, and_true]; refine ⟨?_, ?_, ?_⟩ <;> (repeat' split) <;> omega)
end Go.Proofs.Ytammeedmccblcaa.Cs
