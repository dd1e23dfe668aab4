/-
  What a coin brings, what a task counts as, two coins compared. Conditions: the numbers are those of their types.
-/
import Derived.Test.YtammeedmccblcaaCsRow
import Derived.Test.YtammeedmccblcaaAmt
import Derived.Sort.Grow
namespace Go.Proofs.Ytammeedmccblcaa.Cs
open Go.RowKit

theorem max0 (n : Int) : (if 0 < n then n else 0) = lowF n := by unfold lowF; split <;> split <;> omega
set_option maxRecDepth 100000 in
set_option maxHeartbeats 1600000 in
theorem worth_any (rate v sz : Int) (w : World) (hv0 : -9223372036854775808 ≤ v) (hv1 : v ≤ 9223372036854775807) (hs0 : -9223372036854775808 ≤ sz) (hs1 : sz ≤ 9223372036854775807) :
    Calls Try.prog 10 #[.agg #[.int .i64 v, .int .i64 sz], .int .i64 rate] w fun e w' => e = .returned (.int .i64 (worthF rate v sz)) ∧ Below w.heap.size w w' := by
  have hf := fun W => fee_any rate sz W hs0 hs1
  have hfe := fun (h : (feeS rate sz).2 = 0) => feeS_ok (r := (feeS rate sz).1) (Prod.ext rfl h)
  have hw : worthF rate v sz = if (feeS rate sz).2 = 0 ∧ amtB v = true then (if 0 ≤ v - (feeS rate sz).1 then v - (feeS rate sz).1 else 0) else 0 := rfl
  generalize feeS rate sz = F at hf hfe hw
  obtain ⟨f, e⟩ := F
  simp only at hf hfe hw
  by_cases he : e = 0
  · subst he
    have hb := amtB_true (hfe rfl).2.2.2.2
    clear hfe
    cases hv : amtB v with
    | false =>
      have HW := Lib.hid hw
      clear hw
      go_enter Try.func10, Try.ntmps10
      go_wp2_with (first | (go_at_call 23; refine (hf _).mono ?_; rintro e w' ⟨rfl, rfl⟩) | (go_at_call 24; refine (valid_any _ _).mono ?_; rintro e w' ⟨rfl, rfl⟩))
      go_ret
      exact ⟨ret_i64 (by rw [HW.out, hv]; simp), (Below.refl _ _).alloc (Nat.le_refl _) _⟩
    | true =>
      have hvb := amtB_true hv
      have HW := Lib.hid hw
      clear hw
      have hwr : IntKind.i64.wrap (v - f) = v - f := IntWalk.i64_in _ (by omega)
      go_enter Try.func10, Try.ntmps10
      go_wp2_with (first | (go_at_call 23; refine (hf _).mono ?_; rintro e w' ⟨rfl, rfl⟩) | (go_at_call 24; refine (valid_any _ _).mono ?_; rintro e w' ⟨rfl, rfl⟩))
      all_goals (go_ret; refine ⟨ret_i64 ?_, (Below.refl _ _).alloc (Nat.le_refl _) _⟩; rw [HW.out, if_pos ⟨trivial, hv⟩]; split <;> omega)
  · clear hfe
    have HW := Lib.hid hw
    clear hw
    go_enter Try.func10, Try.ntmps10
    go_wp2_with (first | (go_at_call 23; refine (hf _).mono ?_; rintro e w' ⟨rfl, rfl⟩) | (go_at_call 24; refine (valid_any _ _).mono ?_; rintro e w' ⟨rfl, rfl⟩))
    go_ret
    exact ⟨ret_i64 (by rw [HW.out, if_neg (fun h => he h.1)]), (Below.refl _ _).alloc (Nat.le_refl _) _⟩
theorem nan_any (x : Int) (w : World) : Calls Try.prog 60 #[.int .i64 x] w fun e w' => e = .returned (.bool false) ∧ w' = w := by
  go_enter Try.func60, Try.ntmps60
  go_wp2
  go_ret
  exact ⟨rfl, rfl⟩
def cmpF (a b : Int) : Int := if a < b then -1 else if b < a then 1 else 0
set_option maxRecDepth 100000 in
set_option maxHeartbeats 800000 in
theorem compare_any (a b : Int) (w : World) : Calls Try.prog 48 #[.int .i64 a, .int .i64 b] w fun e w' => e = .returned (.int .i64 (cmpF a b)) ∧ w' = w := by
  unfold cmpF
  go_enter Try.func48, Try.ntmps48
  go_wp2_with (go_at_call 60; refine (nan_any _ _).mono ?_; rintro e w' ⟨rfl, rfl⟩)
  all_goals go_ret
  all_goals (refine ⟨ret_i64 ?_, rfl⟩; first | omega | (split <;> first | omega | (split <;> omega)))
/-- How the hand is ordered: by what the second brings against the first. -/
def byF (x y : Cn) : Int := cmpF y.1 x.1
set_option maxRecDepth 100000 in
set_option maxHeartbeats 800000 in
theorem by_any (x y : Cn) (w : World) : Calls Try.prog 47 #[.agg #[.int .i64 x.1, .int .i64 (x.2 : Int)], .agg #[.int .i64 y.1, .int .i64 (y.2 : Int)]] w fun e w' => e = .returned (.int .i64 (byF x y)) ∧ ∃ q os', w' = Go.Sort.grow (w.drewN q) os' := by
  unfold byF
  have hcon := fun W' => compare_any y.1 x.1 W'
  generalize cmpF y.1 x.1 = r at hcon ⊢
  go_enter Try.func47, Try.ntmps47
  go_wp2_with (go_at_call 48; refine (hcon _).mono ?_; rintro e w' ⟨rfl, rfl⟩)
  go_ret
  exact ⟨rfl, 0, _, by rw [Go.Sort.alloc_eq_grow, Go.Sort.alloc_eq_grow, Go.Sort.grow_grow]; rfl⟩
theorem tsk5 : (Try.prog.info? 30).map (·.size) = some 5 := by kernel_rfl
/-- A task's cells. -/
def tkC (need extra rate tries seed : Int) : List Value := [.int .i64 need, .int .i64 extra, .int .i64 rate, .int .i64 tries, .int .u64 seed]
set_option maxRecDepth 100000 in
set_option maxHeartbeats 3200000 in
theorem limited_any (need extra rate tries seed : Int) (w : World) :
    Calls Try.prog 45 #[.agg (tkC need extra rate tries seed).toArray] w fun e w' => e = .returned (.agg (tkC (lowF need) (lowF extra) rate (triesF tries) seed).toArray) ∧ Below w.heap.size w w' := by
  have hz : (zeroValue 30).run Try.prog w = .ok (.agg #[.int .i64 0, .int .i64 0, .int .i64 0, .int .i64 0, .int .u64 0]) w := by kernel_rfl
  have hr : ∀ (a b c d : Int) (W : World) (tm : Array Value), tm.getD 2 undef = .pointer (some ⟨w.heap.size + 1, 0, none⟩) → W = (w.alloc (.cells #[.int .i64 a, .int .i64 b, .int .i64 rate, .int .i64 c, .int .u64 seed] 30)).alloc (.cells #[.int .i64 a, .int .i64 b, .int .i64 rate, .int .i64 c, .int .u64 seed] 30) →
      (results Try.f45 tm).run Try.prog W = .ok (.agg #[.int .i64 a, .int .i64 b, .int .i64 rate, .int .i64 c, .int .u64 seed]) W := fun a b c d W tm ht hW => by
    refine results_cell_row Try.results45 _ _ (w.heap.size + 1) 30 _ (0, 0) _ ht ?_ Try.underlying30 rfl tsk5
    have h := heap_alloc_new (w.alloc (.cells #[.int .i64 a, .int .i64 b, .int .i64 rate, .int .i64 c, .int .u64 seed] 30)) (.cells #[.int .i64 a, .int .i64 b, .int .i64 rate, .int .i64 c, .int .u64 seed] 30)
    rw [show (w.alloc (.cells #[.int .i64 a, .int .i64 b, .int .i64 rate, .int .i64 c, .int .u64 seed] 30)).heap.size = w.heap.size + 1 by simp] at h
    rw [hW]
    exact h
  have HR := Lib.hid hr
  clear hr
  have hb : ∀ X Y : Obj, Below w.heap.size w ((w.alloc X).alloc Y) := fun X Y => ((Below.refl _ _).alloc (Nat.le_refl _) _).alloc (by simp) _
  unfold tkC
  go_enter Try.func45, Try.ntmps45
  go_wp2
  all_goals (refine bodyPost_ret (v := .agg #[.int .i64 _, .int .i64 _, .int .i64 rate, .int .i64 _, .int .u64 seed]) (HR.out _ _ _ 0 _ _ rfl rfl) rfl ⟨?_, hb _ _⟩)
  all_goals (congr 3; simp only [lowF, triesF, List.cons.injEq, Value.int.injEq, true_and, and_true]; refine ⟨?_, ?_, ?_⟩ <;> (repeat' split) <;> omega)
end Go.Proofs.Ytammeedmccblcaa.Cs
