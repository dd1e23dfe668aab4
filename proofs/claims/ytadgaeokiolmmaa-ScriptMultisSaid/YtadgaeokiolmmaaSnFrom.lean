/-
  script.FromNumber and the reference's. Conditions: sizes within the reach.
-/
import Derived.Test.YtadgaeokiolmmaaSnVal
namespace Go.Proofs.Ytadgaeokiolmmaa
open Go.RowKit

/-- What FromNumber answers: the number and the error. -/
def fromB (xs : List UInt8) (most : Int) : Int × Int :=
  if most < xs.length ∨ 8 < xs.length then (0, 2) else if xs = [] then (0, 0) else if fewest xs then (valS xs, 0) else (0, 3)

set_option maxHeartbeats 400000 in
theorem bequal_any (B B' : Nat) (x y : Value) (xs ys : List UInt8) (w : World) (hx : Byt w B x xs) (hy : Byt w B' y ys) :
    Calls Try.prog 61 #[x, y] w fun e w' => e = .returned (.bool (xs == ys)) ∧ w = w' := by
  have h1 := run_string_of (P := Try.prog) w 22 9 5 slice_u8 Try.underlying5 Try.underlying9 B x xs hx
  have h2 := run_string_of (P := Try.prog) w 22 9 5 slice_u8 Try.underlying5 Try.underlying9 B' y ys hy
  go_enter Try.func61, Try.ntmps61
  go_wp2
  go_ret
  exact ⟨rfl, rfl⟩

theorem valS_bd (xs : List UInt8) (h : xs.length ≤ 8) : -9223372036854775808 ≤ valS xs ∧ valS xs ≤ 9223372036854775807 := by
  rcases snoc_cases xs with rfl | ⟨fr, q, rfl⟩
  · rw [valS_nil]; omega
  · rw [List.length_append, List.length_cons, List.length_nil] at h
    by_cases hq : 128 ≤ q.toNat
    · rw [valS_hi hq]
      have := valN_last_lt (fr := fr) (x := UInt8.ofNat (q.toNat % 128)) (by omega) (by rw [to_lo]; omega)
      omega
    · rw [valS_lo (by omega)]
      have := valN_last_lt (fr := fr) (x := q) (by omega) (by omega)
      omega

set_option maxRecDepth 100000 in
set_option maxHeartbeats 1600000 in
theorem from_any (B : Nat) (x : Value) (xs : List UInt8) (most : Int) (hm0 : -9223372036854775808 ≤ most) (hm1 : most ≤ 9223372036854775807) (w : World) (hx : Byt w B x xs) (hB : B ≤ w.heap.size) :
    Calls Try.prog 24 #[x, .int .i64 most] w fun e w' => e = .returned (.tuple #[.int .i64 (fromB xs most).1, .int .i64 (fromB xs most).2]) ∧ Below w.heap.size w w' := by
  have hlen := hx.len
  unfold maxLen at hlen
  by_cases hl : most < xs.length ∨ 8 < xs.length
  · have hf : fromB xs most = (0, 2) := by unfold fromB; rw [if_pos hl]
    rw [hf]
    obtain ⟨A, c, rfl⟩ := hx.form
    have hmin : (if most ≤ 8 then most else 8) < xs.length := by split <;> omega
    clear hx hf
    by_cases h8 : most ≤ 8
    · rw [if_pos h8] at hmin
      go_enter Try.func24, Try.ntmps24
      go_wp2_with fail
      go_ret2
      exact ⟨rfl, Below.refl _ _⟩
    · rw [if_neg h8] at hmin
      go_enter Try.func24, Try.ntmps24
      go_wp2_with fail
      go_ret2
      exact ⟨rfl, Below.refl _ _⟩
  · have hag := again_any xs (by omega)
    obtain ⟨v0, v1⟩ := valS_bd xs (by omega)
    have HV := Lib.hid (fun W (h : Byt W B x xs) (hB : B ≤ W.heap.size) => value_any B x xs (by omega) W h hB)
    have HN := Lib.hid (fun W => number_any (valS xs) W v0 v1)
    have HX := Lib.hid hx
    obtain ⟨A, c, rfl⟩ := hx.form
    have hf : fromB xs most = if decide (numB (valS xs) = xs) = true then (valS xs, 0) else (0, 3) := by
      rw [hag]
      unfold fromB
      rw [if_neg hl]
      by_cases hn : xs = []
      · subst hn; simp [valS_nil]
      · rw [if_neg hn, decide_eq_false hn, Bool.false_or]
    have hbeq : (numB (valS xs) == xs) = decide (numB (valS xs) = xs) := by
      rw [Bool.eq_iff_iff]; simp
    have hm : (xs.length : Int) ≤ most := by omega
    have hm8 : (xs.length : Int) ≤ 8 := by omega
    clear hx hag hl
    by_cases heq : decide (numB (valS xs) = xs) = true
    · rw [if_pos heq] at hf
      rw [heq] at hbeq
      rw [hf]
      have HB := Lib.hid hbeq
      clear hf heq hbeq
      obtain ⟨V, hV⟩ : ∃ V, V = valS xs := ⟨_, rfl⟩
      obtain ⟨L, hL⟩ : ∃ L, L = numB V := ⟨_, rfl⟩
      rw [← hV] at HV HN HB v0 v1 ⊢
      rw [← hL] at HN HB
      clear hV hL
      by_cases h8 : most ≤ 8
      all_goals
        go_enter Try.func24, Try.ntmps24
        go_wp2_with fail
        refine (HV.out _ HX.out hB).mono ?_
        rintro e w1 ⟨rfl, hb1⟩
        go_wp2_with fail
        refine (HN.out _).mono ?_
        rintro e w2 ⟨A2, c2, rfl, hown, hb2⟩
        go_wp2_with fail
        refine (bequal_any _ B _ _ L xs _ (Byt.of_own hown) ((HX.out.below (hb1.mono hB)).below (hb2.mono (Nat.le_trans hB hb1.size)))).mono ?_
        rintro e w3 ⟨rfl, rfl⟩
        rw [HB.out]
        go_wp2_with fail
        go_ret2
        exact ⟨rfl, hb1.trans (hb2.mono hb1.size)⟩
    · rw [if_neg heq] at hf
      rw [Bool.eq_false_iff.2 heq] at hbeq
      rw [hf]
      have HB := Lib.hid hbeq
      clear hf heq hbeq
      obtain ⟨V, hV⟩ : ∃ V, V = valS xs := ⟨_, rfl⟩
      obtain ⟨L, hL⟩ : ∃ L, L = numB V := ⟨_, rfl⟩
      rw [← hV] at HV HN HB v0 v1
      rw [← hL] at HN HB
      clear hV hL
      by_cases h8 : most ≤ 8
      all_goals
        go_enter Try.func24, Try.ntmps24
        go_wp2_with fail
        refine (HV.out _ HX.out hB).mono ?_
        rintro e w1 ⟨rfl, hb1⟩
        go_wp2_with fail
        refine (HN.out _).mono ?_
        rintro e w2 ⟨A2, c2, rfl, hown, hb2⟩
        go_wp2_with fail
        refine (bequal_any _ B _ _ L xs _ (Byt.of_own hown) ((HX.out.below (hb1.mono hB)).below (hb2.mono (Nat.le_trans hB hb1.size)))).mono ?_
        rintro e w3 ⟨rfl, rfl⟩
        rw [HB.out]
        go_wp2_with fail
        go_ret2
        exact ⟨rfl, hb1.trans (hb2.mono hb1.size)⟩
end Go.Proofs.Ytadgaeokiolmmaa
