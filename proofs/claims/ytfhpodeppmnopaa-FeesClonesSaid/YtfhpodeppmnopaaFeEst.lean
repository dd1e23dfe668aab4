/-
  fees: Estimate. Conditions: a million entries at most.
-/
import Derived.Test.YtfhpodeppmnopaaFeFn
namespace Go.Proofs.Ytfhpodeppmnopaa
open Go.RowKit

/-- What Estimate answers. -/
def estB (S : Bs) (t p : Int) : Int := estF S (t - 1).toNat p 24 0 0 0
def EArg (t p : Int) : Prop := t < 1 ∨ t > 12 ∨ p < 1 ∨ p > 100
instance (t p : Int) : Decidable (EArg t p) := by unfold EArg; infer_instance
def estX (S : Bs) (t p : Int) : Int := if EArg t p then 0 else estB S t p
def estE (S : Bs) (t p : Int) : Int := if EArg t p then 1 else if estB S t p = 0 then 7 else 0

/-- How far the loop is: what is left to come to B. -/
structure EstAt (S : Bs) (t : Nat) (p B : Int) (n : Nat) (r e a i : Int) : Prop where
  n24 : n ≤ 24
  tob : estF S t p n r a i = B
  er : e = if r = 0 then 7 else 0
  a0 : 0 ≤ a
  a1 : a ≤ 1000000000 * (24 - (n : Int))
  i0 : 0 ≤ i
  i1 : i ≤ 1000000000 * (24 - (n : Int))
section
variable {S : Bs} {t m : Nat} {p B r e a i : Int}
theorem EstAt.few (h : EstAt S t p B (m + 1) r e a i) {n : Nat} (hS : Ok n S) (hn : n ≤ 1000000) (ht : t < 12) (h1 : a + S.A m < 2000) : EstAt S t p B m r e (a + S.A m) (i + S.I m t) := by
  have hm : m < 24 := by have := h.n24; omega
  have := hS.a0 m hm; have := hS.a2 hm; have := hS.i0 m t hm ht; have := hS.i2 hm ht; have := h.a0; have := h.a1; have := h.i0; have := h.i1
  refine ⟨by have := h.n24; omega, ?_, h.er, by omega, by omega, by omega, by omega⟩
  have   := h.tob
  simp only [estF, if_pos h1] at this
  exact this
theorem EstAt.stop (h : EstAt S t p B (m + 1) r e a i) (h1 : ¬ a + S.A m < 2000) (h2 : (i + S.I m t) * 100 < (a + S.A m) * p) : r = B := by
  have   := h.tob
  simp only [estF, if_neg h1, if_pos h2] at this
  exact this
theorem EstAt.next (h : EstAt S t p B (m + 1) r e a i) (h1 : ¬ a + S.A m < 2000) (h2 : ¬ (i + S.I m t) * 100 < (a + S.A m) * p) : EstAt S t p B m ((1000 * 2 ^ m : Nat) : Int) 0 0 0 := by
  have hm : m < 24 := by have := h.n24; omega
  refine ⟨by omega, ?_, ?_, by omega, by omega, by omega, by omega⟩
  · have   := h.tob
    simp only [estF, if_neg h1, if_neg h2] at this
    exact this
  · have := Nat.two_pow_pos m
    rw [if_neg (by omega)]
theorem EstAt.done (h : EstAt S t p B 0 r e a i) : r = B   := h.tob
end
theorem meas_down {m : Nat} (e : wrap64 ((m : Int) - 1) = (m : Int) - 1) : (intOf (.int .i64 (wrap64 ((m : Int) - 1))) + 1).toNat < (intOf (.int .i64 (m : Int)) + 1).toNat := by
  rw [e]
  simp [intOf]
theorem shl_at {m : Nat} (hm : m < 24) (W : World) : (binOp BinOp.shl 2 (.int .i64 1000) (.int .i64 (m : Int))).run Try.prog W = .ok (.int .i64 ((1000 * 2 ^ m : Nat) : Int)) W := by
  obtain rfl | rfl | rfl | rfl | rfl | rfl | rfl | rfl | rfl | rfl | rfl | rfl | rfl | rfl | rfl | rfl | rfl | rfl | rfl | rfl | rfl | rfl | rfl | rfl : m = 0 ∨ m = 1 ∨ m = 2 ∨ m = 3 ∨ m = 4 ∨ m = 5 ∨ m = 6 ∨ m = 7 ∨ m = 8 ∨ m = 9 ∨ m = 10 ∨ m = 11 ∨ m = 12 ∨ m = 13 ∨ m = 14 ∨ m = 15 ∨ m = 16 ∨ m = 17 ∨ m = 18 ∨ m = 19 ∨ m = 20 ∨ m = 21 ∨ m = 22 ∨ m = 23 := by omega
  all_goals kernel_rfl

set_option maxRecDepth 100000 in
set_option maxHeartbeats 6400000 in
theorem estimate_any (c g n : Nat) (m : Option Nat) (S : Bs) (t p : Int) (w : World) (h : BookAt w c g m S) (hS : Ok n S) (hn : n ≤ 1000000) (ht1 : -9223372036854775808 ≤ t) (ht2 : t ≤ 9223372036854775807) (hp1 : -9223372036854775808 ≤ p) (hp2 : p ≤ 9223372036854775807) :
    Calls Try.prog 14 #[.pointer (some ⟨g, 0, none⟩), .int .i64 t, .int .i64 p] w fun e w' => e = .returned (.tuple #[.int .i64 (estX S t p), .int .i64 (estE S t p)]) ∧ w = w' := by
  have hb := isTarget_any t w
  have hal := fun k => all_any c g m S k w h
  have hwi := fun k => within_any c g m S k t w h ht1 ht2
  by_cases hE : EArg t p
  · have ex : estX S t p = 0 := by unfold estX; rw [if_pos hE]
    have ee : estE S t p = 1 := by unfold estE; rw [if_pos hE]
    rw [ex, ee]
    clear ex ee hal hwi h hS
    by_cases hT : 1 ≤ t ∧ t ≤ 12
    · rw [decide_eq_true hT] at hb
      by_cases hp : p < 1
      · have d1 : decide (p < 1) = true := decide_eq_true hp
        clear hE
        go_enter Try.func14, Try.ntmps14
        go_wp2_with fail
        refine hb.mono ?_
        rintro e w1 ⟨rfl, rfl⟩
        go_wp2_with fail
        exact bodyPost_ret (results_tmp2 rfl _ _ _) rfl ⟨rfl, rfl⟩
      · have d1 : decide (p < 1) = false := decide_eq_false hp
        have hp3 : 100 < p := by unfold EArg at hE; omega
        have d2 : decide (100 < p) = true := decide_eq_true hp3
        clear hE
        go_enter Try.func14, Try.ntmps14
        go_wp2_with fail
        refine hb.mono ?_
        rintro e w1 ⟨rfl, rfl⟩
        go_wp2_with fail
        exact bodyPost_ret (results_tmp2 rfl _ _ _) rfl ⟨rfl, rfl⟩
    · rw [decide_eq_false hT] at hb
      clear hE
      go_enter Try.func14, Try.ntmps14
      go_wp2_with fail
      refine hb.mono ?_
      rintro e w1 ⟨rfl, rfl⟩
      go_wp2_with fail
      exact bodyPost_ret (results_tmp2 rfl _ _ _) rfl ⟨rfl, rfl⟩
  · have hT : 1 ≤ t ∧ t ≤ 12 := by unfold EArg at hE; omega
    have hP : ¬ p < 1 := by unfold EArg at hE; omega
    have hP2 : ¬ 100 < p := by unfold EArg at hE; omega
    have ex : estX S t p = estB S t p := by unfold estX; rw [if_neg hE]
    have ee : estE S t p = if estB S t p = 0 then 7 else 0 := by unfold estE; rw [if_neg hE]
    obtain ⟨B, hB⟩ : ∃ B, B = estB S t p := ⟨_, rfl⟩
    rw [ex, ee, ← hB]
    obtain ⟨EE, hEE⟩ : ∃ EE, EE = (if B = 0 then (7 : Int) else 0) := ⟨_, rfl⟩
    rw [← hEE]
    have HEE := Lib.hid hEE
    obtain ⟨s, hs⟩ : ∃ s : Nat, t = s + 1 := ⟨(t - 1).toNat, by omega⟩
    have hs12 : s < 12 := by omega
    have st : EstAt S s p B 24 0 7 0 0 := by
      refine ⟨by omega, ?_, rfl, by omega, by omega, by omega, by omega⟩
      rw [hB]
      unfold estB
      rw [show (t - 1).toNat = s by omega]
    rw [decide_eq_true hT] at hb
    have ealm : ∀ m : Nat, m < 24 → allF S (m : Int) = S.A m := fun m hm => by unfold allF; rw [if_pos (by omega)]; rfl
    have ewim : ∀ m : Nat, m < 24 → wiF S (m : Int) t = S.I m s := fun m hm => by unfold wiF; rw [if_pos ⟨by omega, by omega, hT.1, hT.2⟩, show (t - 1).toNat = s by omega]; rfl
    have d1 : decide (p < 1) = false := decide_eq_false hP
    have d2 : decide (100 < p) = false := decide_eq_false hP2
    have hP1 : 1 ≤ p := by omega
    have hP3 : p ≤ 100 := by omega
    have HAL := Lib.hid hal
    have HWI := Lib.hid hwi
    have HEA := Lib.hid ealm
    have HEW := Lib.hid ewim
    have HST := Lib.hid st
    have HSO := Lib.hid hS
    have HB := Lib.hid hB
    clear hal hwi ealm ewim st hS hB h ex ee hE hs hT hEE
    go_enter Try.func14, Try.ntmps14
    go_wp2_with fail
    refine hb.mono ?_
    rintro e w1 ⟨rfl, rfl⟩
    clear hb
    go_wp2_with fail
    go_loopw [12, 8, 9, 10, 11] (fun k r e a i wr => ∃ (n' : Nat) (r' e' a' i' : Int), k = .int .i64 ((n' : Int) - 1) ∧ r = .int .i64 r' ∧ e = .int .i64 e' ∧ a = .int .i64 a' ∧ i = .int .i64 i' ∧ EstAt S s p B n' r' e' a' i' ∧ wr = w) (fun k _ _ _ _ _ => (intOf k + 1).toNat)
    case atStart => exact ⟨24, 0, 7, 0, 0, rfl, rfl, rfl, rfl, rfl, HST.out, rfl⟩
    case round =>
      obtain ⟨n', r', e', a', i', rfl, rfl, rfl, rfl, rfl, hst, rfl⟩ := hrel
      cases n' with
      | zero =>
        have d0 : decide (0 ≤ (((0 : Nat) : Int) - 1)) = false := by decide
        have hr := hst.done
        have he := hst.er
        have hee : e' = EE := by rw [he, hr, HEE.out]
        subst hr
        subst hee
        clear hst he
        go_wp2_with fail
        exact bodyPost_ret (results_tmp2 rfl _ _ _) rfl ⟨rfl, rfl⟩
      | succ m =>
        have hm : m < 24 := by have := hst.n24; omega
        rw [show (((m + 1 : Nat) : Int) - 1) = (m : Int) by omega]
        have hA0 := HSO.out.a0 m hm
        have hA1 := HSO.out.a2 hm
        have hI0 := HSO.out.i0 m s hm hs12
        have hI1 := HSO.out.i2 hm hs12
        have ha0 := hst.a0
        have ha1 := hst.a1
        have hi0 := hst.i0
        have hi1 := hst.i1
        have c1 := HAL.out (m : Int)
        have c2 := HWI.out (m : Int)
        rw [HEA.out m hm] at c1
        rw [HEW.out m hm] at c2
        have hsh := shl_at hm
        have ew := (show wrap64 ((m : Int) - 1) = (m : Int) - 1 by unfold wrap64; omega)
        have d0 : decide (0 ≤ (m : Int)) = true := decide_eq_true (by omega)
        have ems : s + 1 = s + 1 := rfl
        obtain ⟨x, hx⟩ : ∃ x, x = S.A m := ⟨_, rfl⟩
        obtain ⟨y, hy⟩ : ∃ y, y = S.I m s := ⟨_, rfl⟩
        rw [← hx] at c1 hA0 hA1
        rw [← hy] at c2 hI0 hI1
        obtain ⟨u, hu⟩ : ∃ u, u = a' + x := ⟨_, rfl⟩
        obtain ⟨v, hv⟩ : ∃ v, v = i' + y := ⟨_, rfl⟩
        have w1 : wrap64 (a' + x) = u := by rw [hu]; unfold wrap64; omega
        have w2 : wrap64 (i' + y) = v := by rw [hv]; unfold wrap64; omega
        have hu1 : 0 ≤ u ∧ u ≤ 100000000000 := by omega
        have hv1 : 0 ≤ v ∧ v ≤ 100000000000 := by omega
        have w3 : wrap64 (v * 100) = v * 100 := by unfold wrap64; omega
        have hup : 0 ≤ u * p ∧ u * p ≤ 10000000000000 := by
          refine ⟨Int.mul_nonneg hu1.1 (by omega), ?_⟩
          have h1 : u * p ≤ u * 100 := Int.mul_le_mul_of_nonneg_left hP3 hu1.1
          omega
        have w4 : wrap64 (u * p) = u * p := by unfold wrap64; omega
        have C1 := Lib.hid c1
        have C2 := Lib.hid c2
        have HX := Lib.hid hx
        have HY := Lib.hid hy
        have HU := Lib.hid hu
        have HV := Lib.hid hv
        have HS2 := Lib.hid hst
        have HME := Lib.hid (meas_down ew)
        clear hA0 hA1 hI0 hI1 ha0 ha1 hi0 hi1 c1 c2 hx hy hu hv hu1 hv1 hup hst
        by_cases h1 : u < 2000
        · have g1 : decide (u < 2000) = true := decide_eq_true h1
          have HN := Lib.hid (HS2.out.few HSO.out hn hs12 (by rw [← HX.out, ← HU.out]; exact h1))
          clear hsh h1
          go_wp2_with fail
          refine C1.out.mono ?_
          rintro e w1 ⟨rfl, rfl⟩
          go_wp2_with fail
          refine C2.out.mono ?_
          rintro e w1 ⟨rfl, rfl⟩
          go_wp2_with fail
          exact ⟨⟨m, _, _, _, _, by first | rfl | rw [ew], rfl, rfl, rfl, rfl, by (have hN := HN.out; rw [← HX.out, ← HY.out, ← HU.out, ← HV.out] at hN; first | exact hN | (rw [w2]; exact hN)), by trivial⟩, by first | exact HME.out | (have q := HME.out; rw [ew] at q; exact q)⟩
        · have g1 : decide (u < 2000) = false := decide_eq_false h1
          by_cases h2 : v * 100 < u * p
          · have g2 : decide (v * 100 < u * p) = true := decide_eq_true h2
            have hr := HS2.out.stop (by rw [← HX.out, ← HU.out]; exact h1) (by rw [← HX.out, ← HU.out, ← HY.out, ← HV.out]; exact h2)
            have he := HS2.out.er
            have hee : e' = EE := by rw [he, hr, HEE.out]
            subst hr
            subst hee
            clear hsh h1 h2 he
            go_wp2_with fail
            refine C1.out.mono ?_
            rintro e w1 ⟨rfl, rfl⟩
            go_wp2_with fail
            refine C2.out.mono ?_
            rintro e w1 ⟨rfl, rfl⟩
            go_wp2_with fail
            exact bodyPost_ret (results_tmp2 rfl _ _ _) rfl ⟨rfl, rfl⟩
          · have g2 : decide (v * 100 < u * p) = false := decide_eq_false h2
            have HN := Lib.hid (HS2.out.next (by rw [← HX.out, ← HU.out]; exact h1) (by rw [← HX.out, ← HU.out, ← HY.out, ← HV.out]; exact h2))
            obtain ⟨z, hz⟩ : ∃ z, z = ((1000 * 2 ^ m : Nat) : Int) := ⟨_, rfl⟩
            have hzw : wrap64 (1000 * 2 ^ m) = z := by
              have e1 : ((1000 * 2 ^ m : Nat) : Int) = 1000 * 2 ^ m := by rw [Int.natCast_mul, Int.natCast_pow]; rfl
              have e2 : 2 ^ m ≤ 2 ^ 23 := Nat.pow_le_pow_right (by omega) (by omega)
              rw [← e1, ← hz]
              unfold wrap64
              omega
            rw [← hz] at hsh HN
            clear h1 h2 hz
            go_wp2_with fail
            refine C1.out.mono ?_
            rintro e w1 ⟨rfl, rfl⟩
            go_wp2_with fail
            refine C2.out.mono ?_
            rintro e w1 ⟨rfl, rfl⟩
            go_wp2_with fail
            exact ⟨⟨m, _, _, _, _, by first | rfl | rw [ew], rfl, rfl, rfl, rfl, by first | exact HN.out | (rw [hzw]; exact HN.out), by trivial⟩, by first | exact HME.out | (have q := HME.out; rw [ew] at q; exact q)⟩
end Go.Proofs.Ytfhpodeppmnopaa
