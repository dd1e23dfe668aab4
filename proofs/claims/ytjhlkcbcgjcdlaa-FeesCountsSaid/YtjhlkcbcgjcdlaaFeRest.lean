/-
  The reference's Estimate. Conditions: a thousand entries at most.
-/
import Derived.Test.YtjhlkcbcgjcdlaaFeRblk
namespace Go.Proofs.Ytjhlkcbcgjcdlaa
open Go.RowKit

theorem lowR_half (m : Nat) : lowR (m + 1) / 2 = lowR m := by rw [← lowR_next]; omega
def LwAt (k l : Value) : Prop := ∃ i : Nat, i ≤ 23 ∧ k = .int .i64 (i : Int) ∧ l = .int .i64 (lowR i)
def RsAt (S : Bs) (s : Nat) (p B : Int) (k r a i l : Value) : Prop :=
  ∃ (n : Nat) (r' a' i' l' : Int), k = .int .i64 ((n : Int) - 1) ∧ r = .int .i64 r' ∧ a = .int .i64 a' ∧ i = .int .i64 i' ∧ l = .int .i64 l' ∧ EstAt S s p B n r' (if r' = 0 then 7 else 0) a' i' ∧ (n = 0 ∨ l' = lowR n / 2) ∧ 0 ≤ l' ∧ l' ≤ 1000000000000
theorem meas_dn {m : Nat} : (intOf (.int .i64 ((m : Int) - 1)) + 1).toNat < (intOf (.int .i64 (m : Int)) + 1).toNat := by
  simp [intOf]
theorem meas_dn1 {m : Nat} : (intOf (.int .i64 (-1)) + 1).toNat < (intOf (.int .i64 (m : Int)) + 1).toNat := by
  simp [intOf]

set_option maxRecDepth 100000 in
set_option maxHeartbeats 6400000 in
theorem rest_any (c n : Nat) (us : List Value) (S : Bs) (t p : Int) (w : World) (h : RefV w c us S) (hS : Ok n S) (hn : n ≤ 1000) (ht1 : -9223372036854775808 ≤ t) (ht2 : t ≤ 9223372036854775807) :
    Calls Try.prog 14 #[.agg us.toArray, .int .i64 t, .int .i64 p] w fun e w' => e = .returned (.tuple #[.int .i64 (estX S t p), .int .i64 (estE S t p)]) ∧ Below w.heap.size w w' := by
  have hrow := VRow.new w 31 us
  have hbel : Below w.heap.size w (w.alloc (.cells us.toArray 31)) := (Below.refl _ w).alloc (Nat.le_refl _) _
  obtain ⟨w1, hw1⟩ : ∃ z, z = w.alloc (.cells us.toArray 31) := ⟨_, rfl⟩
  obtain ⟨G, hG⟩ : ∃ z, z = w.heap.size := ⟨_, rfl⟩
  rw [← hw1] at hrow hbel
  rw [← hG] at hrow
  have HROW := Lib.hid hrow
  have HBEL := Lib.hid hbel
  have HW1 := Lib.hid hw1
  have HG := Lib.hid hG
  have HC := Lib.hid h.1
  clear hrow hbel hw1 hG h
  have hnI : (n : Int) ≤ 1000 := by omega
  by_cases hE : EArg t p
  · have ex : estX S t p = 0 := by unfold estX; rw [if_pos hE]
    have ee : estE S t p = 1 := by unfold estE; rw [if_pos hE]
    rw [ex, ee]
    have hc4 : t < 1 ∨ (¬ t < 1 ∧ 12 < t) ∨ (¬ t < 1 ∧ ¬ 12 < t ∧ p < 1) ∨ (¬ t < 1 ∧ ¬ 12 < t ∧ ¬ p < 1 ∧ 100 < p) := by unfold EArg at hE; omega
    clear ex ee hE
    rcases hc4 with q | ⟨q, r⟩ | ⟨q, r, s⟩ | ⟨q, r, s, u⟩
    · have g1 : decide (t < 1) = true := decide_eq_true q
      clear q
      go_enter Try.func14, Try.ntmps14
      go_wp2_with fail
      exact bodyPost_ret (results_tmp2 rfl _ _ _) rfl ⟨rfl, by rw [← HW1.out]; exact HBEL.out⟩
    · have g1 : decide (t < 1) = false := decide_eq_false q
      have g2 : decide (12 < t) = true := decide_eq_true r
      clear q r
      go_enter Try.func14, Try.ntmps14
      go_wp2_with fail
      exact bodyPost_ret (results_tmp2 rfl _ _ _) rfl ⟨rfl, by rw [← HW1.out]; exact HBEL.out⟩
    · have g1 : decide (t < 1) = false := decide_eq_false q
      have g2 : decide (12 < t) = false := decide_eq_false r
      have g3 : decide (p < 1) = true := decide_eq_true s
      clear q r s
      go_enter Try.func14, Try.ntmps14
      go_wp2_with fail
      exact bodyPost_ret (results_tmp2 rfl _ _ _) rfl ⟨rfl, by rw [← HW1.out]; exact HBEL.out⟩
    · have g1 : decide (t < 1) = false := decide_eq_false q
      have g2 : decide (12 < t) = false := decide_eq_false r
      have g3 : decide (p < 1) = false := decide_eq_false s
      have g4 : decide (100 < p) = true := decide_eq_true u
      clear q r s u
      go_enter Try.func14, Try.ntmps14
      go_wp2_with fail
      exact bodyPost_ret (results_tmp2 rfl _ _ _) rfl ⟨rfl, by rw [← HW1.out]; exact HBEL.out⟩
  · have hT : 1 ≤ t ∧ t ≤ 12 := by unfold EArg at hE; omega
    have hP1 : 1 ≤ p := by unfold EArg at hE; omega
    have hP3 : p ≤ 100 := by unfold EArg at hE; omega
    have ex : estX S t p = estB S t p := by unfold estX; rw [if_neg hE]
    have ee : estE S t p = if estB S t p = 0 then 7 else 0 := by unfold estE; rw [if_neg hE]
    obtain ⟨B, hB⟩ : ∃ B, B = estB S t p := ⟨_, rfl⟩
    rw [ex, ee, ← hB]
    obtain ⟨EE, hEE⟩ : ∃ EE, EE = (if B = 0 then (7 : Int) else 0) := ⟨_, rfl⟩
    rw [← hEE]
    have HEE := Lib.hid hEE
    obtain ⟨s, hs⟩ : ∃ s : Nat, t = s + 1 := ⟨(t - 1).toNat, by omega⟩
    have hs12 : s < 12 := by omega
    have st : EstAt S s p B 24 0 (if (0 : Int) = 0 then 7 else 0) 0 0 := by
      refine ⟨by omega, ?_, rfl, by omega, by omega, by omega, by omega⟩
      rw [hB]
      unfold estB
      rw [show (t - 1).toNat = s by omega]
    have g1 : decide (t < 1) = false := decide_eq_false (by omega)
    have g2 : decide (12 < t) = false := decide_eq_false (by omega)
    have g3 : decide (p < 1) = false := decide_eq_false (by omega)
    have g4 : decide (100 < p) = false := decide_eq_false (by omega)
    have hst1 : t - 1 = (s : Int) := by omega
    have HST := Lib.hid st
    have HSO := Lib.hid hS
    have HST1 := Lib.hid hst1
    clear ex ee hE hB hEE hs hT st hS hst1 ht1 ht2
    go_enter Try.func14, Try.ntmps14
    go_upto_region 1 with fail
    change Code.wp _ _ _ _ (w.alloc (.cells us.toArray 31))
    rw [← HW1.out, show w.heap.size = G from HG.out.symm]
    clear HW1 HG
    try dsimp only [Act.put]
    go_wp2_with fail
    clear g1 g2 g3 g4
    go_loopw [12, 11] (fun k l wr => LwAt k l ∧ wr = w1) (fun k _ _ => 23 - (intOf k).toNat)
    case atStart => exact ⟨⟨0, by omega, rfl, rfl⟩, rfl⟩
    case round =>
      obtain ⟨⟨i, hi, rfl, rfl⟩, rfl⟩ := hrel
      by_cases hlt : i < 23
      · have dk : decide ((i : Int) < 23) = true := decide_eq_true (by omega)
        have bL := lowR_bound (show i < 24 by omega)
        have hnx := lowR_next i
        obtain ⟨L, hL⟩ : ∃ L, L = lowR i := ⟨_, rfl⟩
        rw [← hL] at bL hnx ⊢
        have HNX := Lib.hid hnx
        clear hL hnx
        go_wp2_with fail
        exact ⟨⟨⟨i + 1, hlt, rfl, by rw [← HNX.out]⟩, by trivial⟩, meas_add hlt⟩
      · have dk : decide ((i : Int) < 23) = false := decide_eq_false (by omega)
        obtain rfl : i = 23 := by omega
        have bL := lowR_bound (show 23 < 24 by omega)
        have hh := lowR_half 23
        obtain ⟨L, hL⟩ : ∃ L, L = lowR 23 := ⟨_, rfl⟩
        rw [← hL] at bL hh ⊢
        have HH := Lib.hid hh
        have BL := Lib.hid bL
        clear hL hh bL hi hlt
        go_wp2_with fail
        go_loopw [13, 8, 9, 10, 11] (fun k r a i l wq => RsAt S s p B k r a i l ∧ wq = wr) (fun k _ _ _ _ _ => (intOf k + 1).toNat)
        case atStart => exact ⟨⟨24, 0, 0, 0, L, rfl, rfl, rfl, rfl, rfl, HST.out, .inr HH.out.symm, by have := BL.out; omega, by have := BL.out; omega⟩, rfl⟩
        case round =>
          obtain ⟨⟨n', r', a', i', l', rfl, rfl, rfl, rfl, rfl, hst, hl, hl0, hl1⟩, rfl⟩ := hrel
          cases n' with
          | zero =>
            have d0 : decide (0 ≤ (((0 : Nat) : Int) - 1)) = false := by decide
            have hr := hst.done
            have hee : EE = if r' = 0 then 7 else 0 := by rw [HEE.out, hr]
            subst hr
            clear hst hl hl0 hl1
            by_cases hr0 : r' = 0
            · rw [if_pos hr0] at hee
              subst hee
              have dr : decide (r' = 0) = true := decide_eq_true hr0
              have dr2 : (r' == 0) = true := by simp [hr0]
              have HR0 := Lib.hid hr0
              clear hr0
              go_wp2_with fail
              exact bodyPost_ret (results_tmp2 rfl _ _ _) rfl ⟨by rw [HR0.out]; rfl, HBEL.out⟩
            · rw [if_neg hr0] at hee
              subst hee
              have dr : decide (r' = 0) = false := decide_eq_false hr0
              have dr2 : (r' == 0) = false := by simp [hr0]
              clear hr0
              go_wp2_with fail
              exact bodyPost_ret (results_tmp2 rfl _ _ _) rfl ⟨rfl, HBEL.out⟩
          | succ m =>
            have hm : m < 24 := by have := hst.n24; omega
            rw [show (((m + 1 : Nat) : Int) - 1) = (m : Int) by omega]
            have hlm : l' = lowR m := by
              rcases hl with hl | hl
              · omega
              · rw [hl]; exact lowR_half m
            have hA0 := HSO.out.a0 m hm
            have hA1 := HSO.out.a2 hm
            have hI0 := HSO.out.i0 m s hm hs12
            have hI1 := HSO.out.i2 hm hs12
            have ha0 := hst.a0
            have ha1 := hst.a1
            have hi0 := hst.i0
            have hi1 := hst.i1
            have c1 := HROW.out.cell (HC.out.all m hm)
            have c2 := HROW.out.cell (HC.out.wi m s hm hs12)
            have ew := (show wrap64 ((m : Int) - 1) = (m : Int) - 1 by unfold wrap64; omega)
            have ets : wrap64 (t - 1) = (s : Int) := by have := HST1.out; unfold wrap64; omega
            have d0 : decide (0 ≤ (m : Int)) = true := decide_eq_true (by omega)
            have lq : l'.tdiv 2 = l' / 2 := Int.tdiv_eq_ediv_of_nonneg hl0
            have lq0 : 0 ≤ l' / 2 ∧ l' / 2 ≤ 1000000000000 := by omega
            obtain ⟨lh, hlh⟩ : ∃ lh, lh = l' / 2 := ⟨_, rfl⟩
            have hlm2 : lh = lowR m / 2 := by rw [hlh, hlm]
            rw [← hlh] at lq lq0
            obtain ⟨x, hx⟩ : ∃ x, x = S.A m := ⟨_, rfl⟩
            obtain ⟨y, hy⟩ : ∃ y, y = S.I m s := ⟨_, rfl⟩
            rw [← hx] at c1 hA0 hA1
            rw [← hy] at c2 hI0 hI1
            obtain ⟨u, hu⟩ : ∃ u, u = a' + x := ⟨_, rfl⟩
            obtain ⟨v, hv⟩ : ∃ v, v = i' + y := ⟨_, rfl⟩
            have w1' : wrap64 (a' + x) = u := by rw [hu]; unfold wrap64; omega
            have w2' : wrap64 (i' + y) = v := by rw [hv]; unfold wrap64; omega
            have hu1 : 0 ≤ u ∧ u ≤ 100000000000 := by omega
            have hv1 : 0 ≤ v ∧ v ≤ 100000000000 := by omega
            have hub : u ≤ 1000000000 * 24 := by omega
            have hvb : v ≤ 1000000000 * 24 := by omega
            have w3 : wrap64 (v * 100) = v * 100 := by unfold wrap64; omega
            have hup : 0 ≤ p * u ∧ p * u ≤ 10000000000000 := by
              refine ⟨Int.mul_nonneg (by omega) hu1.1, ?_⟩
              have h1 : p * u ≤ 100 * u := Int.mul_le_mul_of_nonneg_right hP3 hu1.1
              omega
            have w4 : wrap64 (p * u) = p * u := by unfold wrap64; omega
            have HX := Lib.hid hx
            have HY := Lib.hid hy
            have HU := Lib.hid hu
            have HV := Lib.hid hv
            have HS2 := Lib.hid hst
            have HLM := Lib.hid hlm
            have HLM2 := Lib.hid hlm2
            have LQ0 := Lib.hid lq0
            have HUB := Lib.hid (show 0 ≤ u ∧ u ≤ 1000000000 * 24 from ⟨hu1.1, hub⟩)
            have HVB := Lib.hid (show 0 ≤ v ∧ v ≤ 1000000000 * 24 from ⟨hv1.1, hvb⟩)
            have HME := Lib.hid (meas_down ew)
            clear hA0 hA1 hI0 hI1 ha0 ha1 hi0 hi1 hx hy hu hv hu1 hv1 hup hst hl hlm hlm2 hlh hub hvb lq0
            by_cases h1 : u < 2000
            · have g1 : decide (2000 ≤ u) = false := decide_eq_false (by omega)
              have HN := Lib.hid (HS2.out.few HSO.out (by omega) hs12 (by rw [← HX.out, ← HU.out]; exact h1))
              clear h1
              go_wp2_with fail
              exact ⟨⟨⟨m, r', u, v, lh, by first | rfl | rw [ew], rfl, by first | rfl | rw [w1'], by first | rfl | rw [w2'], by first | rfl | rw [lq] | rw [wrap_small2 (by have := LQ0.out; omega) (by have := LQ0.out; omega)], by (have hN := HN.out; rw [← HX.out, ← HY.out, ← HU.out, ← HV.out] at hN; exact hN), .inr HLM2.out, LQ0.out.1, LQ0.out.2⟩, by trivial⟩, by first | exact HME.out | exact meas_dn⟩
            · have g1 : decide (2000 ≤ u) = true := decide_eq_true (by omega)
              by_cases h2 : v * 100 < p * u
              · have g2 : decide (v * 100 < p * u) = true := decide_eq_true h2
                have hr := HS2.out.stop (by rw [← HX.out, ← HU.out]; exact h1) (by rw [← HX.out, ← HU.out, ← HY.out, ← HV.out, Int.mul_comm]; rw [Int.mul_comm u p]; have h3 := h2; rw [Int.mul_comm] at h3; exact h3)
                have HR := Lib.hid hr
                clear h1 h2 hr
                go_wp2_with fail
                exact ⟨⟨⟨0, r', u, v, lh, by rfl, rfl, by first | rfl | rw [w1'], by first | rfl | rw [w2'], by first | rfl | rw [lq] | rw [wrap_small2 (by have := LQ0.out; omega) (by have := LQ0.out; omega)], ⟨by omega, HR.out, rfl, HUB.out.1, HUB.out.2, HVB.out.1, HVB.out.2⟩, .inl rfl, LQ0.out.1, LQ0.out.2⟩, by trivial⟩, by exact meas_dn1⟩
              · have g2 : decide (v * 100 < p * u) = false := decide_eq_false h2
                have HN := Lib.hid (HS2.out.next (by rw [← HX.out, ← HU.out]; exact h1) (by rw [← HX.out, ← HU.out, ← HY.out, ← HV.out, Int.mul_comm u p]; exact h2))
                have hne : ¬ l' = 0 := by have := HLM.out; have := (lowR_bound hm).1; omega
                have HNE := Lib.hid hne
                clear h1 h2 hne
                go_wp2_with fail
                exact ⟨⟨⟨m, l', 0, 0, lh, by first | rfl | rw [ew], rfl, rfl, rfl, by first | rfl | rw [lq] | rw [wrap_small2 (by have := LQ0.out; omega) (by have := LQ0.out; omega)], by (rw [if_neg HNE.out]; have q := HN.out; rw [show ((1000 * 2 ^ m : Nat) : Int) = l' from HLM.out.symm] at q; exact q), .inr HLM2.out, LQ0.out.1, LQ0.out.2⟩, by trivial⟩, by first | exact HME.out | exact meas_dn⟩
end Go.Proofs.Ytjhlkcbcgjcdlaa
