/-
  The law on a script's numbers. Conditions: none.
-/
import Derived.Test.YtadgaeokiolmmaaSnAwk
namespace Go.Proofs.Ytadgaeokiolmmaa
open Go.RowKit

theorem byt_take {w : World} {B n c : Nat} {A : Option Addr} {xs : List UInt8} (h : Byt w B (.slice A xs.length c) xs) (hn : n ≤ xs.length) : Byt w B (.slice A n c) (xs.take n) := by
  obtain ⟨A', c', e, h1, h2, h3, h4⟩ := h
  obtain ⟨e1, _, e3⟩ := Value.slice.inj e
  subst e1 e3
  refine ⟨A, c, by rw [List.length_take, Nat.min_eq_left hn], by rw [List.length_take]; omega, h2, fun hA => by rw [(h3 hA).1]; exact ⟨by simp, (h3 hA).2⟩, fun hne => ?_⟩
  obtain ⟨b, o, e, hb, hc⟩ := h4 (by rintro rfl; simp at hne)
  exact ⟨b, o, e, hb, fun j u hu => hc j u (by rw [List.getElem?_take] at hu; split at hu; exact hu; cases hu)⟩

set_option maxHeartbeats 400000 in
theorem shorts_any (B : Nat) (x : Value) (xs : List UInt8) (n : Nat) (hn : n ≤ 9223372036854775807) (w : World) (hx : Byt w B x xs) :
    Calls Try.prog 10 #[x, .int .i64 (n : Int)] w fun e w' => (∃ y, e = .returned y ∧ Byt w B y (xs.take n)) ∧ w = w' := by
  have hl := hx.len
  unfold maxLen at hl
  obtain ⟨A, c, rfl⟩ := hx.form
  obtain ⟨hc1, hc2⟩ := hx.cap
  by_cases hlt : n < xs.length
  · have hlt' : (n : Int) < xs.length := by omega
    have hd : decide ((n : Int) < xs.length) = true := decide_eq_true hlt'
    have HX := Lib.hid (byt_take hx (Nat.le_of_lt hlt))
    clear hx
    go_enter Try.func10, Try.ntmps10
    go_wp2_with fail
    go_ret
    exact ⟨⟨_, rfl, HX.out⟩, rfl⟩
  · have hlt' : ¬ (n : Int) < xs.length := by omega
    have hd : decide ((n : Int) < xs.length) = false := decide_eq_false hlt'
    have HX : Hid (Byt w B (.slice A xs.length c) (xs.take n)) := Lib.hid (by rw [List.take_of_length_le (by omega)]; exact hx)
    clear hx
    go_enter Try.func10, Try.ntmps10
    go_wp2_with fail
    go_ret
    exact ⟨⟨_, rfl, HX.out⟩, rfl⟩

theorem numB_eight (n : Int) (h0 : -9223372036854775808 ≤ n) (h1 : n ≤ 9223372036854775807) : (numB n).length ≤ 8 := by
  have hb := bytesN_eight n h0 h1
  have hm := mag_le n h0 h1
  have ht : (topped (bytesN (mag n))).length ≤ 8 := by
    by_cases h : mag n = 0
    · rw [h, bytesN_zero]; simp [topped_nil]
    · obtain ⟨fr, x, e, _⟩ := bytesN_last (mag n) (by omega)
      have hv := valN_bytesN (mag n)
      rw [e] at hb hv ⊢
      by_cases hx : 128 ≤ x.toNat
      · rw [topped_hi hx]
        rw [valN_append] at hv
        rw [List.length_append, List.length_cons, List.length_nil] at hb
        by_cases h7 : fr.length = 7
        · exfalso
          have : 256 ^ fr.length * valN [x] ≥ 256 ^ 7 * 128 := by rw [h7]; exact Nat.mul_le_mul_left _ (by show 128 ≤ x.toNat + 256 * 0; omega)
          have h3 : (256 : Nat) ^ 7 * 128 = 9223372036854775808 := by decide
          omega
        · rw [List.length_append, List.length_append, List.length_cons, List.length_nil, List.length_cons, List.length_nil]; omega
      · rw [topped_lo (by omega)]; exact hb
  unfold numB
  split
  · rw [signd_length]; exact ht
  · exact ht

theorem from_back (n : Int) (h0 : -9223372036854775808 ≤ n) (h1 : n ≤ 9223372036854775807) : fromB (numB n) 9 = (clip n, 0) := by
  have h8 := numB_eight n h0 h1
  have hag := again_any (numB n) h8
  rw [back_numB, numB_clip, decide_eq_true rfl] at hag
  unfold fromB
  rw [if_neg (by omega)]
  by_cases hn : numB n = []
  · rw [if_pos hn]
    have := back_numB n
    rw [hn, valS_nil] at this
    rw [← this]
  · rw [if_neg hn]
    rw [decide_eq_false hn, Bool.false_or] at hag
    rw [if_pos hag.symm, back_numB]

theorem truth_num (n : Int) : truthB (numB n) = (n != 0) := by
  rw [truth_numB, Bool.eq_iff_iff]
  simp

set_option maxRecDepth 100000 in
set_option maxHeartbeats 6400000 in
theorem numbers_law (n : Int) (B : Nat) (x : Value) (bs : List UInt8) (most : Int) (w : World) (h0 : -9223372036854775808 ≤ n) (h1 : n ≤ 9223372036854775807) (hm0 : -9223372036854775808 ≤ most) (hm1 : most ≤ 9223372036854775807) (hx : Byt w B x bs) (hB : B ≤ w.heap.size) :
    Calls Try.prog 5 #[.int .i64 n, x, .int .i64 most] w fun e w' => e = .returned (.bool true) ∧ Below w.heap.size w w' := by
  obtain ⟨A, c, hxf⟩ := hx.form
  obtain ⟨cs, hcs⟩ : ∃ cs, cs = bs.take 20 := ⟨_, rfl⟩
  have HX := Lib.hid hx
  have hL8 := numB_eight n h0 h1
  have hbk := from_back n h0 h1
  obtain ⟨N, hN⟩ : ∃ N, N = numB n := ⟨_, rfl⟩
  have htn := truth_num n
  have HNUM := Lib.hid (fun W => number_any n W h0 h1)
  have HREF := Lib.hid (fun W => rnumber_any n W h0 h1)
  rw [← hN] at HNUM HREF hL8 hbk htn
  obtain ⟨p, hp⟩ : ∃ p, p = fromB cs most := ⟨_, rfl⟩
  obtain ⟨t, ht⟩ : ∃ t, t = truthB cs := ⟨_, rfl⟩
  have HCS := Lib.hid hcs
  have HP := Lib.hid hp
  have HT := Lib.hid ht
  have HBK := Lib.hid hbk
  have HTN := Lib.hid htn
  have HL8 := Lib.hid hL8
  clear hx hcs hp ht hbk htn hN hL8
  subst hxf
  go_enter Try.func5, Try.ntmps5
  go_wp2_with fail
  refine (awake_any w).mono ?_
  rintro e w1 ⟨rfl, hb1⟩
  have HB1 := Lib.hid hb1
  clear hb1
  go_wp2_with fail
  refine (shorts_any B _ bs 20 (by omega) w1 (HX.out.below (HB1.out.mono hB))).mono ?_
  rintro e w2 ⟨⟨y, rfl, hy⟩, rfl⟩
  rw [← HCS.out] at hy
  obtain ⟨A2, c2, rfl⟩ := hy.form
  have HY := Lib.hid hy
  clear hy HX
  go_wp2_with fail
  refine (HNUM.out _).mono ?_
  intro e w2 hfr
  obtain ⟨u2, rfl, hown2, hb2⟩ := fresh_v hfr
  obtain ⟨A3, c3, rfl⟩ := hown2.form
  have HN2 := Lib.hid (Byt.of_own hown2)
  have HB2 := Lib.hid (HB1.out.trans (hb2.mono HB1.out.size))
  have HY2 := Lib.hid (HY.out.below (hb2.mono (Nat.le_trans hB HB1.out.size)))
  clear hfr hown2 hb2 HY HNUM
  go_wp2_with fail
  refine (HREF.out _).mono ?_
  intro e w3 hfr
  obtain ⟨u3, rfl, hown3, hb3⟩ := fresh_v hfr
  obtain ⟨A4, c4, rfl⟩ := hown3.form
  have HN3 := Lib.hid (Byt.of_own hown3)
  have HN2b := Lib.hid (HN2.out.below hb3)
  have HB3 := Lib.hid (HB2.out.trans (hb3.mono HB2.out.size))
  have HY3 := Lib.hid (HY2.out.below (hb3.mono (Nat.le_trans hB HB2.out.size)))
  have HS23 := Lib.hid hb3.size
  clear hfr hown3 hb3 HREF HN2 HY2
  go_wp2_with fail
  refine (equal_yes _ _ _ _ N N w3 HN2b.out HN3.out rfl).mono ?_
  rintro e w4 ⟨rfl, rfl⟩
  clear HN3
  go_wp2_with fail
  refine (truth_any B _ cs w3 HY3.out).mono ?_
  rw [← HT.out]
  rintro e w4 ⟨rfl, rfl⟩
  go_wp2_with fail
  refine (rtruth_any B _ cs w3 HY3.out).mono ?_
  rw [← HT.out]
  rintro e w4 ⟨rfl, rfl⟩
  go_wp2_with fail
  refine (truth_any _ _ N w3 HN2b.out).mono ?_
  rw [HTN.out]
  rintro e w4 ⟨rfl, rfl⟩
  go_wp2_with fail
  refine (from_any _ _ N 9 (by omega) (by omega) w3 HN2b.out HS23.out).mono ?_
  rw [HBK.out]
  rintro e w4 ⟨rfl, hb4⟩
  have HB4 := Lib.hid (HB3.out.trans (hb4.mono HB3.out.size))
  have HY4 := Lib.hid (HY3.out.below (hb4.mono (Nat.le_trans hB HB3.out.size)))
  clear hb4 HY3 HN2b
  have hL8 : (N.length : Int) ≤ 8 := by have := HL8.out; omega
  by_cases hmin : n = -9223372036854775808
  · subst hmin
    have hcl : clip (-9223372036854775808) = -9223372036854775807 := rfl
    rw [hcl]
    go_wp2_with fail
    refine (from_any _ _ cs most hm0 hm1 w4 HY4.out (Nat.le_trans hB HB4.out.size)).mono ?_
    rw [← HP.out]
    rintro e w5 ⟨rfl, hb5⟩
    have HB5 := Lib.hid (HB4.out.trans (hb5.mono HB4.out.size))
    have HY5 := Lib.hid (HY4.out.below (hb5.mono (Nat.le_trans hB HB4.out.size)))
    clear hb5
    go_wp2_with fail
    refine (rfrom_any _ _ cs most hm1 w5 HY5.out).mono ?_
    rw [← HP.out]
    rintro e w6 ⟨rfl, rfl⟩
    go_wp2_with fail
    go_ret
    exact ⟨rfl, HB5.out⟩
  · have hcl : clip n = n := by unfold clip; rw [if_neg hmin]
    rw [hcl]
    clear hcl hmin
    go_wp2_with fail
    refine (from_any _ _ cs most hm0 hm1 w4 HY4.out (Nat.le_trans hB HB4.out.size)).mono ?_
    rw [← HP.out]
    rintro e w5 ⟨rfl, hb5⟩
    have HB5 := Lib.hid (HB4.out.trans (hb5.mono HB4.out.size))
    have HY5 := Lib.hid (HY4.out.below (hb5.mono (Nat.le_trans hB HB4.out.size)))
    clear hb5
    go_wp2_with fail
    refine (rfrom_any _ _ cs most hm1 w5 HY5.out).mono ?_
    rw [← HP.out]
    rintro e w6 ⟨rfl, rfl⟩
    go_wp2_with fail
    go_ret
    exact ⟨rfl, HB5.out⟩
end Go.Proofs.Ytadgaeokiolmmaa
