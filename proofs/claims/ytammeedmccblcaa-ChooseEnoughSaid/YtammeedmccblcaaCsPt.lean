/-
  The great coin and the small ones. Conditions: at most a thousand coins.
-/
import Derived.Test.YtammeedmccblcaaCsThP
import Derived.Test.YtammeedmccblcaaCsTri
namespace Go.Proofs.Ytammeedmccblcaa.Cs
open Go.RowKit

theorem greatN_step {need : Int} {H : List Cn} {i : Nat} {c : Cn} (hc : H[i]? = some c) (hn : ¬ c.1 < need) : greatN need (H.drop i) = greatN need (H.drop (i + 1)) + 1 := by
  rw [drop_at H hc]
  exact if_neg hn
theorem greatN_stop {need : Int} {H : List Cn} {i : Nat} {c : Cn} (hc : H[i]? = some c) (hn : c.1 < need) : greatN need (H.drop i) = 0 := by
  rw [drop_at H hc]
  exact if_pos hn
set_option maxRecDepth 100000 in
set_option maxHeartbeats 1600000 in
theorem isSmall_any (GH : Nat) (need : Int) (c : Cn) (w : World) (h : w.cell? ⟨GH, 0, none⟩ = some (.int .i64 need)) (hG : GH < w.heap.size) :
    Calls Try.prog 52 #[.agg #[.int .i64 c.1, .int .i64 (c.2 : Int)], .pointer (some ⟨GH, 0, none⟩)] w fun e w' => e = .returned (.bool (decide (c.1 < need))) ∧ Below w.heap.size w w' := by
  have hbA : ∀ O, Below w.heap.size w (w.alloc O) := fun O => (Below.refl _ _).alloc (Nat.le_refl _) _
  have h2 : (w.alloc (.cells #[.int .i64 c.1, .int .i64 (c.2 : Int)] 75)).cell? ⟨GH, 0, none⟩ = some (.int .i64 need) := ((hbA _).cell (p := ⟨GH, 0, none⟩) hG).trans h
  go_enter Try.func52, Try.ntmps52
  go_wp2
  go_ret
  exact ⟨rfl, hbA _⟩
theorem lessT_any (x y : Cn) (w : World) : Calls Try.prog 54 #[.agg #[.int .i64 x.1, .int .i64 (x.2 : Int)], .agg #[.int .i64 y.1, .int .i64 (y.2 : Int)]] w fun e w' => e = .returned (.int .i64 (cmpF x.1 y.1)) ∧ Below w.heap.size w w' := by
  have hcon := fun W' => compare_any x.1 y.1 W'
  have hbA : ∀ O P, Below w.heap.size w ((w.alloc O).alloc P) := fun O P => ((Below.refl _ _).alloc (Nat.le_refl _) _).alloc (by simp) _
  generalize cmpF x.1 y.1 = r at hcon ⊢
  go_enter Try.func54, Try.ntmps54
  go_wp2_with (go_at_call 48; refine (hcon _).mono ?_; rintro e w' ⟨rfl, rfl⟩)
  go_ret
  exact ⟨rfl, hbA _ _⟩
set_option maxRecDepth 100000 in
set_option maxHeartbeats 6400000 in
theorem index_any (GH : Nat) (need : Int) (B : Nat) (v : Value) (H : List Cn) (w : World) (hX : CnR w B v H) (hB : B ≤ w.heap.size) (hl : H.length ≤ 1000) (h : w.cell? ⟨GH, 0, none⟩ = some (.int .i64 need)) (hG : GH < w.heap.size) :
    Calls Try.prog 51 #[v, .func (.func 52) #[] #[.pointer (some ⟨GH, 0, none⟩)]] w fun e w' => e = .returned (.int .i64 (if greatN need H < H.length then (greatN need H : Int) else -1)) ∧ Below w.heap.size w w' := by
  have hcl := fun c W (hb : Below w.heap.size w W) => isSmall_any GH need c W ((hb.cell (p := ⟨GH, 0, none⟩) hG).trans h) (Nat.lt_of_lt_of_le hG hb.size)
  obtain ⟨A, c, rfl, _, _⟩ := hX.form
  obtain ⟨n, hn⟩ : ∃ z, z = H.length := ⟨_, rfl⟩
  rw [← hn] at hX hl ⊢
  obtain ⟨R, hR⟩ : ∃ z : Int, z = if greatN need H < n then (greatN need H : Int) else -1 := ⟨_, rfl⟩
  rw [← hR]
  have HR := Lib.hid hR
  have HX := Lib.hid hX
  have HB := Lib.hid hB
  have HN := Lib.hid hn
  have HCL := Lib.hid hcl
  clear hR hX hB hn hcl h hG
  go_enter Try.func51, Try.ntmps51
  go_wp2
  go_loopw [8] (fun si wr => ∃ i : Nat, i ≤ n ∧ si = .int .i64 (i : Int) ∧ Hid (greatN need H = i + greatN need (H.drop i)) ∧ Hid (Below w.heap.size w wr)) (fun si _ => n - (intOf si).toNat)
  case atStart => exact ⟨0, Nat.zero_le _, rfl, Lib.hid (by rw [List.drop_zero, Nat.zero_add]), Lib.hid (Below.refl _ _)⟩
  case round =>
    obtain ⟨i, hi, rfl, hgn, hBW⟩ := hrel
    obtain ⟨w3, rfl⟩ : ∃ z : World, z = wr := ⟨_, rfl⟩
    by_cases hlt : i < n
    · have dj : decide ((i : Int) < (n : Int)) = true := decide_eq_true (by omega)
      obtain ⟨x, hx⟩ : ∃ x, H[i]? = some x := ⟨_, List.getElem?_eq_getElem (by rw [← HN.out]; exact hlt)⟩
      have hXw : CnR w3 B (.slice A n c) H := by have := HX.out; exact this.below (hBW.out.mono HB.out)
      obtain ⟨b', o', c', ef, _, _, hbl, hc0, hc1⟩ := hXw.at hx
      injection ef with ef1 ef2 ef3
      subst ef1
      clear ef2 ef3
      have HQ := Lib.hid (HCL.out x w3 hBW.out)
      by_cases hs : x.1 < need
      · as_aux_lemma =>
        have ds : decide (x.1 < need) = true := decide_eq_true hs
        have hRe : R = (i : Int) := by
          have q := hgn.out
          rw [greatN_stop hx hs, Nat.add_zero] at q
          rw [HR.out, q, if_pos hlt]
        subst hRe
        rw [ds] at HQ
        clear HR hgn hXw hx ds
        go_wp2_with (go_at_call 52; refine HQ.out.mono ?_; rintro e w4 ⟨rfl, hb4⟩)
        go_ret
        exact ⟨rfl, hBW.out.trans (hb4.mono hBW.out.size)⟩
      · as_aux_lemma =>
        have ds : decide (x.1 < need) = false := decide_eq_false hs
        have hg2 : greatN need H = (i + 1) + greatN need (H.drop (i + 1)) := by
          rw [hgn.out, greatN_step hx hs]
          omega
        have HG2 := Lib.hid hg2
        rw [ds] at HQ
        clear hgn hXw hx ds hg2
        go_wp2_with (go_at_call 52; refine HQ.out.mono ?_; rintro e w4 ⟨rfl, hb4⟩)
        exact ⟨⟨i + 1, hlt, by first | rfl | exact next (by omega), HG2, Lib.hid (hBW.out.trans (hb4.mono hBW.out.size))⟩, by first | exact meas hlt (by omega) | (show n - ((i : Int) + 1).toNat < n - (i : Int).toNat; omega)⟩
    · as_aux_lemma =>
      have dj : decide ((i : Int) < (n : Int)) = false := decide_eq_false (by omega)
      have hRe : R = -1 := by
        have q := hgn.out
        have hin : i = H.length := by rw [← HN.out]; omega
        rw [HR.out, if_neg (by rw [q]; omega)]
      subst hRe
      clear HR hgn
      go_wp2_with fail
      go_ret
      exact ⟨rfl, hBW.out⟩
end Go.Proofs.Ytammeedmccblcaa.Cs
