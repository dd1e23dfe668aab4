/-
  The law on values of some bits as values of others. Conditions: the listed table holds what its text lays.
-/
import Derived.Test.YtginbfeimiihlaaDoorGrpRef2
import Derived.Test.YtginbfeimiihlaaDoorTKept
import Derived.Test.YtginbfeimiihlaaDoorTEq
import Derived.Test.YtginbfeimiihlaaDoorB58
namespace Go.Proofs.YtginbfeimiihlaaDoor
open Go.RowKit

set_option maxRecDepth 100000 in
set_option maxHeartbeats 1600000 in
theorem refReg_any (B : Nat) (x : Value) (ds : List UInt8) (f t : Int) (pad : Bool) (w : World) (hx : Byt w B x ds) (hB : B ≤ w.heap.size) (hl : ds.length ≤ 20000) :
    Calls Tryd.prog 15 #[x, .int .i64 f, .int .i64 t, .bool pad] w (RegPost w (regS f t pad ds)) := by
  by_cases hok : 1 ≤ f ∧ f ≤ 8 ∧ 1 ≤ t ∧ t ≤ 8
  · obtain ⟨a, rfl⟩ : ∃ a : Nat, f = a := ⟨f.toNat, by omega⟩
    obtain ⟨b, rfl⟩ : ∃ b : Nat, t = b := ⟨t.toNat, by omega⟩
    exact refReg_good B x ds a b pad w hx hB hl (by omega) (by omega) (by omega) (by omega)
  · have hr := regS_out (f := f) (t := t) (ds := ds) (by omega) pad
    rw [hr]
    obtain ⟨A, c, hxf⟩ := hx.form
    subst hxf
    clear hr hx
    by_cases h1 : f < 1
    · have d1 : decide (f < 1) = true := decide_eq_true h1
      go_enter Tryd.func15, Tryd.ntmps15
      go_wp2
      go_ret2
      exact ⟨_, rfl, OwnB.nil _ _, Below.refl _ _⟩
    · have d1 : decide (f < 1) = false := decide_eq_false h1
      by_cases h2 : 8 < f
      · have d2 : decide (8 < f) = true := decide_eq_true h2
        go_enter Tryd.func15, Tryd.ntmps15
        go_wp2
        go_ret2
        exact ⟨_, rfl, OwnB.nil _ _, Below.refl _ _⟩
      · have d2 : decide (8 < f) = false := decide_eq_false h2
        by_cases h3 : t < 1
        · have d3 : decide (t < 1) = true := decide_eq_true h3
          go_enter Tryd.func15, Tryd.ntmps15
          go_wp2
          go_ret2
          exact ⟨_, rfl, OwnB.nil _ _, Below.refl _ _⟩
        · have d3 : decide (t < 1) = false := decide_eq_false h3
          have d4 : decide (8 < t) = true := decide_eq_true (by omega)
          go_enter Tryd.func15, Tryd.ntmps15
          go_wp2
          go_ret2
          exact ⟨_, rfl, OwnB.nil _ _, Below.refl _ _⟩

theorem regS_code {f t : Int} {pad : Bool} {ds : List UInt8} (h : (regS f t pad ds).1 = 0) : 1 ≤ f ∧ f ≤ 8 ∧ 1 ≤ t ∧ t ≤ 8 ∧ ∀ d ∈ ds, d.toNat < 2 ^ f.toNat := by
  unfold regS at h
  split at h
  · cases h
  · next h1 =>
    split at h
    · cases h
    · next h2 =>
      refine ⟨by omega, by omega, by omega, by omega, fun d hd => ?_⟩
      rcases Nat.lt_or_ge d.toNat (2 ^ f.toNat) with h | h
      · exact h
      · exact absurd ⟨d, hd, h⟩ h2
theorem regS_back {f t : Int} {ds : List UInt8} (h : (regS f t true ds).1 = 0) (htf : t ≤ f) : regS t f false (regS f t true ds).2 = (0, ds) := by
  obtain ⟨h1, h2, h3, h4, h5⟩ := regS_code h
  obtain ⟨a, rfl⟩ : ∃ a : Nat, f = a := ⟨f.toNat, by omega⟩
  obtain ⟨b, rfl⟩ : ∃ b : Nat, t = b := ⟨t.toNat, by omega⟩
  exact reg_back (by omega) (by omega) (by omega) (by omega) (by omega) h5
theorem regS_length {f t : Int} {pad : Bool} {ds : List UInt8} (hl : ds.length ≤ 200) : (regS f t pad ds).2.length ≤ 2000 := by
  unfold regS
  split
  · simp
  · split
    · simp
    · have h1 : (bitsAll f.toNat ds).length ≤ 200 * 8 := by rw [bitsAll_length]; exact Nat.mul_le_mul hl (by omega)
      have h2 : (bitsAll f.toNat ds).length / t.toNat ≤ (bitsAll f.toNat ds).length := Nat.div_le_self _ _
      simp only
      split
      · split
        · simp only [List.length_append, outsN_length, List.length_cons, List.length_nil]; omega
        · simp only [outsN_length]; omega
      · split
        · simp
        · simp only [outsN_length]; omega

theorem drew_byt {w : World} {B k : Nat} {v : Value} {xs : List UInt8} (h : Byt w B v xs) : Byt (w.drewN k) B v xs := h.keep (fun _ _ _ => rfl)

set_option maxRecDepth 100000 in
set_option maxHeartbeats 6400000 in
theorem grp_law (B : Nat) (x : Value) (xs : List UInt8) (f t : Int) (pad : Bool) (w : World) (hc : CodeIs w) (hx : Byt w B x xs) (hB : B ≤ w.heap.size) :
    Calls Tryd.prog 4 #[x, .agg #[.int .i64 f, .int .i64 t], .bool pad] w fun e w' => e = .returned (.bool true) ∧ Below w.heap.size w w' := by
  obtain ⟨A, c, hxf⟩ := hx.form
  subst hxf
  obtain ⟨w0, hw0⟩ : ∃ w0, w0 = w.alloc (.cells #[.int .i64 f, .int .i64 t] 33) := ⟨_, rfl⟩
  have hb0 : Below w.heap.size w w0 := by rw [hw0]; exact (Below.refl _ w).alloc (Nat.le_refl _) _
  have hs0 : w0.heap.size = w.heap.size + 1 := by rw [hw0]; simp
  have hf0 : w0.cell? ⟨w.heap.size, 0, none⟩ = some (.int .i64 f) := by rw [hw0, cell_of_row _ _ 0 _ _ _ (heap_alloc_new w _)]; rfl
  have ht0 : w0.cell? ⟨w.heap.size, 1, none⟩ = some (.int .i64 t) := by rw [hw0, cell_of_row _ _ 1 _ _ _ (heap_alloc_new w _)]; rfl
  have HX := Lib.hid (hx.below (hb0.mono hB))
  have HA := Lib.hid (awake_any w0 (hc.below hb0 hc.1))
  have hcells : ∀ W, Below w0.heap.size w0 W → W.cell? ⟨w.heap.size, 0, none⟩ = some (.int .i64 f) ∧ W.cell? ⟨w.heap.size, 1, none⟩ = some (.int .i64 t) := fun W h =>
    ⟨(h.cell (p := ⟨w.heap.size, 0, none⟩) (by show w.heap.size < _; omega)).trans hf0, (h.cell (p := ⟨w.heap.size, 1, none⟩) (by show w.heap.size < _; omega)).trans ht0⟩
  have HCELL := Lib.hid hcells
  have HB0 := Lib.hid hb0
  have hsz : w.heap.size + 1 ≤ w0.heap.size := by omega
  clear hx hc hf0 ht0 hcells hb0 hs0
  go_enter Tryd.func4, Tryd.ntmps4
  go_wp2_with fail
  rw [← hw0]
  clear hw0
  refine HA.out.mono ?_
  rintro e w1 ⟨rfl, hb1⟩
  have hs1 := hb1.size
  have S1 := Lib.hid (short_any 200 B _ xs w1 (HX.out.below (hb1.mono (by omega))) (by omega))
  go_wp2_with fail
  refine S1.out.mono ?_
  rintro e w1' ⟨⟨y, rfl, hy⟩, rfl⟩
  obtain ⟨A1, c1, rfl⟩ := hy.form
  obtain ⟨ds, hds⟩ : ∃ ds, ds = xs.take 200 := ⟨_, rfl⟩
  have hdl : ds.length ≤ 200 := by rw [hds, List.length_take]; omega
  rw [← hds] at hy ⊢
  have HY := Lib.hid hy
  have SP := Lib.hid (spare_any B _ ds w1 hy (by omega) (by omega))
  clear hy hds S1 HX HA
  go_wp2_with fail
  refine SP.out.mono ?_
  rintro e w2 ⟨rfl, hrow, hb2⟩
  have hs2 := hb2.size
  have hin := hrow.byt (n := ds.length) (c := ds.length + 9) (by rw [tinted_length]; omega) (by omega) (by unfold maxLen; omega)
  have htk : (tinted ds).take ds.length = ds := by unfold tinted; rw [List.take_left']; rfl
  rw [htk] at hin
  have R1 := Lib.hid (regroup_any _ _ ds f t pad w2 hin (Nat.le_refl _) (by omega))
  obtain ⟨k0, k1⟩ := HCELL.out w2 (hb1.trans (hb2.mono hs1))
  have HROW := Lib.hid hrow
  have HB2 := Lib.hid (hb1.trans (hb2.mono hs1))
  have HY2 := Lib.hid (HY.out.below (hb2.mono (by omega)))
  obtain ⟨r, hr⟩ : ∃ r, r = regS f t pad ds := ⟨_, rfl⟩
  have hrl : r.2.length ≤ 2000 := by rw [hr]; exact regS_length hdl
  rw [← hr] at R1
  have HRR := Lib.hid hr
  clear hrow hin htk hb2 hb1 HY SP hr
  go_wp2_with fail
  refine R1.out.mono ?_
  rintro e w3 ⟨v3, rfl, hown3, hb3⟩
  have hs3 := hb3.size
  have HB3 := Lib.hid (HB2.out.trans (hb3.mono (by omega)))
  have R2 := Lib.hid (refReg_any B _ ds f t pad w3 (HY2.out.below (hb3.mono (by omega))) (by omega) (by omega))
  rw [← HRR.out] at R2
  obtain ⟨k2, k3⟩ := HCELL.out w3 HB3.out
  obtain ⟨A3, c3, rfl⟩ := hown3.form
  have HO3 := Lib.hid hown3
  clear k0 k1 R1 hown3
  go_wp2_with fail
  refine R2.out.mono ?_
  rintro e w4 ⟨v4, rfl, hown4, hb4⟩
  have hs4 := hb4.size
  have HB4 := Lib.hid (HB3.out.trans (hb4.mono (by omega)))
  have hx4 : Byt w4 w3.heap.size (.slice A3 r.2.length c3) r.2 := HO3.out.byt.below hb4
  have E1 := Lib.hid (equal_yes _ _ _ _ _ _ w4 hx4 hown4.byt rfl)
  have hrow4 : Row w4 w1.heap.size (tinted ds) := (HROW.out.turns (Turns.of_below hb3 (S := fun _ => False)) (fun h => h)).turns (Turns.of_below hb4 (S := fun _ => False)) (fun h => h)
  have hall := hrow4.byt (n := ds.length + 9) (c := ds.length + 9) (by rw [tinted_length]; omega) (by omega) (by unfold maxLen; omega)
  rw [List.take_of_length_le (by rw [tinted_length]; omega)] at hall
  have hy4 : Byt w4 B (.slice A1 ds.length c1) ds := (HY2.out.below (hb3.mono (by omega))).below (hb4.mono (by omega))
  have K1 := Lib.hid (kept_yes _ _ _ _ ds w4 hall hy4 (by omega))
  obtain ⟨A4, c4, rfl⟩ := hown4.form
  have HX4 := Lib.hid hx4
  have HY4 := Lib.hid hy4
  clear k2 k3 R2 hown4 hrow4 hall hx4 hy4
  have hnn : (r.1 != r.1) = false := by simp
  go_wp2_with fail
  refine E1.out.mono ?_
  rintro e w4' ⟨rfl, rfl⟩
  go_wp2_with fail
  refine K1.out.mono ?_
  rintro e w5 ⟨rfl, k, rfl⟩
  have HB5 : Hid (Below w0.heap.size w0 (w4.drewN k)) := Lib.hid ⟨HB4.out.os, HB4.out.tape, HB4.out.output, HB4.out.size, HB4.out.block⟩
  obtain ⟨k4, k5⟩ := HCELL.out _ HB5.out
  have HBF := Lib.hid (HB0.out.trans (HB5.out.mono HB0.out.size))
  by_cases hn0 : r.1 = 0
  · have hd0 : (r.1 != 0) = false := by simp [hn0]
    have HN0 := Lib.hid hn0
    cases pad with
    | false =>
      clear hn0
      go_wp2
      go_ret
      exact ⟨rfl, HBF.out⟩
    | true =>
      have hr5 : Byt (w4.drewN k) w4.heap.size (.slice A3 r.2.length c3) r.2 := drew_byt (HX4.out.more hs4)
      by_cases htf : f < t
      · have d1 : decide (f < t) = true := decide_eq_true htf
        by_cases hf5 : f = 5
        · have d2 : (f != 5) = false := by simp [hf5]
          have R3 := Lib.hid (regroup_any _ _ r.2 t f false (w4.drewN k) hr5 (Nat.le_refl _) (by omega))
          obtain ⟨r2, hr2⟩ : ∃ r2, r2 = regS t f false r.2 := ⟨_, rfl⟩
          rw [← hr2] at R3
          clear hn0 hf5 hr2
          go_wp2_with fail
          refine R3.out.mono ?_
          rintro e w6 ⟨v6, rfl, hown6, hb6⟩
          have hs6 := hb6.size
          obtain ⟨k6, k7⟩ := HCELL.out w6 (HB5.out.trans (hb6.mono HB5.out.size))
          have HB6 := Lib.hid (HBF.out.trans (hb6.mono HBF.out.size))
          have E2 := Lib.hid (equal_any _ _ _ _ r2.2 ds w6 hown6.byt ((drew_byt (k := k) HY4.out).below (hb6.mono (by have h1 := HB5.out.size; show B ≤ (w4.drewN k).heap.size; omega))))
          obtain ⟨A6, c6, rfl⟩ := hown6.form
          clear hown6 hb6 R3
          by_cases hn2 : r2.1 = 0
          · have d3 : (r2.1 == 0) = true := by simp [hn2]
            clear hn2
            go_wp2_with fail
            refine E2.out.mono ?_
            rintro e w6' ⟨rfl, rfl⟩
            cases hbq : (r2.2 == ds) with
            | true =>
              go_wp2
              go_ret
              exact ⟨rfl, HB6.out⟩
            | false =>
              go_wp2
              go_ret
              exact ⟨rfl, HB6.out⟩
          · have d3 : (r2.1 == 0) = false := by simp [hn2]
            clear hn2
            go_wp2
            go_ret
            exact ⟨rfl, HB6.out⟩
        · have d2 : (f != 5) = true := by simp [hf5]
          clear hn0
          go_wp2
          go_ret
          exact ⟨rfl, HBF.out⟩
      · have d1 : decide (f < t) = false := decide_eq_false htf
        have hback := regS_back (f := f) (t := t) (ds := ds) (by rw [← HRR.out]; exact HN0.out) (by omega)
        rw [← HRR.out] at hback
        have R3 := Lib.hid (regroup_any _ _ r.2 t f false (w4.drewN k) hr5 (Nat.le_refl _) (by omega))
        rw [hback] at R3
        clear hn0 hback
        go_wp2_with fail
        refine R3.out.mono ?_
        rintro e w6 ⟨v6, rfl, hown6, hb6⟩
        have hs6 := hb6.size
        obtain ⟨k6, k7⟩ := HCELL.out w6 (HB5.out.trans (hb6.mono HB5.out.size))
        have HB6 := Lib.hid (HBF.out.trans (hb6.mono HBF.out.size))
        have E2 := Lib.hid (equal_yes _ _ _ _ ds ds w6 hown6.byt ((drew_byt (k := k) HY4.out).below (hb6.mono (by have h1 := HB5.out.size; show B ≤ (w4.drewN k).heap.size; omega))) rfl)
        obtain ⟨A6, c6, rfl⟩ := hown6.form
        clear hown6 hb6 R3
        go_wp2_with fail
        refine E2.out.mono ?_
        rintro e w6' ⟨rfl, rfl⟩
        go_wp2
        go_ret
        exact ⟨rfl, HB6.out⟩
  · have hd0 : (r.1 != 0) = true := by simp [hn0]
    clear hn0
    go_wp2
    go_ret
    exact ⟨rfl, HBF.out⟩
end Go.Proofs.YtginbfeimiihlaaDoor
