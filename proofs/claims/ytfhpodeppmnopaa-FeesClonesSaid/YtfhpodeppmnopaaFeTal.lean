/-
  fees: a tally shrinks, and counts one more. Conditions: counts up to a million million.
-/
import Derived.Test.YtfhpodeppmnopaaFeFn
namespace Go.Proofs.Ytfhpodeppmnopaa
open Go.RowKit

/-- An array of 12 at an index. -/
theorem idx12 (f : Nat → Int) {i : Nat} (hi : i < 12) : ∀ w, (Instr.index 26 (.agg ((List.range 12).map fun s => Value.int .i64 (f s)).toArray) (.int .i64 i)).run Try.prog w = .ok (.int .i64 (f i)) w := by
  obtain rfl | rfl | rfl | rfl | rfl | rfl | rfl | rfl | rfl | rfl | rfl | rfl : i = 0 ∨ i = 1 ∨ i = 2 ∨ i = 3 ∨ i = 4 ∨ i = 5 ∨ i = 6 ∨ i = 7 ∨ i = 8 ∨ i = 9 ∨ i = 10 ∨ i = 11 := by omega
  all_goals exact fun w => by kernel_rfl
theorem info_12 : (Try.prog.info? 26).map (·.size) = some 12 := by kernel_rfl
theorem rg_12 {w : World} {g k : Nat} {m : Option Nat} {A : Nat → Int} {I : Nat → Nat → Int} (h : CntAt w g m A I) (hk : k < 24) : w.rangeAt g (k * 13 + 1) ((List.range 12).map fun s => Value.int .i64 (I k s)) := fun j v hv => by
  have hj : j < 12 := by simpa using (List.getElem?_eq_some_iff.1 hv).1
  rw [List.getElem?_map, List.getElem?_range hj] at hv
  rw [← Option.some.inj hv]
  exact h.wi hk hj

theorem mul998 {x : Int} (h0 : 0 ≤ x) (h1 : x ≤ 1000000000000) : wrap64 (x * 998) = x * 998 ∧ (x * 998).tdiv 1000 = x * 998 / 1000 ∧ wrap64 (x * 998 / 1000) = x * 998 / 1000 := by
  refine ⟨by unfold wrap64; omega, Int.tdiv_eq_ediv_of_nonneg (by omega), by unfold wrap64; omega⟩

set_option maxRecDepth 100000 in
set_option maxHeartbeats 1600000 in
theorem shrink_any (g k : Nat) (m : Option Nat) (A : Nat → Int) (I : Nat → Nat → Int) (w : World) (hk : k < 24) (h : CntAt w g m A I) (hA0 : 0 ≤ A k) (hA1 : A k ≤ 1000000000000) (hI0 : ∀ t, t < 12 → 0 ≤ I k t) (hI1 : ∀ t, t < 12 → I k t ≤ 1000000000000) :
    Calls Try.prog 25 #[.pointer (some ⟨g, k * 13, none⟩)] w fun e w' => e = .returned (.tuple #[]) ∧
      CntAt w' g m (fun j => if j = k then A j * 998 / 1000 else A j) (fun j t => if j = k then I j t * 998 / 1000 else I j t) ∧ Turns (fun i => i = g) w w' := by
  have c0 := h.all hk
  have f0 := h.free (k * 13)
  obtain ⟨x, hx⟩ : ∃ x, x = A k := ⟨_, rfl⟩
  rw [← hx] at c0 hA0 hA1
  obtain ⟨e1, e2, e3⟩ := mul998 hA0 hA1
  obtain ⟨y, hy⟩ : ∃ y, y = x * 998 / 1000 := ⟨_, rfl⟩
  rw [← hy] at e2 e3
  have h1 := h.setA hk y
  have t1 : Turns (fun i => i = g) w (w.setCell ⟨g, k * 13, none⟩ (.int .i64 y)) := Turns.setCell (S := fun i => i = g) (Turns.refl _ w) (p := ⟨g, k * 13, none⟩) (fun _ => rfl) _
  have hl := rg_12 h1 hk
  have ix := fun i hi => idx12 (I k) (i := i) hi
  have hin : (Try.prog.info? 26).map (·.size) = some ((List.range 12).map fun s => Value.int .i64 (I k s)).length := info_12
  obtain ⟨V, hV⟩ : ∃ V, V = ((List.range 12).map fun s => Value.int .i64 (I k s)) := ⟨_, rfl⟩
  rw [← hV] at hl hin
  simp only [← hV] at ix
  obtain ⟨w1, hw1⟩ : ∃ z, z = w.setCell ⟨g, k * 13, none⟩ (.int .i64 y) := ⟨_, rfl⟩
  rw [← hw1] at h1 t1 hl
  have h1' : CntAt w1 g m (fun j => if j = k then A j * 998 / 1000 else A j) I := h1.congr (fun j _ => by
    show (if j = k then y else A j) = _
    by_cases e : j = k
    · subst e; rw [if_pos rfl, if_pos rfl, hy, hx]
    · rw [if_neg e, if_neg e]) (fun _ _ _ _ => rfl)
  have H1 := Lib.hid h1'
  have T1 := Lib.hid t1
  have HX := Lib.hid hx
  have HW1 := Lib.hid hw1
  have HH0 := Lib.hid hI0
  have HH1 := Lib.hid hI1
  have IX := Lib.hid ix
  have HL := Lib.hid hl
  have HN := Lib.hid hin
  clear h h1 h1' t1 hx hy hV hw1 hI0 hI1 ix hA0 hA1 hl hin
  go_enter Try.func25, Try.ntmps25
  go_upto_region 1 with fail
  change Code.wp _ _ _ _ (w.setCell ⟨g, k * 13, none⟩ (.int .i64 y))
  rw [← HW1.out]
  clear HW1 HX c0 f0 e1 e2 e3
  go_wp2_with (refine wpList_load_mid rfl 26 _ rfl g (k * 13 + 1) rfl V _ HL.out Try.underlying26 rfl HN.out ?_)
  go_loopw [17] (fun s wr => ∃ i : Nat, i ≤ 12 ∧ s = .int .i64 i ∧ CntAt wr g m (fun j => if j = k then A j * 998 / 1000 else A j) (fun j t => if j = k ∧ t < i then I j t * 998 / 1000 else I j t) ∧ Turns (fun i => i = g) w wr) (fun s _ => 12 - (intOf s).toNat)
  case atStart => exact ⟨0, Nat.zero_le _, rfl, H1.out.congr (fun _ _ => rfl) (fun j t _ _ => by simp), T1.out⟩
  case round =>
    obtain ⟨i, hi, rfl, hc, ht⟩ := hrel
    by_cases hlt : i < 12
    · have ixi := IX.out i hlt
      have m0 := HH0.out i hlt
      have m1 := HH1.out i hlt
      have fr := hc.free (k * 13 + 1 + i)
      have cell := hc.wi hk hlt
      have hs := hc.setI hk hlt (I k i * 998 / 1000)
      have hs' := hs.congr (A' := fun j => if j = k then A j * 998 / 1000 else A j) (I' := fun j t => if j = k ∧ t < i + 1 then I j t * 998 / 1000 else I j t) (fun _ _ => rfl) (fun j t _ _ => by
        show (if j = k ∧ t = i then I k i * 998 / 1000 else if j = k ∧ t < i then I j t * 998 / 1000 else I j t) = if j = k ∧ t < i + 1 then I j t * 998 / 1000 else I j t
        by_cases e : j = k
        · subst e
          by_cases e2 : t = i
          · subst e2; rw [if_pos ⟨rfl, rfl⟩, if_pos ⟨rfl, by omega⟩]
          · rw [if_neg (fun q => e2 q.2)]
            by_cases e3 : t < i
            · rw [if_pos ⟨rfl, e3⟩, if_pos ⟨rfl, by omega⟩]
            · rw [if_neg (fun q => e3 q.2), if_neg (fun q => by have := q.2; omega)]
        · rw [if_neg (fun q => e q.1), if_neg (fun q => e q.1), if_neg (fun q => e q.1)])
      have ht' := Turns.setCell (S := fun i => i = g) ht (p := ⟨g, k * 13 + 1 + i, none⟩) (fun _ => rfl) (.int .i64 (I k i * 998 / 1000))
      obtain ⟨z, hz⟩ : ∃ z, z = I k i := ⟨_, rfl⟩
      rw [← hz] at m0 m1 hs' ht'
      simp only [← hz] at ixi
      obtain ⟨f1, f2, f3⟩ := mul998 m0 m1
      obtain ⟨u, hu⟩ : ∃ u, u = z * 998 / 1000 := ⟨_, rfl⟩
      rw [← hu] at f2 f3 hs' ht'
      have HS := Lib.hid hs'
      have HT := Lib.hid ht'
      clear hs hs' ht' hz hu hc ht m0 m1
      go_wp2
      exact ⟨⟨i + 1, by omega, by go_num, HS.out, HT.out⟩, by simp [intOf]; omega⟩
    · go_wp2
      obtain rfl : i = 12 := by omega
      exact bodyPost_end (results_none Try.results25 _ _ _) rfl ⟨rfl, hc.congr (fun _ _ => rfl) (fun j t _ ht2 => by
        show (if j = k ∧ t < 12 then I j t * 998 / 1000 else I j t) = if j = k then I j t * 998 / 1000 else I j t
        by_cases e : j = k
        · rw [if_pos ⟨e, ht2⟩, if_pos e]
        · rw [if_neg (fun q => e q.1), if_neg e]), ht⟩

set_option maxRecDepth 100000 in
set_option maxHeartbeats 1600000 in
theorem count_any (g k : Nat) (n : Int) (m : Option Nat) (A : Nat → Int) (I : Nat → Nat → Int) (w : World) (hk : k < 24) (hn1 : 1 ≤ n) (hn2 : n ≤ 13) (h : CntAt w g m A I) (hA0 : 0 ≤ A k) (hA1 : A k ≤ 1000000000000) (hI0 : ∀ t, t < 12 → 0 ≤ I k t) (hI1 : ∀ t, t < 12 → I k t ≤ 1000000000000) :
    Calls Try.prog 26 #[.pointer (some ⟨g, k * 13, none⟩), .int .i64 n] w fun e w' => e = .returned (.tuple #[]) ∧
      CntAt w' g m (fun j => if j = k then A j + 1000 else A j) (fun j t => if j = k ∧ n ≤ t + 1 then I j t + 1000 else I j t) ∧ Turns (fun i => i = g) w w' := by
  have c0 := h.all hk
  have f0 := h.free (k * 13)
  obtain ⟨N, rfl⟩ : ∃ N : Nat, n = N := ⟨n.toNat, by omega⟩
  obtain ⟨x, hx⟩ : ∃ x, x = A k := ⟨_, rfl⟩
  rw [← hx] at c0 hA0 hA1
  have e1 : wrap64 (x + 1000) = x + 1000 := by unfold wrap64; omega
  have h1 := h.setA hk (x + 1000)
  have t1 : Turns (fun i => i = g) w (w.setCell ⟨g, k * 13, none⟩ (.int .i64 (x + 1000))) := Turns.setCell (S := fun i => i = g) (Turns.refl _ w) (p := ⟨g, k * 13, none⟩) (fun _ => rfl) _
  obtain ⟨w1, hw1⟩ : ∃ z, z = w.setCell ⟨g, k * 13, none⟩ (.int .i64 (x + 1000)) := ⟨_, rfl⟩
  rw [← hw1] at h1 t1
  have h1' : CntAt w1 g m (fun j => if j = k then A j + 1000 else A j) I := h1.congr (fun j _ => by
    show (if j = k then x + 1000 else A j) = _
    by_cases e : j = k
    · subst e; rw [if_pos rfl, if_pos rfl, hx]
    · rw [if_neg e, if_neg e]) (fun _ _ _ _ => rfl)
  have H1 := Lib.hid h1'
  have T1 := Lib.hid t1
  have HX := Lib.hid hx
  have HW1 := Lib.hid hw1
  have HH0 := Lib.hid hI0
  have HH1 := Lib.hid hI1
  clear h h1 h1' t1 hx hw1 hI0 hI1 hA0 hA1
  go_enter Try.func26, Try.ntmps26
  go_upto_region 1 with fail
  change Code.wp _ _ _ _ (w.setCell ⟨g, k * 13, none⟩ (.int .i64 (x + 1000)))
  rw [← HW1.out]
  clear HW1 HX c0 f0 e1
  go_wp2_with fail
  go_loopw [4] (fun s wr => ∃ i : Nat, N ≤ i + 1 ∧ i ≤ 12 ∧ s = .int .i64 (i + 1 : Nat) ∧ CntAt wr g m (fun j => if j = k then A j + 1000 else A j) (fun j t => if j = k ∧ (N : Int) ≤ t + 1 ∧ t < i then I j t + 1000 else I j t) ∧ Turns (fun i => i = g) w wr) (fun s _ => 13 - (intOf s).toNat)
  case atStart => exact ⟨N - 1, by omega, by omega, by rw [show N - 1 + 1 = N by omega], H1.out.congr (fun _ _ => rfl) (fun j t _ _ => by rw [if_neg (fun q => by omega)]), T1.out⟩
  case round =>
    obtain ⟨i, hi0, hi, rfl, hc, ht⟩ := hrel
    by_cases hlt : i < 12
    · have m0 := HH0.out i hlt
      have m1 := HH1.out i hlt
      have dlt : decide (((i + 1 : Nat) : Int) ≤ 12) = true := decide_eq_true (by omega)
      have fr := hc.free (k * 13 + 1 + i)
      have cell := hc.wi hk hlt
      have e0 : (if k = k ∧ (N : Int) ≤ i + 1 ∧ i < i then I k i + 1000 else I k i) = I k i := if_neg (fun q => by omega)
      rw [e0] at cell
      have hs := hc.setI hk hlt (I k i + 1000)
      have hs' := hs.congr (A' := fun j => if j = k then A j + 1000 else A j) (I' := fun j t => if j = k ∧ (N : Int) ≤ t + 1 ∧ t < i + 1 then I j t + 1000 else I j t) (fun _ _ => rfl) (fun j t _ _ => by
        show (if j = k ∧ t = i then I k i + 1000 else if j = k ∧ (N : Int) ≤ t + 1 ∧ t < i then I j t + 1000 else I j t) = if j = k ∧ (N : Int) ≤ t + 1 ∧ t < i + 1 then I j t + 1000 else I j t
        by_cases e : j = k
        · subst e
          by_cases e2 : t = i
          · subst e2; rw [if_pos ⟨rfl, rfl⟩, if_pos ⟨rfl, by omega, by omega⟩]
          · rw [if_neg (fun q => e2 q.2)]
            by_cases e3 : (N : Int) ≤ t + 1 ∧ t < i
            · rw [if_pos ⟨rfl, e3⟩, if_pos ⟨rfl, e3.1, by omega⟩]
            · rw [if_neg (fun q => e3 q.2), if_neg (fun q => e3 ⟨q.2.1, by have := q.2.2; omega⟩)]
        · rw [if_neg (fun q => e q.1), if_neg (fun q => e q.1), if_neg (fun q => e q.1)])
      have ht' := Turns.setCell (S := fun i => i = g) ht (p := ⟨g, k * 13 + 1 + i, none⟩) (fun _ => rfl) (.int .i64 (I k i + 1000))
      obtain ⟨z, hz⟩ : ∃ z, z = I k i := ⟨_, rfl⟩
      rw [← hz] at m0 m1 hs' ht' cell
      have f1 : wrap64 (z + 1000) = z + 1000 := by unfold wrap64; omega
      have f2 : wrap64 (((i + 1 : Nat) : Int) - 1) = (i : Int) := by unfold wrap64; omega
      have f3 : wrap64 ((i : Int) + 1 - 1) = (i : Int) := by unfold wrap64; omega
      have HS := Lib.hid hs'
      have HT := Lib.hid ht'
      clear hs hs' ht' hz hc ht m0 m1 e0
      go_wp2_with fail
      go_region
      all_goals go_wp2
      all_goals exact ⟨⟨i + 1, by omega, by omega, by go_num, HS.out, HT.out.drew⟩, by simp [intOf]; omega⟩
    · have dlt : decide (((i + 1 : Nat) : Int) ≤ 12) = false := decide_eq_false (by omega)
      go_wp2
      obtain rfl : i = 12 := by omega
      exact bodyPost_end (results_none Try.results26 _ _ _) rfl ⟨rfl, hc.congr (fun _ _ => rfl) (fun j t _ ht2 => by
        show (if j = k ∧ (N : Int) ≤ t + 1 ∧ t < 12 then I j t + 1000 else I j t) = if j = k ∧ (N : Int) ≤ t + 1 then I j t + 1000 else I j t
        by_cases e : j = k ∧ (N : Int) ≤ t + 1
        · rw [if_pos ⟨e.1, e.2, ht2⟩, if_pos e]
        · rw [if_neg (fun q => e ⟨q.1, q.2.1⟩), if_neg e]), ht⟩
end Go.Proofs.Ytfhpodeppmnopaa
