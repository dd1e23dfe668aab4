/-
  The law on next targets. Conditions: none.
-/
import Derived.Test.YtgkocmljnoambaaDoorRfNext
namespace Go.Proofs.YtgkocmljnoambaaDoor
open Go.RowKit

theorem three_pos {v f : Nat} (h : LZ v f) (hf : f < 32) : 65536 ≤ three v f := by
  have h1 := h.stop hf
  unfold three dgz
  rw [if_pos hf]
  generalize dg v f = d at h1 ⊢
  omega
theorem lz_less {v f : Nat} (h : LZ v f) (hv : v < top) (h1 : 1 ≤ v) : f < 32 := by
  rcases Nat.lt_or_ge f 32 with h2 | h2
  · exact h2
  · have h3 := h.small hv
    have hle := h.le
    rw [show 32 - f = 0 by omega] at h3
    omega
theorem bits_back {v f : Nat} (hv : v < top) (h1 : 1 ≤ v) (h : LZ v f) : bitsM (bitsR v f) < 8388608 ∧ bitsV (bitsR v f) ≠ 0 := by
  have hf := lz_less h hv h1
  have h3 := three_lt v f
  have h4 := three_pos h hf
  obtain ⟨_, v2⟩ := three_val hv h
  obtain ⟨t, ht⟩ : ∃ t, three v f = t := ⟨_, rfl⟩
  rw [ht] at h3 h4 v2
  have key : ∀ e m, m < 8388608 → m ≠ 0 → (e < 3 → m / 256 ^ (3 - e) ≠ 0) → bitsM (e * 16777216 + m) < 8388608 ∧ bitsV (e * 16777216 + m) ≠ 0 := by
    intro e m hm k1 k2
    unfold bitsV bitsE bitsM
    rw [show (e * 16777216 + m) / 16777216 = e by omega, show (e * 16777216 + m) % 16777216 = m by omega]
    refine ⟨hm, ?_⟩
    split
    · exact Nat.pos_iff_ne_zero.1 (Nat.mul_pos (Nat.pos_of_ne_zero k1) (Nat.pow_pos (by omega)))
    · exact k2 (by omega)
  unfold bitsR
  rw [ht]
  split
  · refine key _ _ (by omega) (by omega) ?_
    intro he
    obtain rfl : f = 31 := by omega
    show t / 256 / 256 ≠ 0
    omega
  · refine key _ _ (by omega) (by omega) ?_
    intro he
    rw [v2 (by omega), show 3 - (32 - f) = f - 29 by omega, Nat.mul_div_cancel _ (Nat.pow_pos (by omega))]
    omega
theorem bits_target {v f : Nat} (h1 : 1 ≤ v) (hl : v ≤ limitN) (h : LZ v f) : tgtB (bitsR v f) = true := by
  have hv : v < top := Nat.lt_of_le_of_lt hl limit_lt
  obtain ⟨k1, k2⟩ := bits_back hv h1 h
  have k3 := bits_below hv h
  unfold tgtB expN
  rw [decide_eq_true_eq, if_pos (by omega)]
  exact ⟨k1, k2, by omega⟩
theorem next_target (bs : Nat) (s : Int) : tgtB (nextN bs s) = true ∧ nextN bs s < 4294967296 := by
  unfold nextN
  split
  · obtain ⟨k1, k2⟩ := holdN_in (scaleN (tgtN bs) (clampS s) 4800)
    exact ⟨bits_target k1 k2 (lzOf_is _), bitsR_lt _ _⟩
  · refine ⟨?_, by omega⟩
    unfold tgtB
    rw [exp_limit, decide_eq_true_eq]
    exact ⟨by unfold bitsM; omega, limit_pos, Nat.le_refl _⟩
set_option maxRecDepth 100000 in
set_option maxHeartbeats 6400000 in
theorem nexts_law (bs : Nat) (s h : Int) (w : World) (hb : bs < 4294967296) (hh : h ≤ 9223372036854775807) :
    Calls Tryd.prog 5 #[.int .u32 (bs : Int), .int .i64 s, .int .i64 h] w fun e w' => e = .returned (.bool true) ∧ Below w.heap.size w w' := by
  obtain ⟨q, hq⟩ : ∃ q, q = nextN bs s := ⟨_, rfl⟩
  obtain ⟨k1, k2⟩ := next_target bs s
  rw [← hq] at k1 k2
  obtain ⟨tn, htn⟩ : ∃ tn, tn = tgtN q := ⟨_, rfl⟩
  have he : tgtErr q = .int .i64 0 := by unfold tgtErr; rw [if_pos k1]
  have C1 := Lib.hid (fun W => next_any bs s W hb)
  have C3 := Lib.hid (fun W => refNext_any bs s W hb)
  rw [← hq] at C1 C3
  have C2 := Lib.hid (fun W => target_any q W k2)
  rw [← htn, he] at C2
  unfold numV at C2
  have CA := Lib.hid (awake_any w)
  clear hq k1 k2 htn he
  go_enter Tryd.func5, Tryd.ntmps5
  go_wp2_with fail
  refine CA.out.mono ?_
  rintro e w1 ⟨rfl, hb1⟩
  have HB := Lib.hid hb1
  clear hb1 CA
  by_cases hbig : 1000000 < h
  · have C4 := Lib.hid (fun W => subsidy_any 1000000 W (by omega))
    have C5 := Lib.hid (fun W => refSubsidy_any 1000000 W (by omega))
    obtain ⟨sb, hsb⟩ : ∃ sb, sb = subN 1000000 := ⟨_, rfl⟩
    rw [← hsb] at C4 C5
    clear hsb
    go_upto_region 6 with fail
    refine (C1.out _).mono ?_
    rintro e w2 ⟨rfl, hb2⟩
    have bb := HB.out.trans (hb2.mono HB.out.size)
    clear HB hb2
    have HB := Lib.hid bb
    clear bb
    go_upto_region 6 with fail
    go_upto_region 7 with fail
    refine (C2.out _).mono ?_
    rintro e w3 ⟨rfl, hb3⟩
    have bb := HB.out.trans (hb3.mono HB.out.size)
    have z8 := zero_row w3 24
    have b8 := below_setRow (g := w3.heap.size) (bb.alloc (o := .cells zeroA 24) bb.size) bb.size (numA tn)
    clear HB hb3 bb
    have Z8 := Lib.hid z8
    have HB := Lib.hid b8
    clear z8 b8
    go_upto_region 7 with (refine wpList_store_irow rfl 24 (.tmp 8) (.tmp 20) rfl (g := w3.heap.size) (t := 24) (k := .u8) (xs := num 0) (ys := num tn) rfl rfl Z8.out (size_numN tn) (same_length _ _) ?_)
    change Code.wp _ _ _ _ ((w3.alloc (.cells zeroA 24)).setRow w3.heap.size (numA tn))
    obtain ⟨w4, hw4⟩ : ∃ w4, w4 = (w3.alloc (.cells zeroA 24)).setRow w3.heap.size (numA tn) := ⟨_, rfl⟩
    rw [← hw4] at HB ⊢
    clear hw4 Z8
    try dsimp only [Act.put]
    go_wp2_with fail
    refine (C3.out _).mono ?_
    rintro e w5 ⟨rfl, hb5⟩
    have HF := Lib.hid (HB.out.trans (hb5.mono HB.out.size))
    clear hb5
    go_wp2_with fail
    refine (C4.out _).mono ?_
    rintro e w6 ⟨rfl, rfl⟩
    go_wp2_with fail
    refine (C5.out _).mono ?_
    rintro e w6 ⟨rfl, rfl⟩
    go_wp2_with fail
    go_ret
    exact ⟨rfl, HF.out⟩
  · have C4 := Lib.hid (fun W => subsidy_any h W hh)
    have C5 := Lib.hid (fun W => refSubsidy_any h W (by omega))
    obtain ⟨sb, hsb⟩ : ∃ sb, sb = subN h := ⟨_, rfl⟩
    rw [← hsb] at C4 C5
    clear hsb
    go_upto_region 6 with fail
    refine (C1.out _).mono ?_
    rintro e w2 ⟨rfl, hb2⟩
    have bb := HB.out.trans (hb2.mono HB.out.size)
    clear HB hb2
    have HB := Lib.hid bb
    clear bb
    go_upto_region 6 with fail
    go_upto_region 7 with fail
    refine (C2.out _).mono ?_
    rintro e w3 ⟨rfl, hb3⟩
    have bb := HB.out.trans (hb3.mono HB.out.size)
    have z8 := zero_row w3 24
    have b8 := below_setRow (g := w3.heap.size) (bb.alloc (o := .cells zeroA 24) bb.size) bb.size (numA tn)
    clear HB hb3 bb
    have Z8 := Lib.hid z8
    have HB := Lib.hid b8
    clear z8 b8
    go_upto_region 7 with (refine wpList_store_irow rfl 24 (.tmp 8) (.tmp 20) rfl (g := w3.heap.size) (t := 24) (k := .u8) (xs := num 0) (ys := num tn) rfl rfl Z8.out (size_numN tn) (same_length _ _) ?_)
    change Code.wp _ _ _ _ ((w3.alloc (.cells zeroA 24)).setRow w3.heap.size (numA tn))
    obtain ⟨w4, hw4⟩ : ∃ w4, w4 = (w3.alloc (.cells zeroA 24)).setRow w3.heap.size (numA tn) := ⟨_, rfl⟩
    rw [← hw4] at HB ⊢
    clear hw4 Z8
    try dsimp only [Act.put]
    go_wp2_with fail
    refine (C3.out _).mono ?_
    rintro e w5 ⟨rfl, hb5⟩
    have HF := Lib.hid (HB.out.trans (hb5.mono HB.out.size))
    clear hb5
    go_wp2_with fail
    refine (C4.out _).mono ?_
    rintro e w6 ⟨rfl, rfl⟩
    go_wp2_with fail
    refine (C5.out _).mono ?_
    rintro e w6 ⟨rfl, rfl⟩
    go_wp2_with fail
    go_ret
    exact ⟨rfl, HF.out⟩
end Go.Proofs.YtgkocmljnoambaaDoor
