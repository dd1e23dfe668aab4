/-
  The reference's Choose. Conditions: at most 19 coins.
-/
import Derived.Test.YtammeedmccblcaaCsRthr
namespace Go.Proofs.Ytammeedmccblcaa.Cs
open Go.RowKit

theorem choose_parts (need extra rate tries seed : Int) (l : List (Int × Int)) : ChooseF need extra rate tries seed l = if (BranchF need extra rate tries l).1 = 0 then BranchF need extra rate tries l else ThrowF need rate tries seed l := by
  unfold ChooseF BranchF ThrowF selF chooseR
  by_cases hs : sumD (handF rate l) ≤ 2100000000000000
  · simp only [if_pos hs]
    by_cases h : (branchR (lowF need) (lowF extra) (triesF tries).toNat (handF rate l) (sumD (handF rate l))).1 = 0
    · simp [h]
    · simp [h]
  · simp only [if_neg hs]
    simp
set_option maxRecDepth 100000 in
set_option maxHeartbeats 6400000 in
theorem rchoose_any (B : Nat) (v : Value) (l : List (Int × Int)) (need extra rate tries seed : Int) (w : World) (hX : CrR w B v l) (hB : B ≤ w.heap.size) (hl : l.length ≤ 19) (hc : CoinsOk l) :
    Calls Try.prog 21 #[v, .agg (tkC need extra rate tries seed).toArray] w fun e w' => ∃ p, e = .returned (.tuple #[p, .int .i64 (ChooseF need extra rate tries seed l).1]) ∧ PlR w' w'.heap.size p (ChooseF need extra rate tries seed l).2 ∧ Below w.heap.size w w' := by
  have hbr := fun W (hb : Below w.heap.size w W) => rbranch_any B v l need extra rate tries seed W (RowR.below hX (hb.mono hB)) (Nat.le_trans hB hb.size) hl hc
  have hth := fun W (hb : Below w.heap.size w W) => rthrow_any B v l need extra rate tries seed W (RowR.below hX (hb.mono hB)) (Nat.le_trans hB hb.size) hl hc
  have hpt := choose_parts need extra rate tries seed l
  obtain ⟨R, hR⟩ : ∃ z, z = ChooseF need extra rate tries seed l := ⟨_, rfl⟩
  obtain ⟨BR, hBR⟩ : ∃ z, z = BranchF need extra rate tries l := ⟨_, rfl⟩
  obtain ⟨TR, hTR⟩ : ∃ z, z = ThrowF need rate tries seed l := ⟨_, rfl⟩
  rw [← hR, ← hBR, ← hTR] at hpt
  rw [← hR]
  simp only [← hBR] at hbr
  simp only [← hTR] at hth
  obtain ⟨A, c, rfl, _, _⟩ := RowR.form hX
  obtain ⟨w1, hw1⟩ : ∃ z, z = w.alloc (.cells #[.int .i64 need, .int .i64 extra, .int .i64 rate, .int .i64 tries, .int .u64 seed] 25) := ⟨_, rfl⟩
  have hb1 : Below w.heap.size w w1 := by rw [hw1]; exact (Below.refl _ _).alloc (Nat.le_refl _) _
  have hv1 : VRow w1 w.heap.size 25 [.int .i64 need, .int .i64 extra, .int .i64 rate, .int .i64 tries, .int .u64 seed] := by rw [hw1]; exact VRow.new _ _ _
  obtain ⟨G0, hG0⟩ : ∃ z, z = w.heap.size := ⟨_, rfl⟩
  rw [← hG0] at hv1
  have HPT := Lib.hid hpt
  have HBR := Lib.hid (hbr w1 hb1)
  have HTH := Lib.hid hth
  have HV1 := Lib.hid hv1
  have HB1 := Lib.hid hb1
  have HW1 := Lib.hid hw1
  have HG0 := Lib.hid hG0
  clear hbr hth hpt hv1 hb1 hw1 hG0 hX hB hl hc hR hBR hTR
  unfold tkC at HBR HTH ⊢
  go_enter Try.func21, Try.ntmps21
  go_upto_region 1 with fail
  change Code.wp _ _ _ _ (w.alloc (.cells #[.int .i64 need, .int .i64 extra, .int .i64 rate, .int .i64 tries, .int .u64 seed] 25))
  rw [← HW1.out, ← HG0.out]
  go_upto_region 2 with (first
    | (refine wpList_load_vrow rfl 25 (.tmp 3) rfl rfl HV1.out Try.underlying25 rtsk5 ?_)
    | (go_at_call 17; refine HBR.out.mono ?_; rintro e w2 ⟨pb, rfl, hpb, hb2⟩))
  have V2 := HV1.out.below hb2 HV1.out.lt
  have B2 := Lib.hid (HB1.out.trans (hb2.mono HB1.out.size))
  have HPB := Lib.hid hpb
  have HT2 := Lib.hid (HTH.out w2 B2.out)
  clear hpb hb2 HBR HTH
  by_cases he : BR.1 = 0
  · as_aux_lemma =>
    have d1 : decide (BR.1 = 0) = true := decide_eq_true he
    have d2 : (BR.1 == 0) = true := beq_iff_eq.2 he
    have hRe : R = BR := by rw [HPT.out, if_pos he]
    clear HPT he
    subst hRe
    go_wp2_with fail
    go_ret2
    exact ⟨pb, rfl, HPB.out, B2.out⟩
  · as_aux_lemma =>
    have d1 : decide (BR.1 = 0) = false := decide_eq_false he
    have d2 : (BR.1 == 0) = false := beq_eq_false_iff_ne.2 he
    have hRe : R = TR := by rw [HPT.out, if_neg he]
    clear HPT he
    subst hRe
    go_wp2_with (first
      | (refine wpList_load_vrow rfl 25 (.tmp 3) rfl rfl V2 Try.underlying25 rtsk5 ?_)
      | (go_at_call 19; refine HT2.out.mono ?_; rintro e w3 ⟨pt, rfl, hpt, hb3⟩))
    go_ret2
    exact ⟨pt, rfl, hpt, B2.out.trans (hb3.mono B2.out.size)⟩
end Go.Proofs.Ytammeedmccblcaa.Cs
