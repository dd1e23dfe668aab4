/-
  The program's Throw and Choose. Conditions: at most nineteen coins.
-/
import Derived.Test.YtammeedmccblcaaCsTw
import Derived.Test.YtammeedmccblcaaCsSel
namespace Go.Proofs.Ytammeedmccblcaa.Cs
open Go.RowKit

def chooseR (need extra tries seed : Int) (H : List Cn) (tot : Int) : Int × List Cn := if (branchR need extra tries.toNat H tot).1 = 0 then (0, (branchR need extra tries.toNat H tot).2) else throwR rollF need tries seed H
set_option maxRecDepth 100000 in
set_option maxHeartbeats 6400000 in
theorem chose_any (B : Nat) (need extra rate seed tot : Int) (t : Nat) (H : List Cn) (u : Value) (w : World) (hu : CnR w B u H) (hB : B ≤ w.heap.size) (hp : Pos H) (hs : sumD H ≤ 2100000000000000) (hl : H.length ≤ 400) (hn0 : 0 ≤ need) (hn1 : need ≤ 9223372036854775807) (ht : t ≤ 100000) (htot : tot = sumD H) :
    Calls Try.prog 36 #[.agg (hnC (tkC need extra rate (t : Int) seed) u tot).toArray] w fun e w' => ∃ v, e = .returned (.tuple #[v, .int .i64 (chooseR need extra t seed H tot).1]) ∧ CnR w' w'.heap.size v (chooseR need extra t seed H tot).2 ∧ Below w.heap.size w w' := by
  obtain ⟨R, hR⟩ : ∃ z, z = chooseR need extra t seed H tot := ⟨_, rfl⟩
  rw [← hR]
  unfold chooseR at hR
  rw [show ((t : Int)).toNat = t from rfl] at hR
  obtain ⟨A, c, rfl, hlc, hcm⟩ := hu.form
  obtain ⟨w1, hw1⟩ : ∃ z, z = w.alloc (.cells #[.int .i64 need, .int .i64 extra, .int .i64 rate, .int .i64 (t : Int), .int .u64 seed, .slice A H.length c, .int .i64 tot] 60) := ⟨_, rfl⟩
  have hb1 : Below w.heap.size w w1 := by rw [hw1]; exact (Below.refl _ _).alloc (Nat.le_refl _) _
  have hv1 : VRow w1 w.heap.size 60 [.int .i64 need, .int .i64 extra, .int .i64 rate, .int .i64 (t : Int), .int .u64 seed, .slice A H.length c, .int .i64 tot] := by rw [hw1]; exact VRow.new _ _ _
  have hbr := branch_any B need extra rate seed tot t H (.slice A H.length c) w1 (hu.below (hb1.mono hB)) (Nat.le_trans hB hb1.size) hp hs (by omega) hn0 hn1 ht htot
  have hth := fun W (hb : Below w.heap.size w W) => thrown_any B need extra rate (t : Int) seed tot H (.slice A H.length c) W (hu.below (hb.mono hB)) (Nat.le_trans hB hb.size) hp hs hl (by omega)
  obtain ⟨BR, hBR⟩ : ∃ z, z = branchR need extra t H tot := ⟨_, rfl⟩
  obtain ⟨TR, hTR⟩ : ∃ z, z = throwR rollF need (t : Int) seed H := ⟨_, rfl⟩
  rw [← hBR, ← hTR] at hR
  rw [← hBR] at hbr
  simp only [← hTR] at hth
  obtain ⟨G0, hG0⟩ : ∃ z, z = w.heap.size := ⟨_, rfl⟩
  rw [← hG0] at hv1
  have HR := Lib.hid hR
  have HBR := Lib.hid hbr
  have HTH := Lib.hid hth
  have HV1 := Lib.hid hv1
  have HB1 := Lib.hid hb1
  have HW1 := Lib.hid hw1
  have HG0 := Lib.hid hG0
  clear hR hbr hth hv1 hb1 hw1 hG0 hBR hTR hu hB hp hs hl hn0 hn1 ht htot
  unfold tkC hnC at HBR HTH
  unfold tkC hnC
  go_enter Try.func36, Try.ntmps36
  go_upto_region 1 with fail
  change Code.wp _ _ _ _ (w.alloc (.cells #[.int .i64 need, .int .i64 extra, .int .i64 rate, .int .i64 (t : Int), .int .u64 seed, .slice A _ c, .int .i64 tot] 60))
  rw [← HW1.out, ← HG0.out]
  go_upto_region 2 with (first
    | (refine wpList_load_vrow rfl 60 (.tmp 1) rfl rfl HV1.out Try.underlying60 (by kernel_rfl) ?_)
    | (go_at_call 32; refine HBR.out.mono ?_; rintro e w2 ⟨vb, rfl, hvb, hb2⟩))
  obtain ⟨Ab, cb, rfl, _, _⟩ := RowR.form hvb
  have V2 := Lib.hid (HV1.out.below hb2 HV1.out.lt)
  have B2 := Lib.hid (HB1.out.trans (hb2.mono HB1.out.size))
  have HVB := Lib.hid hvb
  have HT2 := Lib.hid (HTH.out w2 B2.out)
  clear hvb hb2 HBR HTH
  by_cases he : BR.1 = 0
  · as_aux_lemma =>
    have d1 : decide (BR.1 = 0) = true := decide_eq_true he
    have d2 : (BR.1 == 0) = true := beq_iff_eq.2 he
    have hRe : R = (0, BR.2) := by rw [HR.out, if_pos he]
    clear HR he
    subst hRe
    go_wp2_with fail
    go_ret2
    exact ⟨_, rfl, HVB.out, B2.out⟩
  · as_aux_lemma =>
    have d1 : decide (BR.1 = 0) = false := decide_eq_false he
    have d2 : (BR.1 == 0) = false := beq_eq_false_iff_ne.2 he
    have hRe : R = TR := by rw [HR.out, if_neg he]
    clear HR he
    subst hRe
    have hV2 := V2.out
    go_wp2_with (first
      | (refine wpList_load_vrow rfl 60 (.tmp 1) rfl rfl hV2 Try.underlying60 (by kernel_rfl) ?_)
      | (go_at_call 34; refine HT2.out.mono ?_; rintro e w3 ⟨vt, rfl, hvt, hb3⟩))
    go_ret2
    exact ⟨vt, rfl, hvt, B2.out.trans (hb3.mono B2.out.size)⟩
theorem choose_len (need extra tries seed : Int) (H : List Cn) (tot : Int) (hp : Pos H) : (chooseR need extra tries seed H tot).2.length ≤ H.length + H.length + 1 := by
  unfold chooseR
  split
  · exact Nat.le_trans (branch_len _ _ _ _ _) (by omega)
  · exact throw_len _ _ _ _ _ hp
def ThrowF (need rate tries seed : Int) (l : List (Int × Int)) : Int × List Nat := selF rate l (throwR rollF (lowF need) (triesF tries) seed (handF rate l))
def ChooseF (need extra rate tries seed : Int) (l : List (Int × Int)) : Int × List Nat := selF rate l (chooseR (lowF need) (lowF extra) (triesF tries) seed (handF rate l) (sumD (handF rate l)))
set_option maxRecDepth 100000 in
set_option maxHeartbeats 1600000 in
theorem Throw_any (B : Nat) (v : Value) (l : List (Int × Int)) (need extra rate tries seed : Int) (w : World) (hX : CrR w B v l) (hB : B ≤ w.heap.size) (hl : l.length ≤ 19) (hc : CoinsOk l) (hn : need ≤ 9223372036854775807) :
    Calls Try.prog 18 #[v, .agg (tkC need extra rate tries seed).toArray] w fun e w' => ∃ p, e = .returned (.tuple #[p, .int .i64 (ThrowF need rate tries seed l).1]) ∧ PlR w' w'.heap.size p (ThrowF need rate tries seed l).2 ∧ Below w.heap.size w w' := by
  have hh := handF_length rate l
  have ht := triesF_bd tries
  have htn : ((triesF tries).toNat : Int) = triesF tries := Int.toNat_of_nonneg ht.1
  have hsel := fun W (hb : Below B w W) => selected_any 34 (enters_of Try.func34 (by kernel_rfl) rfl) (throwR rollF (lowF need) (triesF tries) seed (handF rate l)) (Nat.le_trans (throw_len _ _ _ _ _ (handF_pos rate l)) (by omega)) B v l need extra rate tries seed W (hX.below hb) (Nat.le_trans hB hb.size) hl hc (fun u W hu hs => thrown_any W.heap.size (lowF need) (lowF extra) rate (triesF tries) seed (sumD (handF rate l)) (handF rate l) u W hu (Nat.le_refl _) (handF_pos rate l) hs (by omega) ht.1)
  have hbA : ∀ O, Below w.heap.size w (w.alloc O) := fun O => (Below.refl _ _).alloc (Nat.le_refl _) _
  unfold ThrowF
  obtain ⟨R, hR⟩ : ∃ z, z = selF rate l (throwR rollF (lowF need) (triesF tries) seed (handF rate l)) := ⟨_, rfl⟩
  simp only [← hR] at hsel ⊢
  obtain ⟨A, c, rfl, _, _⟩ := hX.form
  have HS := Lib.hid hsel
  have HB := Lib.hid hB
  clear hsel hX hB hl hc hh hR htn ht
  unfold fnV tkC at HS
  unfold tkC
  go_enter Try.func18, Try.ntmps18
  go_wp2_with (first
    | (go_at_call 27; refine (HS.out _ ((hbA _).mono HB.out)).mono ?_; rintro e w1 ⟨p, rfl, hp, hb1⟩))
  go_ret2
  exact ⟨p, rfl, hp, (hbA _).trans (hb1.mono (by simp))⟩
set_option maxRecDepth 100000 in
set_option maxHeartbeats 1600000 in
theorem Choose_any (B : Nat) (v : Value) (l : List (Int × Int)) (need extra rate tries seed : Int) (w : World) (hX : CrR w B v l) (hB : B ≤ w.heap.size) (hl : l.length ≤ 19) (hc : CoinsOk l) (hn : need ≤ 9223372036854775807) :
    Calls Try.prog 20 #[v, .agg (tkC need extra rate tries seed).toArray] w fun e w' => ∃ p, e = .returned (.tuple #[p, .int .i64 (ChooseF need extra rate tries seed l).1]) ∧ PlR w' w'.heap.size p (ChooseF need extra rate tries seed l).2 ∧ Below w.heap.size w w' := by
  have hh := handF_length rate l
  have ht := triesF_bd tries
  have htn : ((triesF tries).toNat : Int) = triesF tries := Int.toNat_of_nonneg ht.1
  have hsel := fun W (hb : Below B w W) => selected_any 36 (enters_of Try.func36 (by kernel_rfl) rfl) (chooseR (lowF need) (lowF extra) (triesF tries) seed (handF rate l) (sumD (handF rate l))) (Nat.le_trans (choose_len _ _ _ _ _ _ (handF_pos rate l)) (by omega)) B v l need extra rate tries seed W (hX.below hb) (Nat.le_trans hB hb.size) hl hc (fun u W hu hs => by
    have q := chose_any W.heap.size (lowF need) (lowF extra) rate seed (sumD (handF rate l)) (triesF tries).toNat (handF rate l) u W hu (Nat.le_refl _) (handF_pos rate l) hs (by omega) (lowF_bd need) (low_max hn) (by omega) rfl
    rw [htn] at q
    exact q)
  have hbA : ∀ O, Below w.heap.size w (w.alloc O) := fun O => (Below.refl _ _).alloc (Nat.le_refl _) _
  unfold ChooseF
  obtain ⟨R, hR⟩ : ∃ z, z = selF rate l (chooseR (lowF need) (lowF extra) (triesF tries) seed (handF rate l) (sumD (handF rate l))) := ⟨_, rfl⟩
  simp only [← hR] at hsel ⊢
  obtain ⟨A, c, rfl, _, _⟩ := hX.form
  have HS := Lib.hid hsel
  have HB := Lib.hid hB
  clear hsel hX hB hl hc hh hR htn ht
  unfold fnV tkC at HS
  unfold tkC
  go_enter Try.func20, Try.ntmps20
  go_wp2_with (first
    | (go_at_call 27; refine (HS.out _ ((hbA _).mono HB.out)).mono ?_; rintro e w1 ⟨p, rfl, hp, hb1⟩))
  go_ret2
  exact ⟨p, rfl, hp, (hbA _).trans (hb1.mono (by simp))⟩
end Go.Proofs.Ytammeedmccblcaa.Cs
