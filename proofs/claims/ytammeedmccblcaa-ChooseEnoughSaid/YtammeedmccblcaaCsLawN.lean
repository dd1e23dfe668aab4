/-
  The law ChooseEnough. Conditions: the coins' numbers are int64 (they came so).
-/
import Derived.Test.YtammeedmccblcaaCsLawF
import Derived.Test.YtammeedmccblcaaCsEnP
namespace Go.Proofs.Ytammeedmccblcaa.Cs
open Go.RowKit

def lastI (ps : List Nat) : Int := match ps.getLast? with | some p => (p : Int) | none => -1
theorem last_next {ps : List Nat} {j p : Nat} (h : ps[j]? = some p) : lastI (ps.take (j + 1)) = (p : Int) := by
  unfold lastI
  rw [List.take_add_one, h, Option.toList_some, List.getLast?_concat]
theorem last_lt {ps : List Nat} {j p : Nat} (hr : ps.Pairwise (· < ·)) (h : ps[j]? = some p) : lastI (ps.take j) < (p : Int) := by
  unfold lastI
  cases hl : (ps.take j).getLast? with
  | none => show (-1 : Int) < _; omega
  | some q =>
    have hq : q ∈ ps.take j := List.mem_of_getLast? hl
    have hs : (ps.take j ++ p :: ps.drop (j + 1)).Pairwise (· < ·) := by
      have e : ps.take j ++ p :: ps.drop (j + 1) = ps := by
        obtain ⟨hj, rfl⟩ := List.getElem?_eq_some_iff.1 h
        rw [← List.drop_eq_getElem_cons hj, List.take_append_drop]
      rw [e]
      exact hr
    have := (List.pairwise_append.1 hs).2.2 q hq p List.mem_cons_self
    show (q : Int) < p
    omega
theorem Ints.at_lt {k : IntKind} {w : World} {B : Nat} {v : Value} {xs : List Int} (h : Ints k w B v xs) {i : Nat} {x : Int} (hi : xs[i]? = some x) : ∃ b o c, v = .slice (some ⟨b, o, none⟩) xs.length c ∧ b < B ∧ w.cell? ⟨b, o + i, none⟩ = some (.int k x) := by
  obtain ⟨A, c, hv, h3, h4, h5, h6⟩ := h
  obtain ⟨b, o, e, hlt, hc⟩ := h6 (by rintro rfl; simp at hi)
  exact ⟨b, o, c, by rw [hv, e], hlt, hc i x hi⟩
set_option maxRecDepth 100000 in
set_option maxHeartbeats 6400000 in
theorem enough_law (B : Nat) (v : Value) (l : List (Int × Int)) (need extra rate tries seed : Int) (w : World) (hX : CrR w B v l) (hB : B ≤ w.heap.size) (hc : CoinsOk l) (hn : need ≤ 9223372036854775807) :
    Calls Try.prog 6 #[v, .agg (tkC need extra rate tries seed).toArray] w fun r w' => r = .returned (.bool true) ∧ Below w.heap.size w w' := by
  have hlen : (l.take 14).length ≤ 14 := by rw [List.length_take]; omega
  have hcl : CoinsOk (l.take 14) := fun c h => hc c (List.mem_of_mem_take h)
  have hfew := fun W (hb : Below w.heap.size w W) => few_any B v l need extra rate tries seed W (RowR.below hX (hb.mono hB)) (Nat.le_trans hB hb.size)
  obtain ⟨A, c, rfl, _, _⟩ := RowR.form hX
  obtain ⟨l', hl'⟩ : ∃ z, z = l.take 14 := ⟨_, rfl⟩
  obtain ⟨t', ht'⟩ : ∃ z, z = fewT tries := ⟨_, rfl⟩
  simp only [← hl', ← ht'] at hfew hlen hcl
  have hown := fun (v : Value) (W : World) (hX : CrR W B v l') (hB : B ≤ W.heap.size) => own_any B v l' need extra rate t' seed W hX hB hlen
  have hf0 := fun (B : Nat) (v : Value) (W : World) (hX : CrR W B v l') (hB : B ≤ W.heap.size) => Largest_any B v l' need extra rate t' seed W hX hB (by omega) hcl
  have hf1 := fun (B : Nat) (v : Value) (W : World) (hX : CrR W B v l') (hB : B ≤ W.heap.size) => Branch_any B v l' need extra rate t' seed W hX hB (by omega) hcl hn
  have hf2 := fun (B : Nat) (v : Value) (W : World) (hX : CrR W B v l') (hB : B ≤ W.heap.size) => Throw_any B v l' need extra rate t' seed W hX hB (by omega) hcl hn
  have hf3 := fun (B : Nat) (v : Value) (W : World) (hX : CrR W B v l') (hB : B ≤ W.heap.size) => Choose_any B v l' need extra rate t' seed W hX hB (by omega) hcl hn
  have hg0 : sumD (handF rate l') ≤ 2100000000000000 → ((LargestF need rate l').1 = 0 ∧ ∃ t, Fine rate l' (LargestF need rate l').2 t ∧ lowF need ≤ t ∧ t ≤ 2100000000000000) ∨ ((LargestF need rate l').1 = 16 ∧ sumD (handF rate l') < lowF need) := fun hs => sel_good (large_good (lowF need) (handF rate l')) hs
  have hg1 : sumD (handF rate l') ≤ 2100000000000000 → ((BranchF need extra rate t' l').1 = 0 ∧ ∃ t, Fine rate l' (BranchF need extra rate t' l').2 t ∧ lowF need ≤ t ∧ t - lowF need ≤ lowF extra ∧ t ≤ 2100000000000000) ∨ (BranchF need extra rate t' l').1 = 7 := fun hs => sel_goodB (branch_good (lowF need) (lowF extra) (triesF t').toNat (handF rate l') (sumD (handF rate l'))) hs
  have hg2 : sumD (handF rate l') ≤ 2100000000000000 → ((ThrowF need rate t' seed l').1 = 0 ∧ ∃ t, Fine rate l' (ThrowF need rate t' seed l').2 t ∧ lowF need ≤ t ∧ t ≤ 2100000000000000) ∨ ((ThrowF need rate t' seed l').1 = 16 ∧ sumD (handF rate l') < lowF need) := fun hs => sel_good (throw_good (lowF need) (triesF t') seed (handF rate l') (handF_pos rate l') hs) hs
  have hg3 : sumD (handF rate l') ≤ 2100000000000000 → ((ChooseF need extra rate t' seed l').1 = 0 ∧ ∃ t, Fine rate l' (ChooseF need extra rate t' seed l').2 t ∧ lowF need ≤ t ∧ t ≤ 2100000000000000) ∨ ((ChooseF need extra rate t' seed l').1 = 16 ∧ sumD (handF rate l') < lowF need) := fun hs => sel_good (choose_good (lowF need) (lowF extra) (triesF t') seed (handF rate l') (sumD (handF rate l')) (handF_pos rate l') hs) hs
  obtain ⟨R0, hR0⟩ : ∃ z, z = LargestF need rate l' := ⟨_, rfl⟩
  simp only [← hR0] at hf0 hg0
  obtain ⟨R1, hR1⟩ : ∃ z, z = BranchF need extra rate t' l' := ⟨_, rfl⟩
  simp only [← hR1] at hf1 hg1
  obtain ⟨R2, hR2⟩ : ∃ z, z = ThrowF need rate t' seed l' := ⟨_, rfl⟩
  simp only [← hR2] at hf2 hg2
  obtain ⟨R3, hR3⟩ : ∃ z, z = ChooseF need extra rate t' seed l' := ⟨_, rfl⟩
  simp only [← hR3] at hf3 hg3
  obtain ⟨TN, hTN⟩ : ∃ z, z = tkC need extra rate t' seed := ⟨_, rfl⟩
  obtain ⟨TK, hTK⟩ : ∃ z, z = tkC need extra rate tries seed := ⟨_, rfl⟩
  simp only [← hTN, ← hTK] at hfew hown hf0 hf1 hf2 hf3
  have hTN1 : TN.toArray.all (·.oneCell') = true := by rw [hTN]; exact rtsk_one need extra rate t' seed
  have hTNl : TN.length = 5 := by rw [hTN]; rfl
  have hTKl : TK.length = 5 := by rw [hTK]; rfl
  have hTN2 : TN[2]? = some (.int .i64 rate) := by rw [hTN]; rfl
  have hTNa : TN[0]? = some (.int .i64 need) := by rw [hTN]; rfl
  have hTNb : TN[1]? = some (.int .i64 extra) := by rw [hTN]; rfl
  have hTNc : ∀ W G, VRow W G 25 TN → W.cell? ⟨G, 0, none⟩ = some (.int .i64 need) ∧ W.cell? ⟨G, 1, none⟩ = some (.int .i64 extra) ∧ W.cell? ⟨G, 2, none⟩ = some (.int .i64 rate) := fun W G h => ⟨h.cell hTNa, h.cell hTNb, h.cell hTN2⟩
  have HTC := Lib.hid hTNc
  have HCO := Lib.hid hcl
  have hz : ∀ W, (zeroValue 30).run Try.prog W = .ok (.agg #[.int .i64 0, .int .i64 0, .int .i64 0, .int .i64 0, .int .u64 0]) W := fun W => by kernel_rfl
  have HFEW := Lib.hid hfew
  have HOWN := Lib.hid hown
  have HF0 := Lib.hid hf0
  have HG0 := Lib.hid hg0
  have HF1 := Lib.hid hf1
  have HG1 := Lib.hid hg1
  have HF2 := Lib.hid hf2
  have HG2 := Lib.hid hg2
  have HF3 := Lib.hid hf3
  have HG3 := Lib.hid hg3
  have HB := Lib.hid hB
  have HCL := Lib.hid hcl
  have HLEN := Lib.hid hlen
  have HTK := Lib.hid hTK
  have HN1 := Lib.hid hTN1
  have HNL := Lib.hid (show (Try.prog.info? 25).map (·.size) = some TN.length by rw [hTNl]; exact rtsk5)
  have HNT := Lib.hid (show (Try.prog.info? 30).map (·.size) = some TN.length by rw [hTNl]; exact tsk5)
  have HKL := Lib.hid (show (Try.prog.info? 25).map (·.size) = some TK.length by rw [hTKl]; exact rtsk5)
  have HLL := Lib.hid (show TK.length = TN.length by rw [hTKl, hTNl])
  have HL5 := Lib.hid (show [Value.int .i64 0, .int .i64 0, .int .i64 0, .int .i64 0, .int .u64 0].length = TN.length by rw [hTNl]; rfl)
  have HN2 := Lib.hid hTN2
  clear hTNc hTNa hTNb hfew hown hf0 hf1 hf2 hf3 hg0 hg1 hg2 hg3 hR0 hR1 hR2 hR3 hB hcl hlen hTK hTN1 hTNl hTKl hTN hTN2 hX hc hl' ht'
  unfold tkC at HTK ⊢
  go_enter Try.func6, Try.ntmps6
  go_upto_region 1 with fail
  obtain ⟨W1, hW1⟩ : ∃ z, z = w.alloc (.cells TK.toArray 25) := ⟨_, rfl⟩
  have hv1 : VRow W1 w.heap.size 25 TK := by rw [hW1]; exact VRow.new w _ TK
  have hb1 : Below w.heap.size w W1 := by rw [hW1]; exact (Below.refl _ _).alloc (Nat.le_refl _) _
  change Code.wp _ _ _ _ (w.alloc (.cells [Value.int .i64 need, .int .i64 extra, .int .i64 rate, .int .i64 tries, .int .u64 seed].toArray 25))
  rw [← HTK.out, ← hW1]
  obtain ⟨GT, hGT⟩ : ∃ z, z = w.heap.size := ⟨_, rfl⟩
  rw [← hGT] at hv1
  rw [← hGT]
  have HGT := Lib.hid hGT
  have HV1 := Lib.hid hv1
  have HB1 := Lib.hid hb1
  clear hv1 hb1 hW1 hGT HTK
  go_upto_region 3 with (first
    | (go_at_call 7; refine (awake_any _).mono ?_; rintro e w2 ⟨rfl, hb2⟩))
  have VT2 := Lib.hid (HV1.out.below hb2 HV1.out.lt)
  have B2 := Lib.hid (HB1.out.trans (hb2.mono HB1.out.size))
  clear hb2 HV1 HB1
  go_upto_region 4 with (first
    | (refine wpList_load_vrow rfl 25 (.tmp 3) rfl rfl VT2.out Try.underlying25 HKL.out ?_)
    | (go_at_call 8; refine (HFEW.out _ B2.out).mono ?_; rintro e w3 ⟨v', rfl, hv', hb3⟩; obtain ⟨A', c', rfl, _, _⟩ := RowR.form hv'; have VT3 := VT2.out.below hb3 VT2.out.lt)
    | (refine wpList_store_vrow rfl 25 (.tmp 3) (.tmp 27) rfl (us := TN) rfl rfl VT3 HNL.out HLL.out HN1.out ?_))
  try dsimp only [Act.put]
  obtain ⟨W4, hW4⟩ : ∃ z, z = w3.setRow GT TN.toArray := ⟨_, rfl⟩
  have V4 := Lib.hid (show VRow W4 GT 25 TN by rw [hW4]; exact VT3.setRow TN)
  have b34 : Below w.heap.size w3 W4 := by rw [hW4]; exact below_setRow (Below.refl _ _) (by have := HGT.out; omega) _
  have B4 := Lib.hid ((B2.out.trans (hb3.mono B2.out.size)).trans b34)
  have R4 := Lib.hid (RowR.below hv' (b34.mono HB.out))
  change Code.wp _ _ _ _ (w3.setRow GT TN.toArray)
  rw [← hW4]
  clear hW4 b34 hb3 VT3 VT2 B2 hv' HKL HLL
  have HB4 := Lib.hid (Nat.le_trans HB.out B4.out.size)
  have HZ := Lib.hid hz
  go_upto_region 5 with (first
    | (refine wpList_load_vrow rfl 25 (.tmp 3) rfl rfl V4.out Try.underlying25 HNL.out ?_)
    | (go_at_call 9; refine (HOWN.out _ _ R4.out HB4.out).mono ?_; rintro e w5 ⟨u, rfl, hu, hb5⟩; obtain ⟨Au, cu, rfl, _, _⟩ := RowR.form hu)
    | (refine wpList_store_vrow rfl 30 (.tmp 6) (.tmp 33) rfl (us := TN) rfl rfl (VRow.new w5 30 [Value.int .i64 0, .int .i64 0, .int .i64 0, .int .i64 0, .int .u64 0]) HNT.out HL5.out HN1.out ?_))
  try dsimp only [Act.put]
  obtain ⟨nX, hnX⟩ : ∃ z, z = l'.length := ⟨_, rfl⟩
  have b57 : Below w5.heap.size w5 ((w5.alloc (.cells #[.int .i64 0, .int .i64 0, .int .i64 0, .int .i64 0, .int .u64 0] 30)).setRow w5.heap.size TN.toArray) := below_setRow ((Below.refl _ _).alloc (Nat.le_refl _) _) (Nat.le_refl _) _
  have v7 : VRow ((w5.alloc (.cells #[.int .i64 0, .int .i64 0, .int .i64 0, .int .i64 0, .int .u64 0] 30)).setRow w5.heap.size TN.toArray) w5.heap.size 30 TN := (VRow.new w5 30 [Value.int .i64 0, .int .i64 0, .int .i64 0, .int .i64 0, .int .u64 0]).setRow TN
  obtain ⟨W7, hW7⟩ : ∃ z, z = (w5.alloc (.cells #[.int .i64 0, .int .i64 0, .int .i64 0, .int .i64 0, .int .u64 0] 30)).setRow w5.heap.size TN.toArray := ⟨_, rfl⟩
  rw [← hW7] at b57 v7
  change Code.wp _ _ _ _ ((w5.alloc (.cells #[.int .i64 0, .int .i64 0, .int .i64 0, .int .i64 0, .int .u64 0] 30)).setRow w5.heap.size TN.toArray)
  rw [← hW7]
  have b47 : Below W4.heap.size W4 W7 := hb5.trans (b57.mono hb5.size)
  have VT := Lib.hid (V4.out.below b47 V4.out.lt)
  have BW := Lib.hid (B4.out.trans (b47.mono B4.out.size))
  have RX := Lib.hid (show CrR W7 B (.slice A' l'.length c') l' from RowR.below R4.out (b47.mono HB4.out))
  have UX := Lib.hid (show CrR W7 w5.heap.size (.slice Au l'.length cu) l' from RowR.below hu b57)
  have H57 := Lib.hid b57.size
  have HB7 := Lib.hid (Nat.le_trans HB.out BW.out.size)
  obtain ⟨G6, hG6⟩ : ∃ z, z = w5.heap.size := ⟨_, rfl⟩
  rw [← hG6] at v7 UX H57 ⊢
  have V6 := Lib.hid v7
  have HNX := Lib.hid hnX
  rw [← hnX] at UX RX ⊢
  have hl := HLEN.out
  rw [← hnX] at hl
  have HL := Lib.hid hl
  clear b57 v7 hW7 b47 hb5 hu hG6 hnX V4 R4 B4 HB4 HOWN HFEW hz hl
  obtain ⟨w8, hw8⟩ : ∃ z, z = W7 := ⟨_, rfl⟩
  have HBW := Lib.hid (show Below w.heap.size w w8 by rw [hw8]; exact BW.out)
  have HRX := Lib.hid (show CrR w8 B (.slice A' nX c') l' by rw [hw8]; exact RX.out)
  have HUX := Lib.hid (show CrR w8 G6 (.slice Au nX cu) l' by rw [hw8]; exact UX.out)
  have HV8 := Lib.hid (show VRow w8 GT 25 TN by rw [hw8]; exact VT.out)
  have HV6 := Lib.hid (show VRow w8 G6 30 TN by rw [hw8]; exact V6.out)
  have HBL := Lib.hid (show B ≤ w8.heap.size ∧ G6 ≤ w8.heap.size by rw [hw8]; exact ⟨HB7.out, H57.out⟩)
  rw [← hw8]
  clear hw8 BW RX UX VT V6 HB7 H57
  go_wp2_with fail
  go_loopw [7, 36] (fun sa si wr => ∃ i : Nat, i ≤ nX ∧ si = .int .i64 (i : Int) ∧ sa = .int .i64 (sumD (dealF rate 0 (l'.take i))) ∧ Hid (sumD (dealF rate 0 (l'.take i)) ≤ 2100000000000000) ∧ Hid (Below w8.heap.size w8 wr)) (fun _ si _ => nX - (intOf si).toNat)
  case atStart => exact ⟨0, Nat.zero_le _, rfl, rfl, Lib.hid (by rw [List.take_zero]; show (0 : Int) ≤ _; omega), Lib.hid (Below.refl _ _)⟩
  case round =>
    obtain ⟨i, hi, rfl, rfl, hsm, hb9⟩ := hrel
    obtain ⟨w9, rfl⟩ : ∃ z : World, z = wr := ⟨_, rfl⟩
    have hsn : 0 ≤ sumD (dealF rate 0 (l'.take i)) := sumD_nonneg (dealF_pos rate _ 0)
    obtain ⟨a, ha⟩ : ∃ z, z = sumD (dealF rate 0 (l'.take i)) := ⟨_, rfl⟩
    rw [← ha] at hsm hsn
    rw [← ha]
    have HA := Lib.hid ha
    have V9 := Lib.hid (HV8.out.below hb9.out HV8.out.lt)
    have hcz := HTC.out _ _ V9.out
    clear ha
    have hn14 := HL.out
    by_cases hlt : i < nX
    · have di : decide ((i : Int) < (nX : Int)) = true := decide_eq_true (by omega)
      obtain ⟨x, hx⟩ : ∃ x, l'[i]? = some x := ⟨_, List.getElem?_eq_getElem (by rw [← HNX.out]; exact hlt)⟩
      have hXw : CrR w9 B (.slice A' nX c') l' := by have := HRX.out; exact RowR.below this (hb9.out.mono HBL.out.1)
      obtain ⟨b', o', k', ef, _, _, hbl, hc0, hc1⟩ := hXw.at hx
      injection ef with ef1 ef2 ef3
      subst ef1
      clear ef2 ef3
      have hcx := HCO.out x (List.mem_of_getElem? hx)
      have hwb := worth_bd rate x.1 x.2
      have hnx : sumD (dealF rate 0 (l'.take (i + 1))) = a + worthF rate x.1 x.2 := by
        rw [dealF_take rate l' hx, sumD_append, HA.out]
        unfold dealt1
        split
        · show _ + (worthF rate x.1 x.2 + 0) = _
          omega
        · show _ + 0 = _
          omega
      have hwo := fun W => rworth_any rate x.1 x.2 W hcx.1 hcx.2.1 hcx.2.2.1 hcx.2.2.2
      obtain ⟨wv, hwv⟩ : ∃ z, z = worthF rate x.1 x.2 := ⟨_, rfl⟩
      simp only [← hwv] at hwo hwb hnx
      have hadd : addF 0 [a, wv] = if a + wv ≤ 2100000000000000 then (a + wv, 0) else (0, 6) := by
        rw [addF_go (amtB_mk hsn hsm.out) (amtB_mk (by omega) (by have := hsm.out; omega)), Int.zero_add]
        by_cases hq : a + wv ≤ 2100000000000000
        · rw [if_pos hq, addF_go (amtB_mk hwb.1 hwb.2) (amtB_mk (by omega) hq)]
          rfl
        · rw [if_neg hq, addF_no (.inr (amtB_not (by omega)))]
      have had := fun (g : Nat) (W : World) (h : VRow W g 2 [.int .i64 a, .int .i64 wv]) => refAdd_any (g + 1) (.slice (some ⟨g, 0, none⟩) 2 2) [a, wv] W ⟨_, _, rfl, Nat.le_refl _, by unfold maxLen; simp, (by intro h; cases h), fun _ => ⟨g, 0, rfl, by omega, fun j u hu => by
        rw [Nat.zero_add]
        match j, hu with
        | 0, hu => injection hu with hu; subst hu; exact h.cell rfl
        | 1, hu => injection hu with hu; subst hu; exact h.cell rfl⟩⟩
      simp only [hadd] at had
      have b4 : Below w9.heap.size w9 (w9.alloc (.cells #[.int .i64 x.1, .int .i64 x.2] 37)) := (Below.refl _ _).alloc (Nat.le_refl _) _
      have HWO := Lib.hid hwo
      have HNX2 := Lib.hid hnx
      have HAD := Lib.hid had
      clear hnx hwv hcx hXw hx hwo hadd had hbl
      obtain ⟨w10, hw10⟩ : ∃ z, z = w9.alloc (.cells #[.int .i64 x.1, .int .i64 x.2] 37) := ⟨_, rfl⟩
      have C10 := Lib.hid (show VRow w10 w9.heap.size 37 [.int .i64 x.1, .int .i64 x.2] by rw [hw10]; exact VRow.new _ _ _)
      rw [← hw10] at b4
      have V10 := Lib.hid (V9.out.below b4 V9.out.lt)
      have B10 := Lib.hid (hb9.out.trans (b4.mono hb9.out.size))
      have HW10 := Lib.hid hw10
      have hcz10 := HTC.out _ _ V10.out
      have x2 := hcz10.2.2
      clear hw10 b4 hcz hcz10
      go_upto_region 9 with fail
      change Code.wp _ _ _ _ (w9.alloc (.cells #[.int .i64 x.1, .int .i64 x.2] 37))
      rw [← HW10.out]
      obtain ⟨C, hC⟩ : ∃ z, z = w9.heap.size := ⟨_, rfl⟩
      rw [← hC] at C10
      rw [← hC]
      have hC10 := C10.out
      clear HW10 hC hc0 hc1
      go_upto_region 10 with (first
        | (refine wpList_load_vrow rfl 37 (.tmp 9) rfl rfl hC10 Try.underlying37 (by kernel_rfl) ?_)
        | (go_at_call 11; refine (HWO.out _).mono ?_; rintro e w11 ⟨rfl, hb11⟩)
        | (go_at_call 22; refine (HAD.out _ _ (VRow.new w11 2 [.int .i64 a, .int .i64 wv])).mono ?_; rintro e w12 ⟨rfl, hw12⟩))
      have B12 := Lib.hid (show Below w8.heap.size w8 w12 by rw [← hw12]; exact (B10.out.trans (hb11.mono B10.out.size)).alloc (Nat.le_trans B10.out.size hb11.size) _)
      clear hw12 hb11 x2 hC10
      by_cases hq : a + wv ≤ 2100000000000000
      · as_aux_lemma =>
        rw [if_pos hq]
        have HQ := Lib.hid hq
        clear hq
        go_wp2_with fail
        exact ⟨⟨i + 1, hlt, by first | rfl | exact next (by omega), by rw [HNX2.out], Lib.hid (by rw [HNX2.out]; exact HQ.out), B12⟩, by first | exact meas hlt (by omega) | (show nX - ((i : Int) + 1).toNat < nX - (i : Int).toNat; omega)⟩
      · as_aux_lemma =>
        rw [if_neg hq]
        clear hq
        go_wp2_with fail
        go_ret
        exact ⟨rfl, HBW.out.trans (B12.out.mono HBW.out.size)⟩
    · have di : decide ((i : Int) < (nX : Int)) = false := decide_eq_false (by omega)
      have hae : a = sumD (handF rate l') := by rw [HA.out, List.take_of_length_le (by rw [← HNX.out]; omega), handF_sum]
      have hs0 : sumD (handF rate l') ≤ 2100000000000000 := by rw [← hae]; exact hsm.out
      have hg0 := HG0.out hs0
      have hg1 := HG1.out hs0
      have hg2 := HG2.out hs0
      have hg3 := HG3.out hs0
      rw [← hae] at hg0 hg2 hg3
      have B9 := Lib.hid (HBW.out.trans (hb9.out.mono HBW.out.size))
      have W6 := Lib.hid (HV6.out.below hb9.out HV6.out.lt)
      have U9 := Lib.hid (RowR.below HUX.out (hb9.out.mono HBL.out.2))
      have R9 := Lib.hid (RowR.below HRX.out (hb9.out.mono HBL.out.1))
      have L9 := Lib.hid (show B ≤ w9.heap.size ∧ G6 ≤ w9.heap.size from ⟨Nat.le_trans HBL.out.1 hb9.out.size, Nat.le_trans HBL.out.2 hb9.out.size⟩)
      have HSA := Lib.hid (And.intro hsn hsm.out)
      have HGG0 := Lib.hid hg0
      have HGG1 := Lib.hid hg1
      have HGG2 := Lib.hid hg2
      have HGG3 := Lib.hid hg3
      clear hg0 hg1 hg2 hg3 HG0 HG1 HG2 HG3 hae hs0 hb9 hsm hsn HV8 HV6 HUX HRX HBL HA hcz
      go_wp2_with fail
      obtain ⟨GF, hGF⟩ : ∃ z, z = w9.heap.size := ⟨_, rfl⟩
      obtain ⟨w10, hw10⟩ : ∃ z, z = w9.alloc (.cells #[.func (.func 12) #[] #[], .func (.func 16) #[] #[], .func (.func 18) #[] #[], .func (.func 20) #[] #[]] 41) := ⟨_, rfl⟩
      have b10 : Below w9.heap.size w9 w10 := by rw [hw10]; exact (Below.refl _ _).alloc (Nat.le_refl _) _
      have F10 := Lib.hid (show VRow w10 GF 41 [.func (.func 12) #[] #[], .func (.func 16) #[] #[], .func (.func 18) #[] #[], .func (.func 20) #[] #[]] by rw [hw10, hGF]; exact VRow.new _ _ _)
      have V10 := Lib.hid (V9.out.below b10 V9.out.lt)
      have W10 := Lib.hid (W6.out.below b10 W6.out.lt)
      have U10 := Lib.hid (RowR.below U9.out (b10.mono L9.out.2))
      have R10 := Lib.hid (RowR.below R9.out (b10.mono L9.out.1))
      have L10 := Lib.hid (show B ≤ w10.heap.size ∧ G6 ≤ w10.heap.size from ⟨Nat.le_trans L9.out.1 b10.size, Nat.le_trans L9.out.2 b10.size⟩)
      have B10 := Lib.hid (B9.out.trans (b10.mono B9.out.size))
      rw [← hw10, ← hGF]
      clear hw10 hGF b10 V9 W6 U9 R9 L9 B9
      go_loopw [12, 13, 14, 15, 16, 17, 19, 56] (fun s12 s13 s14 s15 s16 s17 s19 si wr => ∃ k : Nat, k ≤ 4 ∧ si = .int .i64 (k : Int) ∧ Hid (Below w10.heap.size w10 wr)) (fun _ _ _ _ _ _ _ si _ => 4 - (intOf si).toNat)
      case atStart => exact ⟨0, by omega, rfl, Lib.hid (Below.refl _ _)⟩
      case round =>
        obtain ⟨k, hk, rfl, hb11⟩ := hrel
        obtain ⟨w11, rfl⟩ : ∃ z : World, z = wr := ⟨_, rfl⟩
        have F11 := Lib.hid (F10.out.below hb11.out F10.out.lt)
        have V11 := Lib.hid (V10.out.below hb11.out V10.out.lt)
        have W11 := W10.out.below hb11.out W10.out.lt
        have U11 := Lib.hid (RowR.below U10.out (hb11.out.mono L10.out.2))
        have L11 := Lib.hid (Nat.le_trans L10.out.2 hb11.out.size)
        have R11 := Lib.hid (RowR.below R10.out (hb11.out.mono L10.out.1))
        by_cases hk4 : k < 4
        · rcases (show k = 0 ∨ k = 1 ∨ k = 2 ∨ k = 3 by omega) with rfl | rfl | rfl | rfl
          · rw [show ((0 : Nat) : Int) = 0 from rfl]
            have hcf := F11.out.cell (i := 0) rfl
            have HCF := Lib.hid (HF0.out G6 (.slice Au nX cu) w11 U11.out L11.out)
            rcases HGG0.out with ⟨hok, t, hfi, hnt, htm⟩ | hbad
            · have hce := HCF.out
              rw [hok] at hce
              have HFI := Lib.hid hfi
              have dN : decide (t < need) = false := decide_eq_false (by have := hnt; unfold lowF at this; split at this <;> omega)
              obtain ⟨ps, hps⟩ : ∃ z, z = R0.2 := ⟨_, rfl⟩
              rw [← hps] at hce HFI
              clear HCF hok hfi hnt hps
              go_upto_region 18 with (first
                | (refine wpList_load_vrow rfl 30 (.tmp 6) rfl rfl W11 Try.underlying30 HNT.out ?_)
                | (go_at_call 12; refine hce.mono ?_; rintro e w12 ⟨p1, rfl, hp1, hb12⟩))
              have B12 := Lib.hid (hb11.out.trans (hb12.mono hb11.out.size))
              have V12 := Lib.hid (V11.out.below hb12 V11.out.lt)
              have R12 := Lib.hid (RowR.below R11.out (hb12.mono (Nat.le_trans L10.out.1 hb11.out.size)))
              have HB12 := Lib.hid (Nat.le_trans L10.out.1 B12.out.size)
              obtain ⟨Ap, cp, rfl, hpc1, hpc2⟩ := Ints.form hp1
              have hpl : (ps.map natI).length = ps.length := List.length_map _
              rw [hpl] at hp1 hpc1
              rw [hpl]
              obtain ⟨nP, hnP⟩ : ∃ z, z = ps.length := ⟨_, rfl⟩
              rw [← hnP] at hp1 hpc1
              rw [← hnP]
              have HP1 := Lib.hid hp1
              have HNP := Lib.hid hnP
              clear hp1 hb12 hpl hnP hce hcf
              go_wp2_with fail
              go_loopw [16, 17, 19, 93] (fun ss sl s19 si wr => ∃ j : Nat, j ≤ nP ∧ si = .int .i64 (j : Int) ∧ ss = .int .i64 (sumW rate l' (ps.take j)) ∧ sl = .int .i64 (lastI (ps.take j)) ∧ Hid (Below w12.heap.size w12 wr)) (fun _ _ _ si _ => nP - (intOf si).toNat)
              case atStart => exact ⟨0, Nat.zero_le _, rfl, rfl, rfl, Lib.hid (Below.refl _ _)⟩
              case round =>
                obtain ⟨j, hj, rfl, rfl, rfl, hb13⟩ := hrel
                obtain ⟨w13, rfl⟩ : ∃ z : World, z = wr := ⟨_, rfl⟩
                have hcz := HTC.out _ _ (V12.out.below hb13.out V12.out.lt)
                by_cases hjl : j < nP
                · as_aux_lemma =>
                  have dj : decide ((j : Int) < (nP : Int)) = true := decide_eq_true (by omega)
                  obtain ⟨p, hp⟩ : ∃ p, ps[j]? = some p := ⟨_, List.getElem?_eq_getElem (by rw [← HNP.out]; exact hjl)⟩
                  obtain ⟨x, hx, hxw⟩ := HFI.out.a p (List.mem_of_getElem? hp)
                  have hpX : p < nX := by rw [HNX.out]; exact (List.getElem?_eq_some_iff.1 hx).1
                  have hlast := last_lt HFI.out.r hp
                  have hnl := last_next hp
                  have hns : sumW rate l' (ps.take (j + 1)) = sumW rate l' (ps.take j) + worthF rate x.1 x.2 := by
                    rw [List.take_add_one, hp, Option.toList_some, sumW_append]
                    show _ + (wAt rate l' p + 0) = _
                    unfold wAt
                    rw [hx]
                    show _ + (worthF rate x.1 x.2 + 0) = _
                    omega
                  have hs1 := sumW_nonneg rate l' (ps.take j)
                  have hs2 : sumW rate l' (ps.take (j + 1)) ≤ t := by
                    have h1 := HFI.out.s
                    rw [← List.take_append_drop (j + 1) ps, sumW_append] at h1
                    have h2 := sumW_nonneg rate l' (ps.drop (j + 1))
                    omega
                  have hcx := HCO.out x (List.mem_of_getElem? hx)
                  have hwo := fun W => rworth_any rate x.1 x.2 W hcx.1 hcx.2.1 hcx.2.2.1 hcx.2.2.2
                  obtain ⟨wv, hwv⟩ : ∃ z, z = worthF rate x.1 x.2 := ⟨_, rfl⟩
                  rw [← hwv] at hxw hns
                  simp only [← hwv] at hwo
                  obtain ⟨sj, hsj⟩ : ∃ z, z = sumW rate l' (ps.take j) := ⟨_, rfl⟩
                  obtain ⟨la, hla⟩ : ∃ z, z = lastI (ps.take j) := ⟨_, rfl⟩
                  rw [← hsj] at hns hs1
                  rw [hns] at hs2
                  rw [← hla] at hlast
                  rw [← hsj, ← hla]
                  have dl : decide ((p : Int) ≤ la) = false := decide_eq_false (by omega)
                  have dx : decide ((nX : Int) ≤ (p : Int)) = false := decide_eq_false (by omega)
                  have dw : decide (wv = 0) = false := decide_eq_false (by omega)
                  have dw2 : (wv == 0) = false := beq_eq_false_iff_ne.2 (by omega)
                  have hwr2 : IntKind.i64.wrap (sj + wv) = sj + wv := IntWalk.i64_in _ (by omega)
                  have hXw : CrR w13 B (.slice A' nX c') l' := RowR.below R12.out (hb13.out.mono HB12.out)
                  obtain ⟨b', o', k', ef, _, _, hbl, hc0, hc1⟩ := hXw.at hx
                  injection ef with ef1 ef2 ef3
                  subst ef1
                  clear ef2 ef3
                  have hPw : Ints .i64 w13 w12.heap.size (.slice Ap nP cp) (ps.map natI) := Ints.below HP1.out hb13.out
                  obtain ⟨b2, o2, c2, ef, hb2l, hcp⟩ := Ints.at_lt hPw (i := j) (x := (p : Int)) (by rw [List.getElem?_map, hp]; rfl)
                  injection ef with ef1 ef2 ef3
                  subst ef1
                  clear ef2 ef3
                  have hrg : w13.rangeAt b' (o' + p * 2) [.int .i64 x.1, .int .i64 x.2] := fun q v hv => by match q, hv with | 0, hv => (injection hv with hv; subst hv; exact hc0) | 1, hv => (injection hv with hv; subst hv; exact hc1)
                  have HS0 := Lib.hid (And.intro hrg hcz.2.2)
                  have HLT := Lib.hid (show b' < w13.heap.size ∧ GT < w13.heap.size from ⟨Nat.lt_of_lt_of_le hbl (Nat.le_trans HB12.out hb13.out.size), Nat.lt_of_lt_of_le V12.out.lt hb13.out.size⟩)
                  have HWO := Lib.hid hwo
                  have HNS := Lib.hid hns
                  have HNL := Lib.hid hnl
                  have hip0 : (0 : Int) ≤ (p : Int) := by omega
                  have hip1 : (p : Int) < (nX : Int) := by omega
                  clear hp hx hns hnl hs1 hs2 hcx hwo hwv hsj hla hXw hPw hrg hcz hlast hc0 hc1 hbl hb2l hxw
                  go_upto_region 25 with fail
                  clear hcp
                  refine wp_region_held_drew (S := (fun w' => w'.rangeAt b' (o' + p * 2) [.int .i64 x.1, .int .i64 x.2] ∧ w'.cell? ⟨GT, 2, none⟩ = some (.int .i64 rate))) (by kernel_rfl) ?_ (fun hHeld => ?_)
                  · exact HS0.out
                  refine wpAnyH_take (i := 0) (oi := { dst := some 97, op := Go.Op.move (Go.Operand.tmp 19), type := 3, pos := "law.go:130", after := #[], guard := none }) (v := ?e0v0) rfl (by kernel_rfl) (by kernel_rfl) (by kernel_rfl) (fun _ _ _ h => h) (Or.inl ⟨by rfl, ?e0y0⟩) (by assumption) ?e0r0
                  case e0y0 => (intro w hSw; (try dsimp only at hSw); go_simp; try (with_reducible rfl))
                  case e0r0 =>
                  try simp only [Act.put, List.setIfInBounds_toArray, List.set_cons_zero, List.set_cons_succ]
                  refine wpAnyH_take (i := 1) (oi := { dst := some 98, op := Go.Op.move (Go.Operand.tmp 17), type := 3, pos := "law.go:130", after := #[], guard := none }) (v := ?e0v1) rfl (by kernel_rfl) (by kernel_rfl) (by kernel_rfl) (fun _ _ _ h => h) (Or.inl ⟨by rfl, ?e0y1⟩) (by assumption) ?e0r1
                  case e0y1 => (intro w hSw; (try dsimp only at hSw); go_simp; try (with_reducible rfl))
                  case e0r1 =>
                  try simp only [Act.put, List.setIfInBounds_toArray, List.set_cons_zero, List.set_cons_succ]
                  refine wpAnyH_take (i := 2) (oi := { dst := some 99, op := Go.Op.binOp Go.BinOp.leq 3 (Go.Operand.tmp 97) (Go.Operand.tmp 98) 3, type := 4, pos := "law.go:130", after := #[{ on := 0, ground := Go.Ground.data }, { on := 1, ground := Go.Ground.data }], guard := none }) (v := (.bool false)) rfl (by kernel_rfl) (by kernel_rfl) (by kernel_rfl) (fun _ _ _ h => h) (Or.inl ⟨by rfl, ?e0y2⟩) (by assumption) ?e0r2
                  case e0y2 => (intro w hSw; (try dsimp only at hSw); go_simp; try (with_reducible rfl))
                  case e0r2 =>
                  try simp only [Act.put, List.setIfInBounds_toArray, List.set_cons_zero, List.set_cons_succ]
                  refine wpAnyH_take (i := 3) (oi := { dst := some 100, op := Go.Op.move (Go.Operand.tmp 99), type := 4, pos := "law.go:130", after := #[{ on := 2, ground := Go.Ground.data }], guard := none }) (v := (.bool false)) rfl (by kernel_rfl) (by kernel_rfl) (by kernel_rfl) (fun _ _ _ h => h) (Or.inl ⟨by rfl, ?e0y3⟩) (by assumption) ?e0r3
                  case e0y3 => (intro w hSw; (try dsimp only at hSw); go_simp; try (with_reducible rfl))
                  case e0r3 =>
                  try simp only [Act.put, List.setIfInBounds_toArray, List.set_cons_zero, List.set_cons_succ]
                  refine wpAnyH_take (i := 4) (oi := { dst := some 101, op := Go.Op.move (Go.Operand.tmp 19), type := 3, pos := "law.go:130", after := #[{ on := 3, ground := Go.Ground.guard }], guard := some (3, false) }) (v := ?e0v4) rfl (by kernel_rfl) (by kernel_rfl) (by kernel_rfl) (fun _ _ _ h => h) (Or.inl ⟨by rfl, ?e0y4⟩) (by assumption) ?e0r4
                  case e0y4 => (intro w hSw; (try dsimp only at hSw); go_simp; try (with_reducible rfl))
                  case e0r4 =>
                  try simp only [Act.put, List.setIfInBounds_toArray, List.set_cons_zero, List.set_cons_succ]
                  refine wpAnyH_take (i := 5) (oi := { dst := some 102, op := Go.Op.move (Go.Operand.tmp 0), type := 22, pos := "law.go:130", after := #[{ on := 3, ground := Go.Ground.guard }], guard := some (3, false) }) (v := ?e0v5) rfl (by kernel_rfl) (by kernel_rfl) (by kernel_rfl) (fun _ _ _ h => h) (Or.inl ⟨by rfl, ?e0y5⟩) (by assumption) ?e0r5
                  case e0y5 => (intro w hSw; (try dsimp only at hSw); go_simp; try (with_reducible rfl))
                  case e0r5 =>
                  try simp only [Act.put, List.setIfInBounds_toArray, List.set_cons_zero, List.set_cons_succ]
                  refine wpAnyH_take (i := 6) (oi := { dst := some 103, op := Go.Op.call { callee := Go.Callee.builtin Go.Builtin.len, args := #[Go.Operand.tmp 102], argTypes := #[22] }, type := 3, pos := "law.go:130", after := #[{ on := 5, ground := Go.Ground.data }, { on := 3, ground := Go.Ground.guard }], guard := some (3, false) }) (v := ?e0v6) rfl (by kernel_rfl) (by kernel_rfl) (by kernel_rfl) (fun _ _ _ h => h) (Or.inl ⟨by rfl, ?e0y6⟩) (by assumption) ?e0r6
                  case e0y6 => (intro w hSw; (try dsimp only at hSw); go_simp; try (with_reducible rfl))
                  case e0r6 =>
                  try simp only [Act.put, List.setIfInBounds_toArray, List.set_cons_zero, List.set_cons_succ]
                  refine wpAnyH_take (i := 7) (oi := { dst := some 104, op := Go.Op.binOp Go.BinOp.geq 3 (Go.Operand.tmp 101) (Go.Operand.tmp 103) 3, type := 4, pos := "law.go:130", after := #[{ on := 4, ground := Go.Ground.data }, { on := 6, ground := Go.Ground.data }, { on := 3, ground := Go.Ground.guard }], guard := some (3, false) }) (v := (.bool false)) rfl (by kernel_rfl) (by kernel_rfl) (by kernel_rfl) (fun _ _ _ h => h) (Or.inl ⟨by rfl, ?e0y7⟩) (by assumption) ?e0r7
                  case e0y7 => (intro w hSw; (try dsimp only at hSw); go_simp; try (with_reducible rfl))
                  case e0r7 =>
                  try simp only [Act.put, List.setIfInBounds_toArray, List.set_cons_zero, List.set_cons_succ]
                  refine wpAnyH_take (i := 8) (oi := { dst := some 105, op := Go.Op.pick (Go.Operand.tmp 100) (Go.Operand.const (Go.Value.bool true)) (Go.Operand.tmp 104), type := 4, pos := "law.go:130", after := #[{ on := 3, ground := Go.Ground.data }, { on := 7, ground := Go.Ground.data }], guard := none }) (v := (.bool false)) rfl (by kernel_rfl) (by kernel_rfl) (by kernel_rfl) (fun _ _ _ h => h) (Or.inl ⟨by rfl, ?e0y8⟩) (by assumption) ?e0r8
                  case e0y8 => (intro w hSw; (try dsimp only at hSw); go_simp; try (with_reducible rfl))
                  case e0r8 =>
                  try simp only [Act.put, List.setIfInBounds_toArray, List.set_cons_zero, List.set_cons_succ]
                  refine wpAnyH_take (i := 9) (oi := { dst := some 106, op := Go.Op.move (Go.Operand.tmp 105), type := 4, pos := "law.go:130", after := #[{ on := 8, ground := Go.Ground.data }, { on := 3, ground := Go.Ground.chain }], guard := none }) (v := (.bool false)) rfl (by kernel_rfl) (by kernel_rfl) (by kernel_rfl) (fun _ _ _ h => h) (Or.inl ⟨by rfl, ?e0y9⟩) (by assumption) ?e0r9
                  case e0y9 => (intro w hSw; (try dsimp only at hSw); go_simp; try (with_reducible rfl))
                  case e0r9 =>
                  try simp only [Act.put, List.setIfInBounds_toArray, List.set_cons_zero, List.set_cons_succ]
                  refine wpAnyH_take (i := 10) (oi := { dst := some 107, op := Go.Op.move (Go.Operand.tmp 0), type := 22, pos := "law.go:130", after := #[{ on := 9, ground := Go.Ground.guard }], guard := some (9, false) }) (v := ?e0v10) rfl (by kernel_rfl) (by kernel_rfl) (by kernel_rfl) (fun _ _ _ h => h) (Or.inl ⟨by rfl, ?e0y10⟩) (by assumption) ?e0r10
                  case e0y10 => (intro w hSw; (try dsimp only at hSw); go_simp; try (with_reducible rfl))
                  case e0r10 =>
                  try simp only [Act.put, List.setIfInBounds_toArray, List.set_cons_zero, List.set_cons_succ]
                  refine wpAnyH_take (i := 11) (oi := { dst := some 108, op := Go.Op.move (Go.Operand.tmp 19), type := 3, pos := "law.go:130", after := #[{ on := 9, ground := Go.Ground.guard }], guard := some (9, false) }) (v := ?e0v11) rfl (by kernel_rfl) (by kernel_rfl) (by kernel_rfl) (fun _ _ _ h => h) (Or.inl ⟨by rfl, ?e0y11⟩) (by assumption) ?e0r11
                  case e0y11 => (intro w hSw; (try dsimp only at hSw); go_simp; try (with_reducible rfl))
                  case e0r11 =>
                  try simp only [Act.put, List.setIfInBounds_toArray, List.set_cons_zero, List.set_cons_succ]
                  refine wpAnyH_take (i := 12) (oi := { dst := some 109, op := Go.Op.indexAddr 22 (Go.Operand.tmp 107) (Go.Operand.tmp 108), type := 0, pos := "law.go:130", after := #[{ on := 10, ground := Go.Ground.data }, { on := 11, ground := Go.Ground.data }, { on := 9, ground := Go.Ground.guard }], guard := some (9, false) }) (v := ?e0v12) rfl (by kernel_rfl) (by kernel_rfl) (by kernel_rfl) (fun _ _ _ h => h) (Or.inl ⟨by rfl, ?e0y12⟩) (by assumption) ?e0r12
                  case e0y12 => (intro w hSw; (try dsimp only at hSw); go_simp; try (with_reducible rfl))
                  case e0r12 =>
                  try simp only [Act.put, List.setIfInBounds_toArray, List.set_cons_zero, List.set_cons_succ]
                  refine wpAnyH_take (i := 13) (oi := { dst := some 110, op := Go.Op.load 37 (Go.Operand.tmp 109), type := 37, pos := "law.go:130", after := #[{ on := 12, ground := Go.Ground.data }, { on := 9, ground := Go.Ground.guard }], guard := some (9, false) }) (v := (.agg #[.int .i64 x.1, .int .i64 x.2])) rfl (by kernel_rfl) (by kernel_rfl) (by kernel_rfl) (fun _ _ _ h => h) (yieldsIf_load_mid (by rfl) 37 (.tmp 109) rfl b' (o' + p * 2) rfl [.int .i64 x.1, .int .i64 x.2] _ (fun w' h => h.1) Try.underlying37 rfl (by kernel_rfl)) (by assumption) ?_
                  try simp only [Act.put, List.setIfInBounds_toArray, List.set_cons_zero, List.set_cons_succ]
                  refine wpAnyH_take (i := 14) (oi := { dst := some 111, op := Go.Op.fieldAddr 25 (Go.Operand.tmp 3) 2, type := 0, pos := "law.go:130", after := #[{ on := 9, ground := Go.Ground.guard }], guard := some (9, false) }) (v := ?e0v14) rfl (by kernel_rfl) (by kernel_rfl) (by kernel_rfl) (fun _ _ _ h => h) (Or.inl ⟨by rfl, ?e0y14⟩) (by assumption) ?e0r14
                  case e0y14 => (intro w hSw; (try dsimp only at hSw); go_simp; try (with_reducible rfl))
                  case e0r14 =>
                  try simp only [Act.put, List.setIfInBounds_toArray, List.set_cons_zero, List.set_cons_succ]
                  refine wpAnyH_take (i := 15) (oi := { dst := some 112, op := Go.Op.load 2 (Go.Operand.tmp 111), type := 2, pos := "law.go:130", after := #[{ on := 14, ground := Go.Ground.data }, { on := 9, ground := Go.Ground.guard }], guard := some (9, false) }) (v := (.int .i64 rate)) rfl (by kernel_rfl) (by kernel_rfl) (by kernel_rfl) (fun _ _ _ h => h) (yieldsIf_load1 (by rfl) 2 (.tmp 111) rfl (b := GT) (o := 2) rfl (fun w => by kernel_rfl) (fun w h => h.2)) (by assumption) ?_
                  try simp only [Act.put, List.setIfInBounds_toArray, List.set_cons_zero, List.set_cons_succ]
                  refine wpAnyH_ready (rs := [16]) (by kernel_rfl) (by simp) ?_
                  refine AllReadyH.cons (o := { dst := some 113, op := Go.Op.call { callee := Go.Callee.value (Go.Operand.func 11), args := #[Go.Operand.tmp 110, Go.Operand.tmp 112], argTypes := #[37, 2] }, type := 2, pos := "law.go:130", after := #[{ on := 13, ground := Go.Ground.data }, { on := 15, ground := Go.Ground.data }, { on := 9, ground := Go.Ground.chain }, { on := 9, ground := Go.Ground.guard }], guard := some (9, false) }) rfl (fun K hK => ?_) (AllReadyH.nil)
                  go_simp
                  refine (HWO.out _).mono ?_
                  rintro e w14 ⟨rfl, hb14⟩
                  go_simp
                  refine hK.out _ _ ?_ (fun hHeld => ?_)
                  · exact ⟨fun q v hv => (hb14.cell (p := ⟨b', _, none⟩) HLT.out.1).trans (HS0.out.1 q v hv), (hb14.cell (p := ⟨GT, 2, none⟩) HLT.out.2).trans HS0.out.2⟩
                  clear hK K
                  try simp only [Act.put, List.setIfInBounds_toArray, List.set_cons_zero, List.set_cons_succ]
                  refine wpAnyH_take (i := 17) (oi := { dst := some 114, op := Go.Op.binOp Go.BinOp.eql 2 (Go.Operand.tmp 113) (Go.Operand.const (Go.Value.int Go.IntKind.i64 0)) 2, type := 4, pos := "law.go:130", after := #[{ on := 16, ground := Go.Ground.data }, { on := 9, ground := Go.Ground.guard }], guard := some (9, false) }) (v := ?e0_16v17) rfl (by kernel_rfl) (by kernel_rfl) (by kernel_rfl) (fun _ _ _ h => h) (Or.inl ⟨by rfl, ?e0_16y17⟩) (by assumption) ?e0_16r17
                  case e0_16y17 => (intro w hSw; (try dsimp only at hSw); go_simp; try (with_reducible rfl))
                  case e0_16r17 =>
                  try simp only [Act.put, List.setIfInBounds_toArray, List.set_cons_zero, List.set_cons_succ]
                  refine wpAnyH_take (i := 18) (oi := { dst := some 115, op := Go.Op.pick (Go.Operand.tmp 106) (Go.Operand.const (Go.Value.bool true)) (Go.Operand.tmp 114), type := 4, pos := "law.go:130", after := #[{ on := 9, ground := Go.Ground.data }, { on := 17, ground := Go.Ground.data }], guard := none }) (v := ?e0_16v18) rfl (by kernel_rfl) (by kernel_rfl) (by kernel_rfl) (fun _ _ _ h => h) (Or.inl ⟨by rfl, ?e0_16y18⟩) (by assumption) ?e0_16r18
                  case e0_16y18 => (intro w hSw; (try dsimp only at hSw); go_simp; try (with_reducible rfl))
                  case e0_16r18 =>
                  try simp only [Act.put, List.setIfInBounds_toArray, List.set_cons_zero, List.set_cons_succ]
                  refine wpAnyH_done (by kernel_rfl) ?_ _
                  have b14 : Below w13.heap.size w13 w14 := (Below.refl _ _).drew.trans hb14
                  have HS1 := Lib.hid (show w14.drew.rangeAt b' (o' + p * 2) [.int .i64 x.1, .int .i64 x.2] ∧ w14.drew.cell? ⟨GT, 2, none⟩ = some (.int .i64 rate) from ⟨fun q v hv => (b14.cell (p := ⟨b', _, none⟩) HLT.out.1).trans (HS0.out.1 q v hv), (b14.cell (p := ⟨GT, 2, none⟩) HLT.out.2).trans HS0.out.2⟩)
                  have B14 := Lib.hid (hb13.out.trans (b14.mono hb13.out.size))
                  have HLT1 := Lib.hid (show b' < w14.drew.heap.size ∧ GT < w14.drew.heap.size from ⟨Nat.lt_of_lt_of_le HLT.out.1 b14.size, Nat.lt_of_lt_of_le HLT.out.2 b14.size⟩)
                  clear b14 hb14
                  go_upto_region 28 with fail
                  refine wp_region_held_drew (S := (fun w' => w'.rangeAt b' (o' + p * 2) [.int .i64 x.1, .int .i64 x.2] ∧ w'.cell? ⟨GT, 2, none⟩ = some (.int .i64 rate))) (by kernel_rfl) ?_ (fun hHeld => ?_)
                  · exact HS1.out
                  refine wpAnyH_take (i := 0) (oi := { dst := some 117, op := Go.Op.move (Go.Operand.tmp 16), type := 2, pos := "law.go:134", after := #[], guard := none }) (v := ?f0v0) rfl (by kernel_rfl) (by kernel_rfl) (by kernel_rfl) (fun _ _ _ h => h) (Or.inl ⟨by rfl, ?f0y0⟩) (by assumption) ?f0r0
                  case f0y0 => (intro w hSw; (try dsimp only at hSw); go_simp; try (with_reducible rfl))
                  case f0r0 =>
                  try simp only [Act.put, List.setIfInBounds_toArray, List.set_cons_zero, List.set_cons_succ]
                  refine wpAnyH_take (i := 1) (oi := { dst := some 118, op := Go.Op.move (Go.Operand.tmp 0), type := 22, pos := "law.go:134", after := #[], guard := none }) (v := ?f0v1) rfl (by kernel_rfl) (by kernel_rfl) (by kernel_rfl) (fun _ _ _ h => h) (Or.inl ⟨by rfl, ?f0y1⟩) (by assumption) ?f0r1
                  case f0y1 => (intro w hSw; (try dsimp only at hSw); go_simp; try (with_reducible rfl))
                  case f0r1 =>
                  try simp only [Act.put, List.setIfInBounds_toArray, List.set_cons_zero, List.set_cons_succ]
                  refine wpAnyH_take (i := 2) (oi := { dst := some 119, op := Go.Op.move (Go.Operand.tmp 19), type := 3, pos := "law.go:134", after := #[], guard := none }) (v := ?f0v2) rfl (by kernel_rfl) (by kernel_rfl) (by kernel_rfl) (fun _ _ _ h => h) (Or.inl ⟨by rfl, ?f0y2⟩) (by assumption) ?f0r2
                  case f0y2 => (intro w hSw; (try dsimp only at hSw); go_simp; try (with_reducible rfl))
                  case f0r2 =>
                  try simp only [Act.put, List.setIfInBounds_toArray, List.set_cons_zero, List.set_cons_succ]
                  refine wpAnyH_take (i := 3) (oi := { dst := some 120, op := Go.Op.indexAddr 22 (Go.Operand.tmp 118) (Go.Operand.tmp 119), type := 0, pos := "law.go:134", after := #[{ on := 1, ground := Go.Ground.data }, { on := 2, ground := Go.Ground.data }], guard := none }) (v := ?f0v3) rfl (by kernel_rfl) (by kernel_rfl) (by kernel_rfl) (fun _ _ _ h => h) (Or.inl ⟨by rfl, ?f0y3⟩) (by assumption) ?f0r3
                  case f0y3 => (intro w hSw; (try dsimp only at hSw); go_simp; try (with_reducible rfl))
                  case f0r3 =>
                  try simp only [Act.put, List.setIfInBounds_toArray, List.set_cons_zero, List.set_cons_succ]
                  refine wpAnyH_take (i := 4) (oi := { dst := some 121, op := Go.Op.load 37 (Go.Operand.tmp 120), type := 37, pos := "law.go:134", after := #[{ on := 3, ground := Go.Ground.data }], guard := none }) (v := (.agg #[.int .i64 x.1, .int .i64 x.2])) rfl (by kernel_rfl) (by kernel_rfl) (by kernel_rfl) (fun _ _ _ h => h) (yieldsIf_load_mid (by rfl) 37 (.tmp 120) rfl b' (o' + p * 2) rfl [.int .i64 x.1, .int .i64 x.2] _ (fun w' h => h.1) Try.underlying37 rfl (by kernel_rfl)) (by assumption) ?_
                  try simp only [Act.put, List.setIfInBounds_toArray, List.set_cons_zero, List.set_cons_succ]
                  refine wpAnyH_take (i := 5) (oi := { dst := some 122, op := Go.Op.fieldAddr 25 (Go.Operand.tmp 3) 2, type := 0, pos := "law.go:134", after := #[], guard := none }) (v := ?f0v5) rfl (by kernel_rfl) (by kernel_rfl) (by kernel_rfl) (fun _ _ _ h => h) (Or.inl ⟨by rfl, ?f0y5⟩) (by assumption) ?f0r5
                  case f0y5 => (intro w hSw; (try dsimp only at hSw); go_simp; try (with_reducible rfl))
                  case f0r5 =>
                  try simp only [Act.put, List.setIfInBounds_toArray, List.set_cons_zero, List.set_cons_succ]
                  refine wpAnyH_take (i := 6) (oi := { dst := some 123, op := Go.Op.load 2 (Go.Operand.tmp 122), type := 2, pos := "law.go:134", after := #[{ on := 5, ground := Go.Ground.data }], guard := none }) (v := (.int .i64 rate)) rfl (by kernel_rfl) (by kernel_rfl) (by kernel_rfl) (fun _ _ _ h => h) (yieldsIf_load1 (by rfl) 2 (.tmp 122) rfl (b := GT) (o := 2) rfl (fun w => by kernel_rfl) (fun w h => h.2)) (by assumption) ?_
                  try simp only [Act.put, List.setIfInBounds_toArray, List.set_cons_zero, List.set_cons_succ]
                  refine wpAnyH_ready (rs := [7]) (by kernel_rfl) (by simp) ?_
                  refine AllReadyH.cons (o := { dst := some 124, op := Go.Op.call { callee := Go.Callee.value (Go.Operand.func 11), args := #[Go.Operand.tmp 121, Go.Operand.tmp 123], argTypes := #[37, 2] }, type := 2, pos := "law.go:134", after := #[{ on := 4, ground := Go.Ground.data }, { on := 6, ground := Go.Ground.data }], guard := none }) rfl (fun K hK => ?_) (AllReadyH.nil)
                  go_simp
                  refine (HWO.out _).mono ?_
                  rintro e w15 ⟨rfl, hb15⟩
                  go_simp
                  refine hK.out _ _ ?_ (fun hHeld => ?_)
                  · exact ⟨fun q v hv => (hb15.cell (p := ⟨b', _, none⟩) HLT1.out.1).trans (HS1.out.1 q v hv), (hb15.cell (p := ⟨GT, 2, none⟩) HLT1.out.2).trans HS1.out.2⟩
                  clear hK K
                  try simp only [Act.put, List.setIfInBounds_toArray, List.set_cons_zero, List.set_cons_succ]
                  refine wpAnyH_take (i := 8) (oi := { dst := some 125, op := Go.Op.binOp Go.BinOp.add 2 (Go.Operand.tmp 117) (Go.Operand.tmp 124) 2, type := 2, pos := "law.go:134", after := #[{ on := 0, ground := Go.Ground.data }, { on := 7, ground := Go.Ground.data }], guard := none }) (v := ?f0_7v8) rfl (by kernel_rfl) (by kernel_rfl) (by kernel_rfl) (fun _ _ _ h => h) (Or.inl ⟨by rfl, ?f0_7y8⟩) (by assumption) ?f0_7r8
                  case f0_7y8 => (intro w hSw; (try dsimp only at hSw); go_simp; try (with_reducible rfl))
                  case f0_7r8 =>
                  try simp only [Act.put, List.setIfInBounds_toArray, List.set_cons_zero, List.set_cons_succ]
                  refine wpAnyH_take (i := 9) (oi := { dst := some 16, op := Go.Op.assign (Go.Operand.tmp 125), type := 2, pos := "law.go:134", after := #[{ on := 8, ground := Go.Ground.data }, { on := 7, ground := Go.Ground.chain }, { on := 0, ground := Go.Ground.phase }, { on := 1, ground := Go.Ground.phase }, { on := 2, ground := Go.Ground.phase }, { on := 3, ground := Go.Ground.phase }, { on := 4, ground := Go.Ground.phase }, { on := 5, ground := Go.Ground.phase }, { on := 6, ground := Go.Ground.phase }, { on := 7, ground := Go.Ground.phase }, { on := 8, ground := Go.Ground.phase }], guard := none }) (v := ?f0_7v9) rfl (by kernel_rfl) (by kernel_rfl) (by kernel_rfl) (fun _ _ _ h => h) (Or.inl ⟨by rfl, ?f0_7y9⟩) (by assumption) ?f0_7r9
                  case f0_7y9 => (intro w hSw; (try dsimp only at hSw); go_simp; try (with_reducible rfl))
                  case f0_7r9 =>
                  try simp only [Act.put, List.setIfInBounds_toArray, List.set_cons_zero, List.set_cons_succ]
                  refine wpAnyH_done (by kernel_rfl) ?_ _
                  have B15 := Lib.hid (B14.out.drew.trans (hb15.mono B14.out.drew.size))
                  clear hb15
                  go_wp2_with fail
                  exact ⟨⟨j + 1, hjl, by first | rfl | exact next (by omega), by rw [HNS.out], by rw [HNL.out], B15⟩, by first | exact meas hjl (by omega) | (show nP - ((j : Int) + 1).toNat < nP - (j : Int).toNat; omega)⟩
                · as_aux_lemma =>
                  have dj : decide ((j : Int) < (nP : Int)) = false := decide_eq_false (by omega)
                  have hst : sumW rate l' (ps.take j) = t := by rw [List.take_of_length_le (by rw [← HNP.out]; omega)]; exact HFI.out.s
                  rw [hst]
                  have B13 := Lib.hid (B12.out.trans (hb13.out.mono B12.out.size))
                  have y0 := hcz.1
                  have y1 := hcz.2.1
                  clear hst hcz
                  go_wp2_with fail
                  exact ⟨⟨1, by omega, by first | rfl | exact next (by omega), B13⟩, by decide⟩
            · as_aux_lemma =>
              have hce := HCF.out
              rw [hbad.1] at hce
              have dM : decide (max need 0 ≤ a) = false := decide_eq_false (by have := hbad.2; unfold lowF at this; split at this <;> omega)
              clear HCF hbad
              go_upto_region 18 with (first
                | (refine wpList_load_vrow rfl 30 (.tmp 6) rfl rfl W11 Try.underlying30 HNT.out ?_)
                | (go_at_call 12; refine hce.mono ?_; rintro e w12 ⟨p1, rfl, hp1, hb12⟩))
              have B12 := Lib.hid (hb11.out.trans (hb12.mono hb11.out.size))
              have hcz := HTC.out _ _ (V11.out.below hb12 V11.out.lt)
              have y0 := hcz.1
              clear hcz hb12 hp1
              go_wp2_with fail
              exact ⟨⟨1, by omega, by first | rfl | exact next (by omega), B12⟩, by decide⟩
          · rw [show ((1 : Nat) : Int) = 1 from rfl]
            have hcf := F11.out.cell (i := 1) rfl
            have HCF := Lib.hid (HF1.out G6 (.slice Au nX cu) w11 U11.out L11.out)
            rcases HGG1.out with ⟨hok, t, hfi, hnt, hex, htm⟩ | hbad
            · have hce := HCF.out
              rw [hok] at hce
              have HFI := Lib.hid hfi
              have dN : decide (t < need) = false := decide_eq_false (by have := hnt; unfold lowF at this; split at this <;> omega)
              have hwr : IntKind.i64.wrap (t - max need 0) = t - max need 0 := IntWalk.i64_in _ (by have := hnt; unfold lowF at this; split at this <;> omega)
              have dX : decide (max extra 0 < t - max need 0) = false := decide_eq_false (by have := hex; unfold lowF at this; split at this <;> split at this <;> omega)
              obtain ⟨ps, hps⟩ : ∃ z, z = R1.2 := ⟨_, rfl⟩
              rw [← hps] at hce HFI
              clear HCF hok hfi hnt hps hex
              go_upto_region 18 with (first
                | (refine wpList_load_vrow rfl 30 (.tmp 6) rfl rfl W11 Try.underlying30 HNT.out ?_)
                | (go_at_call 16; refine hce.mono ?_; rintro e w12 ⟨p1, rfl, hp1, hb12⟩))
              have B12 := Lib.hid (hb11.out.trans (hb12.mono hb11.out.size))
              have V12 := Lib.hid (V11.out.below hb12 V11.out.lt)
              have R12 := Lib.hid (RowR.below R11.out (hb12.mono (Nat.le_trans L10.out.1 hb11.out.size)))
              have HB12 := Lib.hid (Nat.le_trans L10.out.1 B12.out.size)
              obtain ⟨Ap, cp, rfl, hpc1, hpc2⟩ := Ints.form hp1
              have hpl : (ps.map natI).length = ps.length := List.length_map _
              rw [hpl] at hp1 hpc1
              rw [hpl]
              obtain ⟨nP, hnP⟩ : ∃ z, z = ps.length := ⟨_, rfl⟩
              rw [← hnP] at hp1 hpc1
              rw [← hnP]
              have HP1 := Lib.hid hp1
              have HNP := Lib.hid hnP
              clear hp1 hb12 hpl hnP hce hcf
              go_wp2_with fail
              go_loopw [16, 17, 19, 93] (fun ss sl s19 si wr => ∃ j : Nat, j ≤ nP ∧ si = .int .i64 (j : Int) ∧ ss = .int .i64 (sumW rate l' (ps.take j)) ∧ sl = .int .i64 (lastI (ps.take j)) ∧ Hid (Below w12.heap.size w12 wr)) (fun _ _ _ si _ => nP - (intOf si).toNat)
              case atStart => exact ⟨0, Nat.zero_le _, rfl, rfl, rfl, Lib.hid (Below.refl _ _)⟩
              case round =>
                obtain ⟨j, hj, rfl, rfl, rfl, hb13⟩ := hrel
                obtain ⟨w13, rfl⟩ : ∃ z : World, z = wr := ⟨_, rfl⟩
                have hcz := HTC.out _ _ (V12.out.below hb13.out V12.out.lt)
                by_cases hjl : j < nP
                · as_aux_lemma =>
                  have dj : decide ((j : Int) < (nP : Int)) = true := decide_eq_true (by omega)
                  obtain ⟨p, hp⟩ : ∃ p, ps[j]? = some p := ⟨_, List.getElem?_eq_getElem (by rw [← HNP.out]; exact hjl)⟩
                  obtain ⟨x, hx, hxw⟩ := HFI.out.a p (List.mem_of_getElem? hp)
                  have hpX : p < nX := by rw [HNX.out]; exact (List.getElem?_eq_some_iff.1 hx).1
                  have hlast := last_lt HFI.out.r hp
                  have hnl := last_next hp
                  have hns : sumW rate l' (ps.take (j + 1)) = sumW rate l' (ps.take j) + worthF rate x.1 x.2 := by
                    rw [List.take_add_one, hp, Option.toList_some, sumW_append]
                    show _ + (wAt rate l' p + 0) = _
                    unfold wAt
                    rw [hx]
                    show _ + (worthF rate x.1 x.2 + 0) = _
                    omega
                  have hs1 := sumW_nonneg rate l' (ps.take j)
                  have hs2 : sumW rate l' (ps.take (j + 1)) ≤ t := by
                    have h1 := HFI.out.s
                    rw [← List.take_append_drop (j + 1) ps, sumW_append] at h1
                    have h2 := sumW_nonneg rate l' (ps.drop (j + 1))
                    omega
                  have hcx := HCO.out x (List.mem_of_getElem? hx)
                  have hwo := fun W => rworth_any rate x.1 x.2 W hcx.1 hcx.2.1 hcx.2.2.1 hcx.2.2.2
                  obtain ⟨wv, hwv⟩ : ∃ z, z = worthF rate x.1 x.2 := ⟨_, rfl⟩
                  rw [← hwv] at hxw hns
                  simp only [← hwv] at hwo
                  obtain ⟨sj, hsj⟩ : ∃ z, z = sumW rate l' (ps.take j) := ⟨_, rfl⟩
                  obtain ⟨la, hla⟩ : ∃ z, z = lastI (ps.take j) := ⟨_, rfl⟩
                  rw [← hsj] at hns hs1
                  rw [hns] at hs2
                  rw [← hla] at hlast
                  rw [← hsj, ← hla]
                  have dl : decide ((p : Int) ≤ la) = false := decide_eq_false (by omega)
                  have dx : decide ((nX : Int) ≤ (p : Int)) = false := decide_eq_false (by omega)
                  have dw : decide (wv = 0) = false := decide_eq_false (by omega)
                  have dw2 : (wv == 0) = false := beq_eq_false_iff_ne.2 (by omega)
                  have hwr2 : IntKind.i64.wrap (sj + wv) = sj + wv := IntWalk.i64_in _ (by omega)
                  have hXw : CrR w13 B (.slice A' nX c') l' := RowR.below R12.out (hb13.out.mono HB12.out)
                  obtain ⟨b', o', k', ef, _, _, hbl, hc0, hc1⟩ := hXw.at hx
                  injection ef with ef1 ef2 ef3
                  subst ef1
                  clear ef2 ef3
                  have hPw : Ints .i64 w13 w12.heap.size (.slice Ap nP cp) (ps.map natI) := Ints.below HP1.out hb13.out
                  obtain ⟨b2, o2, c2, ef, hb2l, hcp⟩ := Ints.at_lt hPw (i := j) (x := (p : Int)) (by rw [List.getElem?_map, hp]; rfl)
                  injection ef with ef1 ef2 ef3
                  subst ef1
                  clear ef2 ef3
                  have hrg : w13.rangeAt b' (o' + p * 2) [.int .i64 x.1, .int .i64 x.2] := fun q v hv => by match q, hv with | 0, hv => (injection hv with hv; subst hv; exact hc0) | 1, hv => (injection hv with hv; subst hv; exact hc1)
                  have HS0 := Lib.hid (And.intro hrg hcz.2.2)
                  have HLT := Lib.hid (show b' < w13.heap.size ∧ GT < w13.heap.size from ⟨Nat.lt_of_lt_of_le hbl (Nat.le_trans HB12.out hb13.out.size), Nat.lt_of_lt_of_le V12.out.lt hb13.out.size⟩)
                  have HWO := Lib.hid hwo
                  have HNS := Lib.hid hns
                  have HNL := Lib.hid hnl
                  have hip0 : (0 : Int) ≤ (p : Int) := by omega
                  have hip1 : (p : Int) < (nX : Int) := by omega
                  clear hp hx hns hnl hs1 hs2 hcx hwo hwv hsj hla hXw hPw hrg hcz hlast hc0 hc1 hbl hb2l hxw
                  go_upto_region 25 with fail
                  clear hcp
                  refine wp_region_held_drew (S := (fun w' => w'.rangeAt b' (o' + p * 2) [.int .i64 x.1, .int .i64 x.2] ∧ w'.cell? ⟨GT, 2, none⟩ = some (.int .i64 rate))) (by kernel_rfl) ?_ (fun hHeld => ?_)
                  · exact HS0.out
                  refine wpAnyH_take (i := 0) (oi := { dst := some 97, op := Go.Op.move (Go.Operand.tmp 19), type := 3, pos := "law.go:130", after := #[], guard := none }) (v := ?e1v0) rfl (by kernel_rfl) (by kernel_rfl) (by kernel_rfl) (fun _ _ _ h => h) (Or.inl ⟨by rfl, ?e1y0⟩) (by assumption) ?e1r0
                  case e1y0 => (intro w hSw; (try dsimp only at hSw); go_simp; try (with_reducible rfl))
                  case e1r0 =>
                  try simp only [Act.put, List.setIfInBounds_toArray, List.set_cons_zero, List.set_cons_succ]
                  refine wpAnyH_take (i := 1) (oi := { dst := some 98, op := Go.Op.move (Go.Operand.tmp 17), type := 3, pos := "law.go:130", after := #[], guard := none }) (v := ?e1v1) rfl (by kernel_rfl) (by kernel_rfl) (by kernel_rfl) (fun _ _ _ h => h) (Or.inl ⟨by rfl, ?e1y1⟩) (by assumption) ?e1r1
                  case e1y1 => (intro w hSw; (try dsimp only at hSw); go_simp; try (with_reducible rfl))
                  case e1r1 =>
                  try simp only [Act.put, List.setIfInBounds_toArray, List.set_cons_zero, List.set_cons_succ]
                  refine wpAnyH_take (i := 2) (oi := { dst := some 99, op := Go.Op.binOp Go.BinOp.leq 3 (Go.Operand.tmp 97) (Go.Operand.tmp 98) 3, type := 4, pos := "law.go:130", after := #[{ on := 0, ground := Go.Ground.data }, { on := 1, ground := Go.Ground.data }], guard := none }) (v := (.bool false)) rfl (by kernel_rfl) (by kernel_rfl) (by kernel_rfl) (fun _ _ _ h => h) (Or.inl ⟨by rfl, ?e1y2⟩) (by assumption) ?e1r2
                  case e1y2 => (intro w hSw; (try dsimp only at hSw); go_simp; try (with_reducible rfl))
                  case e1r2 =>
                  try simp only [Act.put, List.setIfInBounds_toArray, List.set_cons_zero, List.set_cons_succ]
                  refine wpAnyH_take (i := 3) (oi := { dst := some 100, op := Go.Op.move (Go.Operand.tmp 99), type := 4, pos := "law.go:130", after := #[{ on := 2, ground := Go.Ground.data }], guard := none }) (v := (.bool false)) rfl (by kernel_rfl) (by kernel_rfl) (by kernel_rfl) (fun _ _ _ h => h) (Or.inl ⟨by rfl, ?e1y3⟩) (by assumption) ?e1r3
                  case e1y3 => (intro w hSw; (try dsimp only at hSw); go_simp; try (with_reducible rfl))
                  case e1r3 =>
                  try simp only [Act.put, List.setIfInBounds_toArray, List.set_cons_zero, List.set_cons_succ]
                  refine wpAnyH_take (i := 4) (oi := { dst := some 101, op := Go.Op.move (Go.Operand.tmp 19), type := 3, pos := "law.go:130", after := #[{ on := 3, ground := Go.Ground.guard }], guard := some (3, false) }) (v := ?e1v4) rfl (by kernel_rfl) (by kernel_rfl) (by kernel_rfl) (fun _ _ _ h => h) (Or.inl ⟨by rfl, ?e1y4⟩) (by assumption) ?e1r4
                  case e1y4 => (intro w hSw; (try dsimp only at hSw); go_simp; try (with_reducible rfl))
                  case e1r4 =>
                  try simp only [Act.put, List.setIfInBounds_toArray, List.set_cons_zero, List.set_cons_succ]
                  refine wpAnyH_take (i := 5) (oi := { dst := some 102, op := Go.Op.move (Go.Operand.tmp 0), type := 22, pos := "law.go:130", after := #[{ on := 3, ground := Go.Ground.guard }], guard := some (3, false) }) (v := ?e1v5) rfl (by kernel_rfl) (by kernel_rfl) (by kernel_rfl) (fun _ _ _ h => h) (Or.inl ⟨by rfl, ?e1y5⟩) (by assumption) ?e1r5
                  case e1y5 => (intro w hSw; (try dsimp only at hSw); go_simp; try (with_reducible rfl))
                  case e1r5 =>
                  try simp only [Act.put, List.setIfInBounds_toArray, List.set_cons_zero, List.set_cons_succ]
                  refine wpAnyH_take (i := 6) (oi := { dst := some 103, op := Go.Op.call { callee := Go.Callee.builtin Go.Builtin.len, args := #[Go.Operand.tmp 102], argTypes := #[22] }, type := 3, pos := "law.go:130", after := #[{ on := 5, ground := Go.Ground.data }, { on := 3, ground := Go.Ground.guard }], guard := some (3, false) }) (v := ?e1v6) rfl (by kernel_rfl) (by kernel_rfl) (by kernel_rfl) (fun _ _ _ h => h) (Or.inl ⟨by rfl, ?e1y6⟩) (by assumption) ?e1r6
                  case e1y6 => (intro w hSw; (try dsimp only at hSw); go_simp; try (with_reducible rfl))
                  case e1r6 =>
                  try simp only [Act.put, List.setIfInBounds_toArray, List.set_cons_zero, List.set_cons_succ]
                  refine wpAnyH_take (i := 7) (oi := { dst := some 104, op := Go.Op.binOp Go.BinOp.geq 3 (Go.Operand.tmp 101) (Go.Operand.tmp 103) 3, type := 4, pos := "law.go:130", after := #[{ on := 4, ground := Go.Ground.data }, { on := 6, ground := Go.Ground.data }, { on := 3, ground := Go.Ground.guard }], guard := some (3, false) }) (v := (.bool false)) rfl (by kernel_rfl) (by kernel_rfl) (by kernel_rfl) (fun _ _ _ h => h) (Or.inl ⟨by rfl, ?e1y7⟩) (by assumption) ?e1r7
                  case e1y7 => (intro w hSw; (try dsimp only at hSw); go_simp; try (with_reducible rfl))
                  case e1r7 =>
                  try simp only [Act.put, List.setIfInBounds_toArray, List.set_cons_zero, List.set_cons_succ]
                  refine wpAnyH_take (i := 8) (oi := { dst := some 105, op := Go.Op.pick (Go.Operand.tmp 100) (Go.Operand.const (Go.Value.bool true)) (Go.Operand.tmp 104), type := 4, pos := "law.go:130", after := #[{ on := 3, ground := Go.Ground.data }, { on := 7, ground := Go.Ground.data }], guard := none }) (v := (.bool false)) rfl (by kernel_rfl) (by kernel_rfl) (by kernel_rfl) (fun _ _ _ h => h) (Or.inl ⟨by rfl, ?e1y8⟩) (by assumption) ?e1r8
                  case e1y8 => (intro w hSw; (try dsimp only at hSw); go_simp; try (with_reducible rfl))
                  case e1r8 =>
                  try simp only [Act.put, List.setIfInBounds_toArray, List.set_cons_zero, List.set_cons_succ]
                  refine wpAnyH_take (i := 9) (oi := { dst := some 106, op := Go.Op.move (Go.Operand.tmp 105), type := 4, pos := "law.go:130", after := #[{ on := 8, ground := Go.Ground.data }, { on := 3, ground := Go.Ground.chain }], guard := none }) (v := (.bool false)) rfl (by kernel_rfl) (by kernel_rfl) (by kernel_rfl) (fun _ _ _ h => h) (Or.inl ⟨by rfl, ?e1y9⟩) (by assumption) ?e1r9
                  case e1y9 => (intro w hSw; (try dsimp only at hSw); go_simp; try (with_reducible rfl))
                  case e1r9 =>
                  try simp only [Act.put, List.setIfInBounds_toArray, List.set_cons_zero, List.set_cons_succ]
                  refine wpAnyH_take (i := 10) (oi := { dst := some 107, op := Go.Op.move (Go.Operand.tmp 0), type := 22, pos := "law.go:130", after := #[{ on := 9, ground := Go.Ground.guard }], guard := some (9, false) }) (v := ?e1v10) rfl (by kernel_rfl) (by kernel_rfl) (by kernel_rfl) (fun _ _ _ h => h) (Or.inl ⟨by rfl, ?e1y10⟩) (by assumption) ?e1r10
                  case e1y10 => (intro w hSw; (try dsimp only at hSw); go_simp; try (with_reducible rfl))
                  case e1r10 =>
                  try simp only [Act.put, List.setIfInBounds_toArray, List.set_cons_zero, List.set_cons_succ]
                  refine wpAnyH_take (i := 11) (oi := { dst := some 108, op := Go.Op.move (Go.Operand.tmp 19), type := 3, pos := "law.go:130", after := #[{ on := 9, ground := Go.Ground.guard }], guard := some (9, false) }) (v := ?e1v11) rfl (by kernel_rfl) (by kernel_rfl) (by kernel_rfl) (fun _ _ _ h => h) (Or.inl ⟨by rfl, ?e1y11⟩) (by assumption) ?e1r11
                  case e1y11 => (intro w hSw; (try dsimp only at hSw); go_simp; try (with_reducible rfl))
                  case e1r11 =>
                  try simp only [Act.put, List.setIfInBounds_toArray, List.set_cons_zero, List.set_cons_succ]
                  refine wpAnyH_take (i := 12) (oi := { dst := some 109, op := Go.Op.indexAddr 22 (Go.Operand.tmp 107) (Go.Operand.tmp 108), type := 0, pos := "law.go:130", after := #[{ on := 10, ground := Go.Ground.data }, { on := 11, ground := Go.Ground.data }, { on := 9, ground := Go.Ground.guard }], guard := some (9, false) }) (v := ?e1v12) rfl (by kernel_rfl) (by kernel_rfl) (by kernel_rfl) (fun _ _ _ h => h) (Or.inl ⟨by rfl, ?e1y12⟩) (by assumption) ?e1r12
                  case e1y12 => (intro w hSw; (try dsimp only at hSw); go_simp; try (with_reducible rfl))
                  case e1r12 =>
                  try simp only [Act.put, List.setIfInBounds_toArray, List.set_cons_zero, List.set_cons_succ]
                  refine wpAnyH_take (i := 13) (oi := { dst := some 110, op := Go.Op.load 37 (Go.Operand.tmp 109), type := 37, pos := "law.go:130", after := #[{ on := 12, ground := Go.Ground.data }, { on := 9, ground := Go.Ground.guard }], guard := some (9, false) }) (v := (.agg #[.int .i64 x.1, .int .i64 x.2])) rfl (by kernel_rfl) (by kernel_rfl) (by kernel_rfl) (fun _ _ _ h => h) (yieldsIf_load_mid (by rfl) 37 (.tmp 109) rfl b' (o' + p * 2) rfl [.int .i64 x.1, .int .i64 x.2] _ (fun w' h => h.1) Try.underlying37 rfl (by kernel_rfl)) (by assumption) ?_
                  try simp only [Act.put, List.setIfInBounds_toArray, List.set_cons_zero, List.set_cons_succ]
                  refine wpAnyH_take (i := 14) (oi := { dst := some 111, op := Go.Op.fieldAddr 25 (Go.Operand.tmp 3) 2, type := 0, pos := "law.go:130", after := #[{ on := 9, ground := Go.Ground.guard }], guard := some (9, false) }) (v := ?e1v14) rfl (by kernel_rfl) (by kernel_rfl) (by kernel_rfl) (fun _ _ _ h => h) (Or.inl ⟨by rfl, ?e1y14⟩) (by assumption) ?e1r14
                  case e1y14 => (intro w hSw; (try dsimp only at hSw); go_simp; try (with_reducible rfl))
                  case e1r14 =>
                  try simp only [Act.put, List.setIfInBounds_toArray, List.set_cons_zero, List.set_cons_succ]
                  refine wpAnyH_take (i := 15) (oi := { dst := some 112, op := Go.Op.load 2 (Go.Operand.tmp 111), type := 2, pos := "law.go:130", after := #[{ on := 14, ground := Go.Ground.data }, { on := 9, ground := Go.Ground.guard }], guard := some (9, false) }) (v := (.int .i64 rate)) rfl (by kernel_rfl) (by kernel_rfl) (by kernel_rfl) (fun _ _ _ h => h) (yieldsIf_load1 (by rfl) 2 (.tmp 111) rfl (b := GT) (o := 2) rfl (fun w => by kernel_rfl) (fun w h => h.2)) (by assumption) ?_
                  try simp only [Act.put, List.setIfInBounds_toArray, List.set_cons_zero, List.set_cons_succ]
                  refine wpAnyH_ready (rs := [16]) (by kernel_rfl) (by simp) ?_
                  refine AllReadyH.cons (o := { dst := some 113, op := Go.Op.call { callee := Go.Callee.value (Go.Operand.func 11), args := #[Go.Operand.tmp 110, Go.Operand.tmp 112], argTypes := #[37, 2] }, type := 2, pos := "law.go:130", after := #[{ on := 13, ground := Go.Ground.data }, { on := 15, ground := Go.Ground.data }, { on := 9, ground := Go.Ground.chain }, { on := 9, ground := Go.Ground.guard }], guard := some (9, false) }) rfl (fun K hK => ?_) (AllReadyH.nil)
                  go_simp
                  refine (HWO.out _).mono ?_
                  rintro e w14 ⟨rfl, hb14⟩
                  go_simp
                  refine hK.out _ _ ?_ (fun hHeld => ?_)
                  · exact ⟨fun q v hv => (hb14.cell (p := ⟨b', _, none⟩) HLT.out.1).trans (HS0.out.1 q v hv), (hb14.cell (p := ⟨GT, 2, none⟩) HLT.out.2).trans HS0.out.2⟩
                  clear hK K
                  try simp only [Act.put, List.setIfInBounds_toArray, List.set_cons_zero, List.set_cons_succ]
                  refine wpAnyH_take (i := 17) (oi := { dst := some 114, op := Go.Op.binOp Go.BinOp.eql 2 (Go.Operand.tmp 113) (Go.Operand.const (Go.Value.int Go.IntKind.i64 0)) 2, type := 4, pos := "law.go:130", after := #[{ on := 16, ground := Go.Ground.data }, { on := 9, ground := Go.Ground.guard }], guard := some (9, false) }) (v := ?e1_16v17) rfl (by kernel_rfl) (by kernel_rfl) (by kernel_rfl) (fun _ _ _ h => h) (Or.inl ⟨by rfl, ?e1_16y17⟩) (by assumption) ?e1_16r17
                  case e1_16y17 => (intro w hSw; (try dsimp only at hSw); go_simp; try (with_reducible rfl))
                  case e1_16r17 =>
                  try simp only [Act.put, List.setIfInBounds_toArray, List.set_cons_zero, List.set_cons_succ]
                  refine wpAnyH_take (i := 18) (oi := { dst := some 115, op := Go.Op.pick (Go.Operand.tmp 106) (Go.Operand.const (Go.Value.bool true)) (Go.Operand.tmp 114), type := 4, pos := "law.go:130", after := #[{ on := 9, ground := Go.Ground.data }, { on := 17, ground := Go.Ground.data }], guard := none }) (v := ?e1_16v18) rfl (by kernel_rfl) (by kernel_rfl) (by kernel_rfl) (fun _ _ _ h => h) (Or.inl ⟨by rfl, ?e1_16y18⟩) (by assumption) ?e1_16r18
                  case e1_16y18 => (intro w hSw; (try dsimp only at hSw); go_simp; try (with_reducible rfl))
                  case e1_16r18 =>
                  try simp only [Act.put, List.setIfInBounds_toArray, List.set_cons_zero, List.set_cons_succ]
                  refine wpAnyH_done (by kernel_rfl) ?_ _
                  have b14 : Below w13.heap.size w13 w14 := (Below.refl _ _).drew.trans hb14
                  have HS1 := Lib.hid (show w14.drew.rangeAt b' (o' + p * 2) [.int .i64 x.1, .int .i64 x.2] ∧ w14.drew.cell? ⟨GT, 2, none⟩ = some (.int .i64 rate) from ⟨fun q v hv => (b14.cell (p := ⟨b', _, none⟩) HLT.out.1).trans (HS0.out.1 q v hv), (b14.cell (p := ⟨GT, 2, none⟩) HLT.out.2).trans HS0.out.2⟩)
                  have B14 := Lib.hid (hb13.out.trans (b14.mono hb13.out.size))
                  have HLT1 := Lib.hid (show b' < w14.drew.heap.size ∧ GT < w14.drew.heap.size from ⟨Nat.lt_of_lt_of_le HLT.out.1 b14.size, Nat.lt_of_lt_of_le HLT.out.2 b14.size⟩)
                  clear b14 hb14
                  go_upto_region 28 with fail
                  refine wp_region_held_drew (S := (fun w' => w'.rangeAt b' (o' + p * 2) [.int .i64 x.1, .int .i64 x.2] ∧ w'.cell? ⟨GT, 2, none⟩ = some (.int .i64 rate))) (by kernel_rfl) ?_ (fun hHeld => ?_)
                  · exact HS1.out
                  refine wpAnyH_take (i := 0) (oi := { dst := some 117, op := Go.Op.move (Go.Operand.tmp 16), type := 2, pos := "law.go:134", after := #[], guard := none }) (v := ?f1v0) rfl (by kernel_rfl) (by kernel_rfl) (by kernel_rfl) (fun _ _ _ h => h) (Or.inl ⟨by rfl, ?f1y0⟩) (by assumption) ?f1r0
                  case f1y0 => (intro w hSw; (try dsimp only at hSw); go_simp; try (with_reducible rfl))
                  case f1r0 =>
                  try simp only [Act.put, List.setIfInBounds_toArray, List.set_cons_zero, List.set_cons_succ]
                  refine wpAnyH_take (i := 1) (oi := { dst := some 118, op := Go.Op.move (Go.Operand.tmp 0), type := 22, pos := "law.go:134", after := #[], guard := none }) (v := ?f1v1) rfl (by kernel_rfl) (by kernel_rfl) (by kernel_rfl) (fun _ _ _ h => h) (Or.inl ⟨by rfl, ?f1y1⟩) (by assumption) ?f1r1
                  case f1y1 => (intro w hSw; (try dsimp only at hSw); go_simp; try (with_reducible rfl))
                  case f1r1 =>
                  try simp only [Act.put, List.setIfInBounds_toArray, List.set_cons_zero, List.set_cons_succ]
                  refine wpAnyH_take (i := 2) (oi := { dst := some 119, op := Go.Op.move (Go.Operand.tmp 19), type := 3, pos := "law.go:134", after := #[], guard := none }) (v := ?f1v2) rfl (by kernel_rfl) (by kernel_rfl) (by kernel_rfl) (fun _ _ _ h => h) (Or.inl ⟨by rfl, ?f1y2⟩) (by assumption) ?f1r2
                  case f1y2 => (intro w hSw; (try dsimp only at hSw); go_simp; try (with_reducible rfl))
                  case f1r2 =>
                  try simp only [Act.put, List.setIfInBounds_toArray, List.set_cons_zero, List.set_cons_succ]
                  refine wpAnyH_take (i := 3) (oi := { dst := some 120, op := Go.Op.indexAddr 22 (Go.Operand.tmp 118) (Go.Operand.tmp 119), type := 0, pos := "law.go:134", after := #[{ on := 1, ground := Go.Ground.data }, { on := 2, ground := Go.Ground.data }], guard := none }) (v := ?f1v3) rfl (by kernel_rfl) (by kernel_rfl) (by kernel_rfl) (fun _ _ _ h => h) (Or.inl ⟨by rfl, ?f1y3⟩) (by assumption) ?f1r3
                  case f1y3 => (intro w hSw; (try dsimp only at hSw); go_simp; try (with_reducible rfl))
                  case f1r3 =>
                  try simp only [Act.put, List.setIfInBounds_toArray, List.set_cons_zero, List.set_cons_succ]
                  refine wpAnyH_take (i := 4) (oi := { dst := some 121, op := Go.Op.load 37 (Go.Operand.tmp 120), type := 37, pos := "law.go:134", after := #[{ on := 3, ground := Go.Ground.data }], guard := none }) (v := (.agg #[.int .i64 x.1, .int .i64 x.2])) rfl (by kernel_rfl) (by kernel_rfl) (by kernel_rfl) (fun _ _ _ h => h) (yieldsIf_load_mid (by rfl) 37 (.tmp 120) rfl b' (o' + p * 2) rfl [.int .i64 x.1, .int .i64 x.2] _ (fun w' h => h.1) Try.underlying37 rfl (by kernel_rfl)) (by assumption) ?_
                  try simp only [Act.put, List.setIfInBounds_toArray, List.set_cons_zero, List.set_cons_succ]
                  refine wpAnyH_take (i := 5) (oi := { dst := some 122, op := Go.Op.fieldAddr 25 (Go.Operand.tmp 3) 2, type := 0, pos := "law.go:134", after := #[], guard := none }) (v := ?f1v5) rfl (by kernel_rfl) (by kernel_rfl) (by kernel_rfl) (fun _ _ _ h => h) (Or.inl ⟨by rfl, ?f1y5⟩) (by assumption) ?f1r5
                  case f1y5 => (intro w hSw; (try dsimp only at hSw); go_simp; try (with_reducible rfl))
                  case f1r5 =>
                  try simp only [Act.put, List.setIfInBounds_toArray, List.set_cons_zero, List.set_cons_succ]
                  refine wpAnyH_take (i := 6) (oi := { dst := some 123, op := Go.Op.load 2 (Go.Operand.tmp 122), type := 2, pos := "law.go:134", after := #[{ on := 5, ground := Go.Ground.data }], guard := none }) (v := (.int .i64 rate)) rfl (by kernel_rfl) (by kernel_rfl) (by kernel_rfl) (fun _ _ _ h => h) (yieldsIf_load1 (by rfl) 2 (.tmp 122) rfl (b := GT) (o := 2) rfl (fun w => by kernel_rfl) (fun w h => h.2)) (by assumption) ?_
                  try simp only [Act.put, List.setIfInBounds_toArray, List.set_cons_zero, List.set_cons_succ]
                  refine wpAnyH_ready (rs := [7]) (by kernel_rfl) (by simp) ?_
                  refine AllReadyH.cons (o := { dst := some 124, op := Go.Op.call { callee := Go.Callee.value (Go.Operand.func 11), args := #[Go.Operand.tmp 121, Go.Operand.tmp 123], argTypes := #[37, 2] }, type := 2, pos := "law.go:134", after := #[{ on := 4, ground := Go.Ground.data }, { on := 6, ground := Go.Ground.data }], guard := none }) rfl (fun K hK => ?_) (AllReadyH.nil)
                  go_simp
                  refine (HWO.out _).mono ?_
                  rintro e w15 ⟨rfl, hb15⟩
                  go_simp
                  refine hK.out _ _ ?_ (fun hHeld => ?_)
                  · exact ⟨fun q v hv => (hb15.cell (p := ⟨b', _, none⟩) HLT1.out.1).trans (HS1.out.1 q v hv), (hb15.cell (p := ⟨GT, 2, none⟩) HLT1.out.2).trans HS1.out.2⟩
                  clear hK K
                  try simp only [Act.put, List.setIfInBounds_toArray, List.set_cons_zero, List.set_cons_succ]
                  refine wpAnyH_take (i := 8) (oi := { dst := some 125, op := Go.Op.binOp Go.BinOp.add 2 (Go.Operand.tmp 117) (Go.Operand.tmp 124) 2, type := 2, pos := "law.go:134", after := #[{ on := 0, ground := Go.Ground.data }, { on := 7, ground := Go.Ground.data }], guard := none }) (v := ?f1_7v8) rfl (by kernel_rfl) (by kernel_rfl) (by kernel_rfl) (fun _ _ _ h => h) (Or.inl ⟨by rfl, ?f1_7y8⟩) (by assumption) ?f1_7r8
                  case f1_7y8 => (intro w hSw; (try dsimp only at hSw); go_simp; try (with_reducible rfl))
                  case f1_7r8 =>
                  try simp only [Act.put, List.setIfInBounds_toArray, List.set_cons_zero, List.set_cons_succ]
                  refine wpAnyH_take (i := 9) (oi := { dst := some 16, op := Go.Op.assign (Go.Operand.tmp 125), type := 2, pos := "law.go:134", after := #[{ on := 8, ground := Go.Ground.data }, { on := 7, ground := Go.Ground.chain }, { on := 0, ground := Go.Ground.phase }, { on := 1, ground := Go.Ground.phase }, { on := 2, ground := Go.Ground.phase }, { on := 3, ground := Go.Ground.phase }, { on := 4, ground := Go.Ground.phase }, { on := 5, ground := Go.Ground.phase }, { on := 6, ground := Go.Ground.phase }, { on := 7, ground := Go.Ground.phase }, { on := 8, ground := Go.Ground.phase }], guard := none }) (v := ?f1_7v9) rfl (by kernel_rfl) (by kernel_rfl) (by kernel_rfl) (fun _ _ _ h => h) (Or.inl ⟨by rfl, ?f1_7y9⟩) (by assumption) ?f1_7r9
                  case f1_7y9 => (intro w hSw; (try dsimp only at hSw); go_simp; try (with_reducible rfl))
                  case f1_7r9 =>
                  try simp only [Act.put, List.setIfInBounds_toArray, List.set_cons_zero, List.set_cons_succ]
                  refine wpAnyH_done (by kernel_rfl) ?_ _
                  have B15 := Lib.hid (B14.out.drew.trans (hb15.mono B14.out.drew.size))
                  clear hb15
                  go_wp2_with fail
                  exact ⟨⟨j + 1, hjl, by first | rfl | exact next (by omega), by rw [HNS.out], by rw [HNL.out], B15⟩, by first | exact meas hjl (by omega) | (show nP - ((j : Int) + 1).toNat < nP - (j : Int).toNat; omega)⟩
                · as_aux_lemma =>
                  have dj : decide ((j : Int) < (nP : Int)) = false := decide_eq_false (by omega)
                  have hst : sumW rate l' (ps.take j) = t := by rw [List.take_of_length_le (by rw [← HNP.out]; omega)]; exact HFI.out.s
                  rw [hst]
                  have B13 := Lib.hid (B12.out.trans (hb13.out.mono B12.out.size))
                  have y0 := hcz.1
                  have y1 := hcz.2.1
                  clear hst hcz
                  go_wp2_with fail
                  exact ⟨⟨2, by omega, by first | rfl | exact next (by omega), B13⟩, by decide⟩
            · as_aux_lemma =>
              have hce := HCF.out
              rw [hbad] at hce
              clear HCF hbad
              go_upto_region 18 with (first
                | (refine wpList_load_vrow rfl 30 (.tmp 6) rfl rfl W11 Try.underlying30 HNT.out ?_)
                | (go_at_call 16; refine hce.mono ?_; rintro e w12 ⟨p1, rfl, hp1, hb12⟩))
              have B12 := Lib.hid (hb11.out.trans (hb12.mono hb11.out.size))
              have hcz := HTC.out _ _ (V11.out.below hb12 V11.out.lt)
              have y0 := hcz.1
              clear hcz hb12 hp1
              go_wp2_with fail
              exact ⟨⟨2, by omega, by first | rfl | exact next (by omega), B12⟩, by decide⟩
          · rw [show ((2 : Nat) : Int) = 2 from rfl]
            have hcf := F11.out.cell (i := 2) rfl
            have HCF := Lib.hid (HF2.out G6 (.slice Au nX cu) w11 U11.out L11.out)
            rcases HGG2.out with ⟨hok, t, hfi, hnt, htm⟩ | hbad
            · have hce := HCF.out
              rw [hok] at hce
              have HFI := Lib.hid hfi
              have dN : decide (t < need) = false := decide_eq_false (by have := hnt; unfold lowF at this; split at this <;> omega)
              obtain ⟨ps, hps⟩ : ∃ z, z = R2.2 := ⟨_, rfl⟩
              rw [← hps] at hce HFI
              clear HCF hok hfi hnt hps
              go_upto_region 18 with (first
                | (refine wpList_load_vrow rfl 30 (.tmp 6) rfl rfl W11 Try.underlying30 HNT.out ?_)
                | (go_at_call 18; refine hce.mono ?_; rintro e w12 ⟨p1, rfl, hp1, hb12⟩))
              have B12 := Lib.hid (hb11.out.trans (hb12.mono hb11.out.size))
              have V12 := Lib.hid (V11.out.below hb12 V11.out.lt)
              have R12 := Lib.hid (RowR.below R11.out (hb12.mono (Nat.le_trans L10.out.1 hb11.out.size)))
              have HB12 := Lib.hid (Nat.le_trans L10.out.1 B12.out.size)
              obtain ⟨Ap, cp, rfl, hpc1, hpc2⟩ := Ints.form hp1
              have hpl : (ps.map natI).length = ps.length := List.length_map _
              rw [hpl] at hp1 hpc1
              rw [hpl]
              obtain ⟨nP, hnP⟩ : ∃ z, z = ps.length := ⟨_, rfl⟩
              rw [← hnP] at hp1 hpc1
              rw [← hnP]
              have HP1 := Lib.hid hp1
              have HNP := Lib.hid hnP
              clear hp1 hb12 hpl hnP hce hcf
              go_wp2_with fail
              go_loopw [16, 17, 19, 93] (fun ss sl s19 si wr => ∃ j : Nat, j ≤ nP ∧ si = .int .i64 (j : Int) ∧ ss = .int .i64 (sumW rate l' (ps.take j)) ∧ sl = .int .i64 (lastI (ps.take j)) ∧ Hid (Below w12.heap.size w12 wr)) (fun _ _ _ si _ => nP - (intOf si).toNat)
              case atStart => exact ⟨0, Nat.zero_le _, rfl, rfl, rfl, Lib.hid (Below.refl _ _)⟩
              case round =>
                obtain ⟨j, hj, rfl, rfl, rfl, hb13⟩ := hrel
                obtain ⟨w13, rfl⟩ : ∃ z : World, z = wr := ⟨_, rfl⟩
                have hcz := HTC.out _ _ (V12.out.below hb13.out V12.out.lt)
                by_cases hjl : j < nP
                · as_aux_lemma =>
                  have dj : decide ((j : Int) < (nP : Int)) = true := decide_eq_true (by omega)
                  obtain ⟨p, hp⟩ : ∃ p, ps[j]? = some p := ⟨_, List.getElem?_eq_getElem (by rw [← HNP.out]; exact hjl)⟩
                  obtain ⟨x, hx, hxw⟩ := HFI.out.a p (List.mem_of_getElem? hp)
                  have hpX : p < nX := by rw [HNX.out]; exact (List.getElem?_eq_some_iff.1 hx).1
                  have hlast := last_lt HFI.out.r hp
                  have hnl := last_next hp
                  have hns : sumW rate l' (ps.take (j + 1)) = sumW rate l' (ps.take j) + worthF rate x.1 x.2 := by
                    rw [List.take_add_one, hp, Option.toList_some, sumW_append]
                    show _ + (wAt rate l' p + 0) = _
                    unfold wAt
                    rw [hx]
                    show _ + (worthF rate x.1 x.2 + 0) = _
                    omega
                  have hs1 := sumW_nonneg rate l' (ps.take j)
                  have hs2 : sumW rate l' (ps.take (j + 1)) ≤ t := by
                    have h1 := HFI.out.s
                    rw [← List.take_append_drop (j + 1) ps, sumW_append] at h1
                    have h2 := sumW_nonneg rate l' (ps.drop (j + 1))
                    omega
                  have hcx := HCO.out x (List.mem_of_getElem? hx)
                  have hwo := fun W => rworth_any rate x.1 x.2 W hcx.1 hcx.2.1 hcx.2.2.1 hcx.2.2.2
                  obtain ⟨wv, hwv⟩ : ∃ z, z = worthF rate x.1 x.2 := ⟨_, rfl⟩
                  rw [← hwv] at hxw hns
                  simp only [← hwv] at hwo
                  obtain ⟨sj, hsj⟩ : ∃ z, z = sumW rate l' (ps.take j) := ⟨_, rfl⟩
                  obtain ⟨la, hla⟩ : ∃ z, z = lastI (ps.take j) := ⟨_, rfl⟩
                  rw [← hsj] at hns hs1
                  rw [hns] at hs2
                  rw [← hla] at hlast
                  rw [← hsj, ← hla]
                  have dl : decide ((p : Int) ≤ la) = false := decide_eq_false (by omega)
                  have dx : decide ((nX : Int) ≤ (p : Int)) = false := decide_eq_false (by omega)
                  have dw : decide (wv = 0) = false := decide_eq_false (by omega)
                  have dw2 : (wv == 0) = false := beq_eq_false_iff_ne.2 (by omega)
                  have hwr2 : IntKind.i64.wrap (sj + wv) = sj + wv := IntWalk.i64_in _ (by omega)
                  have hXw : CrR w13 B (.slice A' nX c') l' := RowR.below R12.out (hb13.out.mono HB12.out)
                  obtain ⟨b', o', k', ef, _, _, hbl, hc0, hc1⟩ := hXw.at hx
                  injection ef with ef1 ef2 ef3
                  subst ef1
                  clear ef2 ef3
                  have hPw : Ints .i64 w13 w12.heap.size (.slice Ap nP cp) (ps.map natI) := Ints.below HP1.out hb13.out
                  obtain ⟨b2, o2, c2, ef, hb2l, hcp⟩ := Ints.at_lt hPw (i := j) (x := (p : Int)) (by rw [List.getElem?_map, hp]; rfl)
                  injection ef with ef1 ef2 ef3
                  subst ef1
                  clear ef2 ef3
                  have hrg : w13.rangeAt b' (o' + p * 2) [.int .i64 x.1, .int .i64 x.2] := fun q v hv => by match q, hv with | 0, hv => (injection hv with hv; subst hv; exact hc0) | 1, hv => (injection hv with hv; subst hv; exact hc1)
                  have HS0 := Lib.hid (And.intro hrg hcz.2.2)
                  have HLT := Lib.hid (show b' < w13.heap.size ∧ GT < w13.heap.size from ⟨Nat.lt_of_lt_of_le hbl (Nat.le_trans HB12.out hb13.out.size), Nat.lt_of_lt_of_le V12.out.lt hb13.out.size⟩)
                  have HWO := Lib.hid hwo
                  have HNS := Lib.hid hns
                  have HNL := Lib.hid hnl
                  have hip0 : (0 : Int) ≤ (p : Int) := by omega
                  have hip1 : (p : Int) < (nX : Int) := by omega
                  clear hp hx hns hnl hs1 hs2 hcx hwo hwv hsj hla hXw hPw hrg hcz hlast hc0 hc1 hbl hb2l hxw
                  go_upto_region 25 with fail
                  clear hcp
                  refine wp_region_held_drew (S := (fun w' => w'.rangeAt b' (o' + p * 2) [.int .i64 x.1, .int .i64 x.2] ∧ w'.cell? ⟨GT, 2, none⟩ = some (.int .i64 rate))) (by kernel_rfl) ?_ (fun hHeld => ?_)
                  · exact HS0.out
                  refine wpAnyH_take (i := 0) (oi := { dst := some 97, op := Go.Op.move (Go.Operand.tmp 19), type := 3, pos := "law.go:130", after := #[], guard := none }) (v := ?e2v0) rfl (by kernel_rfl) (by kernel_rfl) (by kernel_rfl) (fun _ _ _ h => h) (Or.inl ⟨by rfl, ?e2y0⟩) (by assumption) ?e2r0
                  case e2y0 => (intro w hSw; (try dsimp only at hSw); go_simp; try (with_reducible rfl))
                  case e2r0 =>
                  try simp only [Act.put, List.setIfInBounds_toArray, List.set_cons_zero, List.set_cons_succ]
                  refine wpAnyH_take (i := 1) (oi := { dst := some 98, op := Go.Op.move (Go.Operand.tmp 17), type := 3, pos := "law.go:130", after := #[], guard := none }) (v := ?e2v1) rfl (by kernel_rfl) (by kernel_rfl) (by kernel_rfl) (fun _ _ _ h => h) (Or.inl ⟨by rfl, ?e2y1⟩) (by assumption) ?e2r1
                  case e2y1 => (intro w hSw; (try dsimp only at hSw); go_simp; try (with_reducible rfl))
                  case e2r1 =>
                  try simp only [Act.put, List.setIfInBounds_toArray, List.set_cons_zero, List.set_cons_succ]
                  refine wpAnyH_take (i := 2) (oi := { dst := some 99, op := Go.Op.binOp Go.BinOp.leq 3 (Go.Operand.tmp 97) (Go.Operand.tmp 98) 3, type := 4, pos := "law.go:130", after := #[{ on := 0, ground := Go.Ground.data }, { on := 1, ground := Go.Ground.data }], guard := none }) (v := (.bool false)) rfl (by kernel_rfl) (by kernel_rfl) (by kernel_rfl) (fun _ _ _ h => h) (Or.inl ⟨by rfl, ?e2y2⟩) (by assumption) ?e2r2
                  case e2y2 => (intro w hSw; (try dsimp only at hSw); go_simp; try (with_reducible rfl))
                  case e2r2 =>
                  try simp only [Act.put, List.setIfInBounds_toArray, List.set_cons_zero, List.set_cons_succ]
                  refine wpAnyH_take (i := 3) (oi := { dst := some 100, op := Go.Op.move (Go.Operand.tmp 99), type := 4, pos := "law.go:130", after := #[{ on := 2, ground := Go.Ground.data }], guard := none }) (v := (.bool false)) rfl (by kernel_rfl) (by kernel_rfl) (by kernel_rfl) (fun _ _ _ h => h) (Or.inl ⟨by rfl, ?e2y3⟩) (by assumption) ?e2r3
                  case e2y3 => (intro w hSw; (try dsimp only at hSw); go_simp; try (with_reducible rfl))
                  case e2r3 =>
                  try simp only [Act.put, List.setIfInBounds_toArray, List.set_cons_zero, List.set_cons_succ]
                  refine wpAnyH_take (i := 4) (oi := { dst := some 101, op := Go.Op.move (Go.Operand.tmp 19), type := 3, pos := "law.go:130", after := #[{ on := 3, ground := Go.Ground.guard }], guard := some (3, false) }) (v := ?e2v4) rfl (by kernel_rfl) (by kernel_rfl) (by kernel_rfl) (fun _ _ _ h => h) (Or.inl ⟨by rfl, ?e2y4⟩) (by assumption) ?e2r4
                  case e2y4 => (intro w hSw; (try dsimp only at hSw); go_simp; try (with_reducible rfl))
                  case e2r4 =>
                  try simp only [Act.put, List.setIfInBounds_toArray, List.set_cons_zero, List.set_cons_succ]
                  refine wpAnyH_take (i := 5) (oi := { dst := some 102, op := Go.Op.move (Go.Operand.tmp 0), type := 22, pos := "law.go:130", after := #[{ on := 3, ground := Go.Ground.guard }], guard := some (3, false) }) (v := ?e2v5) rfl (by kernel_rfl) (by kernel_rfl) (by kernel_rfl) (fun _ _ _ h => h) (Or.inl ⟨by rfl, ?e2y5⟩) (by assumption) ?e2r5
                  case e2y5 => (intro w hSw; (try dsimp only at hSw); go_simp; try (with_reducible rfl))
                  case e2r5 =>
                  try simp only [Act.put, List.setIfInBounds_toArray, List.set_cons_zero, List.set_cons_succ]
                  refine wpAnyH_take (i := 6) (oi := { dst := some 103, op := Go.Op.call { callee := Go.Callee.builtin Go.Builtin.len, args := #[Go.Operand.tmp 102], argTypes := #[22] }, type := 3, pos := "law.go:130", after := #[{ on := 5, ground := Go.Ground.data }, { on := 3, ground := Go.Ground.guard }], guard := some (3, false) }) (v := ?e2v6) rfl (by kernel_rfl) (by kernel_rfl) (by kernel_rfl) (fun _ _ _ h => h) (Or.inl ⟨by rfl, ?e2y6⟩) (by assumption) ?e2r6
                  case e2y6 => (intro w hSw; (try dsimp only at hSw); go_simp; try (with_reducible rfl))
                  case e2r6 =>
                  try simp only [Act.put, List.setIfInBounds_toArray, List.set_cons_zero, List.set_cons_succ]
                  refine wpAnyH_take (i := 7) (oi := { dst := some 104, op := Go.Op.binOp Go.BinOp.geq 3 (Go.Operand.tmp 101) (Go.Operand.tmp 103) 3, type := 4, pos := "law.go:130", after := #[{ on := 4, ground := Go.Ground.data }, { on := 6, ground := Go.Ground.data }, { on := 3, ground := Go.Ground.guard }], guard := some (3, false) }) (v := (.bool false)) rfl (by kernel_rfl) (by kernel_rfl) (by kernel_rfl) (fun _ _ _ h => h) (Or.inl ⟨by rfl, ?e2y7⟩) (by assumption) ?e2r7
                  case e2y7 => (intro w hSw; (try dsimp only at hSw); go_simp; try (with_reducible rfl))
                  case e2r7 =>
                  try simp only [Act.put, List.setIfInBounds_toArray, List.set_cons_zero, List.set_cons_succ]
                  refine wpAnyH_take (i := 8) (oi := { dst := some 105, op := Go.Op.pick (Go.Operand.tmp 100) (Go.Operand.const (Go.Value.bool true)) (Go.Operand.tmp 104), type := 4, pos := "law.go:130", after := #[{ on := 3, ground := Go.Ground.data }, { on := 7, ground := Go.Ground.data }], guard := none }) (v := (.bool false)) rfl (by kernel_rfl) (by kernel_rfl) (by kernel_rfl) (fun _ _ _ h => h) (Or.inl ⟨by rfl, ?e2y8⟩) (by assumption) ?e2r8
                  case e2y8 => (intro w hSw; (try dsimp only at hSw); go_simp; try (with_reducible rfl))
                  case e2r8 =>
                  try simp only [Act.put, List.setIfInBounds_toArray, List.set_cons_zero, List.set_cons_succ]
                  refine wpAnyH_take (i := 9) (oi := { dst := some 106, op := Go.Op.move (Go.Operand.tmp 105), type := 4, pos := "law.go:130", after := #[{ on := 8, ground := Go.Ground.data }, { on := 3, ground := Go.Ground.chain }], guard := none }) (v := (.bool false)) rfl (by kernel_rfl) (by kernel_rfl) (by kernel_rfl) (fun _ _ _ h => h) (Or.inl ⟨by rfl, ?e2y9⟩) (by assumption) ?e2r9
                  case e2y9 => (intro w hSw; (try dsimp only at hSw); go_simp; try (with_reducible rfl))
                  case e2r9 =>
                  try simp only [Act.put, List.setIfInBounds_toArray, List.set_cons_zero, List.set_cons_succ]
                  refine wpAnyH_take (i := 10) (oi := { dst := some 107, op := Go.Op.move (Go.Operand.tmp 0), type := 22, pos := "law.go:130", after := #[{ on := 9, ground := Go.Ground.guard }], guard := some (9, false) }) (v := ?e2v10) rfl (by kernel_rfl) (by kernel_rfl) (by kernel_rfl) (fun _ _ _ h => h) (Or.inl ⟨by rfl, ?e2y10⟩) (by assumption) ?e2r10
                  case e2y10 => (intro w hSw; (try dsimp only at hSw); go_simp; try (with_reducible rfl))
                  case e2r10 =>
                  try simp only [Act.put, List.setIfInBounds_toArray, List.set_cons_zero, List.set_cons_succ]
                  refine wpAnyH_take (i := 11) (oi := { dst := some 108, op := Go.Op.move (Go.Operand.tmp 19), type := 3, pos := "law.go:130", after := #[{ on := 9, ground := Go.Ground.guard }], guard := some (9, false) }) (v := ?e2v11) rfl (by kernel_rfl) (by kernel_rfl) (by kernel_rfl) (fun _ _ _ h => h) (Or.inl ⟨by rfl, ?e2y11⟩) (by assumption) ?e2r11
                  case e2y11 => (intro w hSw; (try dsimp only at hSw); go_simp; try (with_reducible rfl))
                  case e2r11 =>
                  try simp only [Act.put, List.setIfInBounds_toArray, List.set_cons_zero, List.set_cons_succ]
                  refine wpAnyH_take (i := 12) (oi := { dst := some 109, op := Go.Op.indexAddr 22 (Go.Operand.tmp 107) (Go.Operand.tmp 108), type := 0, pos := "law.go:130", after := #[{ on := 10, ground := Go.Ground.data }, { on := 11, ground := Go.Ground.data }, { on := 9, ground := Go.Ground.guard }], guard := some (9, false) }) (v := ?e2v12) rfl (by kernel_rfl) (by kernel_rfl) (by kernel_rfl) (fun _ _ _ h => h) (Or.inl ⟨by rfl, ?e2y12⟩) (by assumption) ?e2r12
                  case e2y12 => (intro w hSw; (try dsimp only at hSw); go_simp; try (with_reducible rfl))
                  case e2r12 =>
                  try simp only [Act.put, List.setIfInBounds_toArray, List.set_cons_zero, List.set_cons_succ]
                  refine wpAnyH_take (i := 13) (oi := { dst := some 110, op := Go.Op.load 37 (Go.Operand.tmp 109), type := 37, pos := "law.go:130", after := #[{ on := 12, ground := Go.Ground.data }, { on := 9, ground := Go.Ground.guard }], guard := some (9, false) }) (v := (.agg #[.int .i64 x.1, .int .i64 x.2])) rfl (by kernel_rfl) (by kernel_rfl) (by kernel_rfl) (fun _ _ _ h => h) (yieldsIf_load_mid (by rfl) 37 (.tmp 109) rfl b' (o' + p * 2) rfl [.int .i64 x.1, .int .i64 x.2] _ (fun w' h => h.1) Try.underlying37 rfl (by kernel_rfl)) (by assumption) ?_
                  try simp only [Act.put, List.setIfInBounds_toArray, List.set_cons_zero, List.set_cons_succ]
                  refine wpAnyH_take (i := 14) (oi := { dst := some 111, op := Go.Op.fieldAddr 25 (Go.Operand.tmp 3) 2, type := 0, pos := "law.go:130", after := #[{ on := 9, ground := Go.Ground.guard }], guard := some (9, false) }) (v := ?e2v14) rfl (by kernel_rfl) (by kernel_rfl) (by kernel_rfl) (fun _ _ _ h => h) (Or.inl ⟨by rfl, ?e2y14⟩) (by assumption) ?e2r14
                  case e2y14 => (intro w hSw; (try dsimp only at hSw); go_simp; try (with_reducible rfl))
                  case e2r14 =>
                  try simp only [Act.put, List.setIfInBounds_toArray, List.set_cons_zero, List.set_cons_succ]
                  refine wpAnyH_take (i := 15) (oi := { dst := some 112, op := Go.Op.load 2 (Go.Operand.tmp 111), type := 2, pos := "law.go:130", after := #[{ on := 14, ground := Go.Ground.data }, { on := 9, ground := Go.Ground.guard }], guard := some (9, false) }) (v := (.int .i64 rate)) rfl (by kernel_rfl) (by kernel_rfl) (by kernel_rfl) (fun _ _ _ h => h) (yieldsIf_load1 (by rfl) 2 (.tmp 111) rfl (b := GT) (o := 2) rfl (fun w => by kernel_rfl) (fun w h => h.2)) (by assumption) ?_
                  try simp only [Act.put, List.setIfInBounds_toArray, List.set_cons_zero, List.set_cons_succ]
                  refine wpAnyH_ready (rs := [16]) (by kernel_rfl) (by simp) ?_
                  refine AllReadyH.cons (o := { dst := some 113, op := Go.Op.call { callee := Go.Callee.value (Go.Operand.func 11), args := #[Go.Operand.tmp 110, Go.Operand.tmp 112], argTypes := #[37, 2] }, type := 2, pos := "law.go:130", after := #[{ on := 13, ground := Go.Ground.data }, { on := 15, ground := Go.Ground.data }, { on := 9, ground := Go.Ground.chain }, { on := 9, ground := Go.Ground.guard }], guard := some (9, false) }) rfl (fun K hK => ?_) (AllReadyH.nil)
                  go_simp
                  refine (HWO.out _).mono ?_
                  rintro e w14 ⟨rfl, hb14⟩
                  go_simp
                  refine hK.out _ _ ?_ (fun hHeld => ?_)
                  · exact ⟨fun q v hv => (hb14.cell (p := ⟨b', _, none⟩) HLT.out.1).trans (HS0.out.1 q v hv), (hb14.cell (p := ⟨GT, 2, none⟩) HLT.out.2).trans HS0.out.2⟩
                  clear hK K
                  try simp only [Act.put, List.setIfInBounds_toArray, List.set_cons_zero, List.set_cons_succ]
                  refine wpAnyH_take (i := 17) (oi := { dst := some 114, op := Go.Op.binOp Go.BinOp.eql 2 (Go.Operand.tmp 113) (Go.Operand.const (Go.Value.int Go.IntKind.i64 0)) 2, type := 4, pos := "law.go:130", after := #[{ on := 16, ground := Go.Ground.data }, { on := 9, ground := Go.Ground.guard }], guard := some (9, false) }) (v := ?e2_16v17) rfl (by kernel_rfl) (by kernel_rfl) (by kernel_rfl) (fun _ _ _ h => h) (Or.inl ⟨by rfl, ?e2_16y17⟩) (by assumption) ?e2_16r17
                  case e2_16y17 => (intro w hSw; (try dsimp only at hSw); go_simp; try (with_reducible rfl))
                  case e2_16r17 =>
                  try simp only [Act.put, List.setIfInBounds_toArray, List.set_cons_zero, List.set_cons_succ]
                  refine wpAnyH_take (i := 18) (oi := { dst := some 115, op := Go.Op.pick (Go.Operand.tmp 106) (Go.Operand.const (Go.Value.bool true)) (Go.Operand.tmp 114), type := 4, pos := "law.go:130", after := #[{ on := 9, ground := Go.Ground.data }, { on := 17, ground := Go.Ground.data }], guard := none }) (v := ?e2_16v18) rfl (by kernel_rfl) (by kernel_rfl) (by kernel_rfl) (fun _ _ _ h => h) (Or.inl ⟨by rfl, ?e2_16y18⟩) (by assumption) ?e2_16r18
                  case e2_16y18 => (intro w hSw; (try dsimp only at hSw); go_simp; try (with_reducible rfl))
                  case e2_16r18 =>
                  try simp only [Act.put, List.setIfInBounds_toArray, List.set_cons_zero, List.set_cons_succ]
                  refine wpAnyH_done (by kernel_rfl) ?_ _
                  have b14 : Below w13.heap.size w13 w14 := (Below.refl _ _).drew.trans hb14
                  have HS1 := Lib.hid (show w14.drew.rangeAt b' (o' + p * 2) [.int .i64 x.1, .int .i64 x.2] ∧ w14.drew.cell? ⟨GT, 2, none⟩ = some (.int .i64 rate) from ⟨fun q v hv => (b14.cell (p := ⟨b', _, none⟩) HLT.out.1).trans (HS0.out.1 q v hv), (b14.cell (p := ⟨GT, 2, none⟩) HLT.out.2).trans HS0.out.2⟩)
                  have B14 := Lib.hid (hb13.out.trans (b14.mono hb13.out.size))
                  have HLT1 := Lib.hid (show b' < w14.drew.heap.size ∧ GT < w14.drew.heap.size from ⟨Nat.lt_of_lt_of_le HLT.out.1 b14.size, Nat.lt_of_lt_of_le HLT.out.2 b14.size⟩)
                  clear b14 hb14
                  go_upto_region 28 with fail
                  refine wp_region_held_drew (S := (fun w' => w'.rangeAt b' (o' + p * 2) [.int .i64 x.1, .int .i64 x.2] ∧ w'.cell? ⟨GT, 2, none⟩ = some (.int .i64 rate))) (by kernel_rfl) ?_ (fun hHeld => ?_)
                  · exact HS1.out
                  refine wpAnyH_take (i := 0) (oi := { dst := some 117, op := Go.Op.move (Go.Operand.tmp 16), type := 2, pos := "law.go:134", after := #[], guard := none }) (v := ?f2v0) rfl (by kernel_rfl) (by kernel_rfl) (by kernel_rfl) (fun _ _ _ h => h) (Or.inl ⟨by rfl, ?f2y0⟩) (by assumption) ?f2r0
                  case f2y0 => (intro w hSw; (try dsimp only at hSw); go_simp; try (with_reducible rfl))
                  case f2r0 =>
                  try simp only [Act.put, List.setIfInBounds_toArray, List.set_cons_zero, List.set_cons_succ]
                  refine wpAnyH_take (i := 1) (oi := { dst := some 118, op := Go.Op.move (Go.Operand.tmp 0), type := 22, pos := "law.go:134", after := #[], guard := none }) (v := ?f2v1) rfl (by kernel_rfl) (by kernel_rfl) (by kernel_rfl) (fun _ _ _ h => h) (Or.inl ⟨by rfl, ?f2y1⟩) (by assumption) ?f2r1
                  case f2y1 => (intro w hSw; (try dsimp only at hSw); go_simp; try (with_reducible rfl))
                  case f2r1 =>
                  try simp only [Act.put, List.setIfInBounds_toArray, List.set_cons_zero, List.set_cons_succ]
                  refine wpAnyH_take (i := 2) (oi := { dst := some 119, op := Go.Op.move (Go.Operand.tmp 19), type := 3, pos := "law.go:134", after := #[], guard := none }) (v := ?f2v2) rfl (by kernel_rfl) (by kernel_rfl) (by kernel_rfl) (fun _ _ _ h => h) (Or.inl ⟨by rfl, ?f2y2⟩) (by assumption) ?f2r2
                  case f2y2 => (intro w hSw; (try dsimp only at hSw); go_simp; try (with_reducible rfl))
                  case f2r2 =>
                  try simp only [Act.put, List.setIfInBounds_toArray, List.set_cons_zero, List.set_cons_succ]
                  refine wpAnyH_take (i := 3) (oi := { dst := some 120, op := Go.Op.indexAddr 22 (Go.Operand.tmp 118) (Go.Operand.tmp 119), type := 0, pos := "law.go:134", after := #[{ on := 1, ground := Go.Ground.data }, { on := 2, ground := Go.Ground.data }], guard := none }) (v := ?f2v3) rfl (by kernel_rfl) (by kernel_rfl) (by kernel_rfl) (fun _ _ _ h => h) (Or.inl ⟨by rfl, ?f2y3⟩) (by assumption) ?f2r3
                  case f2y3 => (intro w hSw; (try dsimp only at hSw); go_simp; try (with_reducible rfl))
                  case f2r3 =>
                  try simp only [Act.put, List.setIfInBounds_toArray, List.set_cons_zero, List.set_cons_succ]
                  refine wpAnyH_take (i := 4) (oi := { dst := some 121, op := Go.Op.load 37 (Go.Operand.tmp 120), type := 37, pos := "law.go:134", after := #[{ on := 3, ground := Go.Ground.data }], guard := none }) (v := (.agg #[.int .i64 x.1, .int .i64 x.2])) rfl (by kernel_rfl) (by kernel_rfl) (by kernel_rfl) (fun _ _ _ h => h) (yieldsIf_load_mid (by rfl) 37 (.tmp 120) rfl b' (o' + p * 2) rfl [.int .i64 x.1, .int .i64 x.2] _ (fun w' h => h.1) Try.underlying37 rfl (by kernel_rfl)) (by assumption) ?_
                  try simp only [Act.put, List.setIfInBounds_toArray, List.set_cons_zero, List.set_cons_succ]
                  refine wpAnyH_take (i := 5) (oi := { dst := some 122, op := Go.Op.fieldAddr 25 (Go.Operand.tmp 3) 2, type := 0, pos := "law.go:134", after := #[], guard := none }) (v := ?f2v5) rfl (by kernel_rfl) (by kernel_rfl) (by kernel_rfl) (fun _ _ _ h => h) (Or.inl ⟨by rfl, ?f2y5⟩) (by assumption) ?f2r5
                  case f2y5 => (intro w hSw; (try dsimp only at hSw); go_simp; try (with_reducible rfl))
                  case f2r5 =>
                  try simp only [Act.put, List.setIfInBounds_toArray, List.set_cons_zero, List.set_cons_succ]
                  refine wpAnyH_take (i := 6) (oi := { dst := some 123, op := Go.Op.load 2 (Go.Operand.tmp 122), type := 2, pos := "law.go:134", after := #[{ on := 5, ground := Go.Ground.data }], guard := none }) (v := (.int .i64 rate)) rfl (by kernel_rfl) (by kernel_rfl) (by kernel_rfl) (fun _ _ _ h => h) (yieldsIf_load1 (by rfl) 2 (.tmp 122) rfl (b := GT) (o := 2) rfl (fun w => by kernel_rfl) (fun w h => h.2)) (by assumption) ?_
                  try simp only [Act.put, List.setIfInBounds_toArray, List.set_cons_zero, List.set_cons_succ]
                  refine wpAnyH_ready (rs := [7]) (by kernel_rfl) (by simp) ?_
                  refine AllReadyH.cons (o := { dst := some 124, op := Go.Op.call { callee := Go.Callee.value (Go.Operand.func 11), args := #[Go.Operand.tmp 121, Go.Operand.tmp 123], argTypes := #[37, 2] }, type := 2, pos := "law.go:134", after := #[{ on := 4, ground := Go.Ground.data }, { on := 6, ground := Go.Ground.data }], guard := none }) rfl (fun K hK => ?_) (AllReadyH.nil)
                  go_simp
                  refine (HWO.out _).mono ?_
                  rintro e w15 ⟨rfl, hb15⟩
                  go_simp
                  refine hK.out _ _ ?_ (fun hHeld => ?_)
                  · exact ⟨fun q v hv => (hb15.cell (p := ⟨b', _, none⟩) HLT1.out.1).trans (HS1.out.1 q v hv), (hb15.cell (p := ⟨GT, 2, none⟩) HLT1.out.2).trans HS1.out.2⟩
                  clear hK K
                  try simp only [Act.put, List.setIfInBounds_toArray, List.set_cons_zero, List.set_cons_succ]
                  refine wpAnyH_take (i := 8) (oi := { dst := some 125, op := Go.Op.binOp Go.BinOp.add 2 (Go.Operand.tmp 117) (Go.Operand.tmp 124) 2, type := 2, pos := "law.go:134", after := #[{ on := 0, ground := Go.Ground.data }, { on := 7, ground := Go.Ground.data }], guard := none }) (v := ?f2_7v8) rfl (by kernel_rfl) (by kernel_rfl) (by kernel_rfl) (fun _ _ _ h => h) (Or.inl ⟨by rfl, ?f2_7y8⟩) (by assumption) ?f2_7r8
                  case f2_7y8 => (intro w hSw; (try dsimp only at hSw); go_simp; try (with_reducible rfl))
                  case f2_7r8 =>
                  try simp only [Act.put, List.setIfInBounds_toArray, List.set_cons_zero, List.set_cons_succ]
                  refine wpAnyH_take (i := 9) (oi := { dst := some 16, op := Go.Op.assign (Go.Operand.tmp 125), type := 2, pos := "law.go:134", after := #[{ on := 8, ground := Go.Ground.data }, { on := 7, ground := Go.Ground.chain }, { on := 0, ground := Go.Ground.phase }, { on := 1, ground := Go.Ground.phase }, { on := 2, ground := Go.Ground.phase }, { on := 3, ground := Go.Ground.phase }, { on := 4, ground := Go.Ground.phase }, { on := 5, ground := Go.Ground.phase }, { on := 6, ground := Go.Ground.phase }, { on := 7, ground := Go.Ground.phase }, { on := 8, ground := Go.Ground.phase }], guard := none }) (v := ?f2_7v9) rfl (by kernel_rfl) (by kernel_rfl) (by kernel_rfl) (fun _ _ _ h => h) (Or.inl ⟨by rfl, ?f2_7y9⟩) (by assumption) ?f2_7r9
                  case f2_7y9 => (intro w hSw; (try dsimp only at hSw); go_simp; try (with_reducible rfl))
                  case f2_7r9 =>
                  try simp only [Act.put, List.setIfInBounds_toArray, List.set_cons_zero, List.set_cons_succ]
                  refine wpAnyH_done (by kernel_rfl) ?_ _
                  have B15 := Lib.hid (B14.out.drew.trans (hb15.mono B14.out.drew.size))
                  clear hb15
                  go_wp2_with fail
                  exact ⟨⟨j + 1, hjl, by first | rfl | exact next (by omega), by rw [HNS.out], by rw [HNL.out], B15⟩, by first | exact meas hjl (by omega) | (show nP - ((j : Int) + 1).toNat < nP - (j : Int).toNat; omega)⟩
                · as_aux_lemma =>
                  have dj : decide ((j : Int) < (nP : Int)) = false := decide_eq_false (by omega)
                  have hst : sumW rate l' (ps.take j) = t := by rw [List.take_of_length_le (by rw [← HNP.out]; omega)]; exact HFI.out.s
                  rw [hst]
                  have B13 := Lib.hid (B12.out.trans (hb13.out.mono B12.out.size))
                  have y0 := hcz.1
                  have y1 := hcz.2.1
                  clear hst hcz
                  go_wp2_with fail
                  exact ⟨⟨3, by omega, by first | rfl | exact next (by omega), B13⟩, by decide⟩
            · as_aux_lemma =>
              have hce := HCF.out
              rw [hbad.1] at hce
              have dM : decide (max need 0 ≤ a) = false := decide_eq_false (by have := hbad.2; unfold lowF at this; split at this <;> omega)
              clear HCF hbad
              go_upto_region 18 with (first
                | (refine wpList_load_vrow rfl 30 (.tmp 6) rfl rfl W11 Try.underlying30 HNT.out ?_)
                | (go_at_call 18; refine hce.mono ?_; rintro e w12 ⟨p1, rfl, hp1, hb12⟩))
              have B12 := Lib.hid (hb11.out.trans (hb12.mono hb11.out.size))
              have hcz := HTC.out _ _ (V11.out.below hb12 V11.out.lt)
              have y0 := hcz.1
              clear hcz hb12 hp1
              go_wp2_with fail
              exact ⟨⟨3, by omega, by first | rfl | exact next (by omega), B12⟩, by decide⟩
          · rw [show ((3 : Nat) : Int) = 3 from rfl]
            have hcf := F11.out.cell (i := 3) rfl
            have HCF := Lib.hid (HF3.out G6 (.slice Au nX cu) w11 U11.out L11.out)
            rcases HGG3.out with ⟨hok, t, hfi, hnt, htm⟩ | hbad
            · have hce := HCF.out
              rw [hok] at hce
              have HFI := Lib.hid hfi
              have dN : decide (t < need) = false := decide_eq_false (by have := hnt; unfold lowF at this; split at this <;> omega)
              obtain ⟨ps, hps⟩ : ∃ z, z = R3.2 := ⟨_, rfl⟩
              rw [← hps] at hce HFI
              clear HCF hok hfi hnt hps
              go_upto_region 18 with (first
                | (refine wpList_load_vrow rfl 30 (.tmp 6) rfl rfl W11 Try.underlying30 HNT.out ?_)
                | (go_at_call 20; refine hce.mono ?_; rintro e w12 ⟨p1, rfl, hp1, hb12⟩))
              have B12 := Lib.hid (hb11.out.trans (hb12.mono hb11.out.size))
              have V12 := Lib.hid (V11.out.below hb12 V11.out.lt)
              have R12 := Lib.hid (RowR.below R11.out (hb12.mono (Nat.le_trans L10.out.1 hb11.out.size)))
              have HB12 := Lib.hid (Nat.le_trans L10.out.1 B12.out.size)
              obtain ⟨Ap, cp, rfl, hpc1, hpc2⟩ := Ints.form hp1
              have hpl : (ps.map natI).length = ps.length := List.length_map _
              rw [hpl] at hp1 hpc1
              rw [hpl]
              obtain ⟨nP, hnP⟩ : ∃ z, z = ps.length := ⟨_, rfl⟩
              rw [← hnP] at hp1 hpc1
              rw [← hnP]
              have HP1 := Lib.hid hp1
              have HNP := Lib.hid hnP
              clear hp1 hb12 hpl hnP hce hcf
              go_wp2_with fail
              go_loopw [16, 17, 19, 93] (fun ss sl s19 si wr => ∃ j : Nat, j ≤ nP ∧ si = .int .i64 (j : Int) ∧ ss = .int .i64 (sumW rate l' (ps.take j)) ∧ sl = .int .i64 (lastI (ps.take j)) ∧ Hid (Below w12.heap.size w12 wr)) (fun _ _ _ si _ => nP - (intOf si).toNat)
              case atStart => exact ⟨0, Nat.zero_le _, rfl, rfl, rfl, Lib.hid (Below.refl _ _)⟩
              case round =>
                obtain ⟨j, hj, rfl, rfl, rfl, hb13⟩ := hrel
                obtain ⟨w13, rfl⟩ : ∃ z : World, z = wr := ⟨_, rfl⟩
                have hcz := HTC.out _ _ (V12.out.below hb13.out V12.out.lt)
                by_cases hjl : j < nP
                · as_aux_lemma =>
                  have dj : decide ((j : Int) < (nP : Int)) = true := decide_eq_true (by omega)
                  obtain ⟨p, hp⟩ : ∃ p, ps[j]? = some p := ⟨_, List.getElem?_eq_getElem (by rw [← HNP.out]; exact hjl)⟩
                  obtain ⟨x, hx, hxw⟩ := HFI.out.a p (List.mem_of_getElem? hp)
                  have hpX : p < nX := by rw [HNX.out]; exact (List.getElem?_eq_some_iff.1 hx).1
                  have hlast := last_lt HFI.out.r hp
                  have hnl := last_next hp
                  have hns : sumW rate l' (ps.take (j + 1)) = sumW rate l' (ps.take j) + worthF rate x.1 x.2 := by
                    rw [List.take_add_one, hp, Option.toList_some, sumW_append]
                    show _ + (wAt rate l' p + 0) = _
                    unfold wAt
                    rw [hx]
                    show _ + (worthF rate x.1 x.2 + 0) = _
                    omega
                  have hs1 := sumW_nonneg rate l' (ps.take j)
                  have hs2 : sumW rate l' (ps.take (j + 1)) ≤ t := by
                    have h1 := HFI.out.s
                    rw [← List.take_append_drop (j + 1) ps, sumW_append] at h1
                    have h2 := sumW_nonneg rate l' (ps.drop (j + 1))
                    omega
                  have hcx := HCO.out x (List.mem_of_getElem? hx)
                  have hwo := fun W => rworth_any rate x.1 x.2 W hcx.1 hcx.2.1 hcx.2.2.1 hcx.2.2.2
                  obtain ⟨wv, hwv⟩ : ∃ z, z = worthF rate x.1 x.2 := ⟨_, rfl⟩
                  rw [← hwv] at hxw hns
                  simp only [← hwv] at hwo
                  obtain ⟨sj, hsj⟩ : ∃ z, z = sumW rate l' (ps.take j) := ⟨_, rfl⟩
                  obtain ⟨la, hla⟩ : ∃ z, z = lastI (ps.take j) := ⟨_, rfl⟩
                  rw [← hsj] at hns hs1
                  rw [hns] at hs2
                  rw [← hla] at hlast
                  rw [← hsj, ← hla]
                  have dl : decide ((p : Int) ≤ la) = false := decide_eq_false (by omega)
                  have dx : decide ((nX : Int) ≤ (p : Int)) = false := decide_eq_false (by omega)
                  have dw : decide (wv = 0) = false := decide_eq_false (by omega)
                  have dw2 : (wv == 0) = false := beq_eq_false_iff_ne.2 (by omega)
                  have hwr2 : IntKind.i64.wrap (sj + wv) = sj + wv := IntWalk.i64_in _ (by omega)
                  have hXw : CrR w13 B (.slice A' nX c') l' := RowR.below R12.out (hb13.out.mono HB12.out)
                  obtain ⟨b', o', k', ef, _, _, hbl, hc0, hc1⟩ := hXw.at hx
                  injection ef with ef1 ef2 ef3
                  subst ef1
                  clear ef2 ef3
                  have hPw : Ints .i64 w13 w12.heap.size (.slice Ap nP cp) (ps.map natI) := Ints.below HP1.out hb13.out
                  obtain ⟨b2, o2, c2, ef, hb2l, hcp⟩ := Ints.at_lt hPw (i := j) (x := (p : Int)) (by rw [List.getElem?_map, hp]; rfl)
                  injection ef with ef1 ef2 ef3
                  subst ef1
                  clear ef2 ef3
                  have hrg : w13.rangeAt b' (o' + p * 2) [.int .i64 x.1, .int .i64 x.2] := fun q v hv => by match q, hv with | 0, hv => (injection hv with hv; subst hv; exact hc0) | 1, hv => (injection hv with hv; subst hv; exact hc1)
                  have HS0 := Lib.hid (And.intro hrg hcz.2.2)
                  have HLT := Lib.hid (show b' < w13.heap.size ∧ GT < w13.heap.size from ⟨Nat.lt_of_lt_of_le hbl (Nat.le_trans HB12.out hb13.out.size), Nat.lt_of_lt_of_le V12.out.lt hb13.out.size⟩)
                  have HWO := Lib.hid hwo
                  have HNS := Lib.hid hns
                  have HNL := Lib.hid hnl
                  have hip0 : (0 : Int) ≤ (p : Int) := by omega
                  have hip1 : (p : Int) < (nX : Int) := by omega
                  clear hp hx hns hnl hs1 hs2 hcx hwo hwv hsj hla hXw hPw hrg hcz hlast hc0 hc1 hbl hb2l hxw
                  go_upto_region 25 with fail
                  clear hcp
                  refine wp_region_held_drew (S := (fun w' => w'.rangeAt b' (o' + p * 2) [.int .i64 x.1, .int .i64 x.2] ∧ w'.cell? ⟨GT, 2, none⟩ = some (.int .i64 rate))) (by kernel_rfl) ?_ (fun hHeld => ?_)
                  · exact HS0.out
                  refine wpAnyH_take (i := 0) (oi := { dst := some 97, op := Go.Op.move (Go.Operand.tmp 19), type := 3, pos := "law.go:130", after := #[], guard := none }) (v := ?e3v0) rfl (by kernel_rfl) (by kernel_rfl) (by kernel_rfl) (fun _ _ _ h => h) (Or.inl ⟨by rfl, ?e3y0⟩) (by assumption) ?e3r0
                  case e3y0 => (intro w hSw; (try dsimp only at hSw); go_simp; try (with_reducible rfl))
                  case e3r0 =>
                  try simp only [Act.put, List.setIfInBounds_toArray, List.set_cons_zero, List.set_cons_succ]
                  refine wpAnyH_take (i := 1) (oi := { dst := some 98, op := Go.Op.move (Go.Operand.tmp 17), type := 3, pos := "law.go:130", after := #[], guard := none }) (v := ?e3v1) rfl (by kernel_rfl) (by kernel_rfl) (by kernel_rfl) (fun _ _ _ h => h) (Or.inl ⟨by rfl, ?e3y1⟩) (by assumption) ?e3r1
                  case e3y1 => (intro w hSw; (try dsimp only at hSw); go_simp; try (with_reducible rfl))
                  case e3r1 =>
                  try simp only [Act.put, List.setIfInBounds_toArray, List.set_cons_zero, List.set_cons_succ]
                  refine wpAnyH_take (i := 2) (oi := { dst := some 99, op := Go.Op.binOp Go.BinOp.leq 3 (Go.Operand.tmp 97) (Go.Operand.tmp 98) 3, type := 4, pos := "law.go:130", after := #[{ on := 0, ground := Go.Ground.data }, { on := 1, ground := Go.Ground.data }], guard := none }) (v := (.bool false)) rfl (by kernel_rfl) (by kernel_rfl) (by kernel_rfl) (fun _ _ _ h => h) (Or.inl ⟨by rfl, ?e3y2⟩) (by assumption) ?e3r2
                  case e3y2 => (intro w hSw; (try dsimp only at hSw); go_simp; try (with_reducible rfl))
                  case e3r2 =>
                  try simp only [Act.put, List.setIfInBounds_toArray, List.set_cons_zero, List.set_cons_succ]
                  refine wpAnyH_take (i := 3) (oi := { dst := some 100, op := Go.Op.move (Go.Operand.tmp 99), type := 4, pos := "law.go:130", after := #[{ on := 2, ground := Go.Ground.data }], guard := none }) (v := (.bool false)) rfl (by kernel_rfl) (by kernel_rfl) (by kernel_rfl) (fun _ _ _ h => h) (Or.inl ⟨by rfl, ?e3y3⟩) (by assumption) ?e3r3
                  case e3y3 => (intro w hSw; (try dsimp only at hSw); go_simp; try (with_reducible rfl))
                  case e3r3 =>
                  try simp only [Act.put, List.setIfInBounds_toArray, List.set_cons_zero, List.set_cons_succ]
                  refine wpAnyH_take (i := 4) (oi := { dst := some 101, op := Go.Op.move (Go.Operand.tmp 19), type := 3, pos := "law.go:130", after := #[{ on := 3, ground := Go.Ground.guard }], guard := some (3, false) }) (v := ?e3v4) rfl (by kernel_rfl) (by kernel_rfl) (by kernel_rfl) (fun _ _ _ h => h) (Or.inl ⟨by rfl, ?e3y4⟩) (by assumption) ?e3r4
                  case e3y4 => (intro w hSw; (try dsimp only at hSw); go_simp; try (with_reducible rfl))
                  case e3r4 =>
                  try simp only [Act.put, List.setIfInBounds_toArray, List.set_cons_zero, List.set_cons_succ]
                  refine wpAnyH_take (i := 5) (oi := { dst := some 102, op := Go.Op.move (Go.Operand.tmp 0), type := 22, pos := "law.go:130", after := #[{ on := 3, ground := Go.Ground.guard }], guard := some (3, false) }) (v := ?e3v5) rfl (by kernel_rfl) (by kernel_rfl) (by kernel_rfl) (fun _ _ _ h => h) (Or.inl ⟨by rfl, ?e3y5⟩) (by assumption) ?e3r5
                  case e3y5 => (intro w hSw; (try dsimp only at hSw); go_simp; try (with_reducible rfl))
                  case e3r5 =>
                  try simp only [Act.put, List.setIfInBounds_toArray, List.set_cons_zero, List.set_cons_succ]
                  refine wpAnyH_take (i := 6) (oi := { dst := some 103, op := Go.Op.call { callee := Go.Callee.builtin Go.Builtin.len, args := #[Go.Operand.tmp 102], argTypes := #[22] }, type := 3, pos := "law.go:130", after := #[{ on := 5, ground := Go.Ground.data }, { on := 3, ground := Go.Ground.guard }], guard := some (3, false) }) (v := ?e3v6) rfl (by kernel_rfl) (by kernel_rfl) (by kernel_rfl) (fun _ _ _ h => h) (Or.inl ⟨by rfl, ?e3y6⟩) (by assumption) ?e3r6
                  case e3y6 => (intro w hSw; (try dsimp only at hSw); go_simp; try (with_reducible rfl))
                  case e3r6 =>
                  try simp only [Act.put, List.setIfInBounds_toArray, List.set_cons_zero, List.set_cons_succ]
                  refine wpAnyH_take (i := 7) (oi := { dst := some 104, op := Go.Op.binOp Go.BinOp.geq 3 (Go.Operand.tmp 101) (Go.Operand.tmp 103) 3, type := 4, pos := "law.go:130", after := #[{ on := 4, ground := Go.Ground.data }, { on := 6, ground := Go.Ground.data }, { on := 3, ground := Go.Ground.guard }], guard := some (3, false) }) (v := (.bool false)) rfl (by kernel_rfl) (by kernel_rfl) (by kernel_rfl) (fun _ _ _ h => h) (Or.inl ⟨by rfl, ?e3y7⟩) (by assumption) ?e3r7
                  case e3y7 => (intro w hSw; (try dsimp only at hSw); go_simp; try (with_reducible rfl))
                  case e3r7 =>
                  try simp only [Act.put, List.setIfInBounds_toArray, List.set_cons_zero, List.set_cons_succ]
                  refine wpAnyH_take (i := 8) (oi := { dst := some 105, op := Go.Op.pick (Go.Operand.tmp 100) (Go.Operand.const (Go.Value.bool true)) (Go.Operand.tmp 104), type := 4, pos := "law.go:130", after := #[{ on := 3, ground := Go.Ground.data }, { on := 7, ground := Go.Ground.data }], guard := none }) (v := (.bool false)) rfl (by kernel_rfl) (by kernel_rfl) (by kernel_rfl) (fun _ _ _ h => h) (Or.inl ⟨by rfl, ?e3y8⟩) (by assumption) ?e3r8
                  case e3y8 => (intro w hSw; (try dsimp only at hSw); go_simp; try (with_reducible rfl))
                  case e3r8 =>
                  try simp only [Act.put, List.setIfInBounds_toArray, List.set_cons_zero, List.set_cons_succ]
                  refine wpAnyH_take (i := 9) (oi := { dst := some 106, op := Go.Op.move (Go.Operand.tmp 105), type := 4, pos := "law.go:130", after := #[{ on := 8, ground := Go.Ground.data }, { on := 3, ground := Go.Ground.chain }], guard := none }) (v := (.bool false)) rfl (by kernel_rfl) (by kernel_rfl) (by kernel_rfl) (fun _ _ _ h => h) (Or.inl ⟨by rfl, ?e3y9⟩) (by assumption) ?e3r9
                  case e3y9 => (intro w hSw; (try dsimp only at hSw); go_simp; try (with_reducible rfl))
                  case e3r9 =>
                  try simp only [Act.put, List.setIfInBounds_toArray, List.set_cons_zero, List.set_cons_succ]
                  refine wpAnyH_take (i := 10) (oi := { dst := some 107, op := Go.Op.move (Go.Operand.tmp 0), type := 22, pos := "law.go:130", after := #[{ on := 9, ground := Go.Ground.guard }], guard := some (9, false) }) (v := ?e3v10) rfl (by kernel_rfl) (by kernel_rfl) (by kernel_rfl) (fun _ _ _ h => h) (Or.inl ⟨by rfl, ?e3y10⟩) (by assumption) ?e3r10
                  case e3y10 => (intro w hSw; (try dsimp only at hSw); go_simp; try (with_reducible rfl))
                  case e3r10 =>
                  try simp only [Act.put, List.setIfInBounds_toArray, List.set_cons_zero, List.set_cons_succ]
                  refine wpAnyH_take (i := 11) (oi := { dst := some 108, op := Go.Op.move (Go.Operand.tmp 19), type := 3, pos := "law.go:130", after := #[{ on := 9, ground := Go.Ground.guard }], guard := some (9, false) }) (v := ?e3v11) rfl (by kernel_rfl) (by kernel_rfl) (by kernel_rfl) (fun _ _ _ h => h) (Or.inl ⟨by rfl, ?e3y11⟩) (by assumption) ?e3r11
                  case e3y11 => (intro w hSw; (try dsimp only at hSw); go_simp; try (with_reducible rfl))
                  case e3r11 =>
                  try simp only [Act.put, List.setIfInBounds_toArray, List.set_cons_zero, List.set_cons_succ]
                  refine wpAnyH_take (i := 12) (oi := { dst := some 109, op := Go.Op.indexAddr 22 (Go.Operand.tmp 107) (Go.Operand.tmp 108), type := 0, pos := "law.go:130", after := #[{ on := 10, ground := Go.Ground.data }, { on := 11, ground := Go.Ground.data }, { on := 9, ground := Go.Ground.guard }], guard := some (9, false) }) (v := ?e3v12) rfl (by kernel_rfl) (by kernel_rfl) (by kernel_rfl) (fun _ _ _ h => h) (Or.inl ⟨by rfl, ?e3y12⟩) (by assumption) ?e3r12
                  case e3y12 => (intro w hSw; (try dsimp only at hSw); go_simp; try (with_reducible rfl))
                  case e3r12 =>
                  try simp only [Act.put, List.setIfInBounds_toArray, List.set_cons_zero, List.set_cons_succ]
                  refine wpAnyH_take (i := 13) (oi := { dst := some 110, op := Go.Op.load 37 (Go.Operand.tmp 109), type := 37, pos := "law.go:130", after := #[{ on := 12, ground := Go.Ground.data }, { on := 9, ground := Go.Ground.guard }], guard := some (9, false) }) (v := (.agg #[.int .i64 x.1, .int .i64 x.2])) rfl (by kernel_rfl) (by kernel_rfl) (by kernel_rfl) (fun _ _ _ h => h) (yieldsIf_load_mid (by rfl) 37 (.tmp 109) rfl b' (o' + p * 2) rfl [.int .i64 x.1, .int .i64 x.2] _ (fun w' h => h.1) Try.underlying37 rfl (by kernel_rfl)) (by assumption) ?_
                  try simp only [Act.put, List.setIfInBounds_toArray, List.set_cons_zero, List.set_cons_succ]
                  refine wpAnyH_take (i := 14) (oi := { dst := some 111, op := Go.Op.fieldAddr 25 (Go.Operand.tmp 3) 2, type := 0, pos := "law.go:130", after := #[{ on := 9, ground := Go.Ground.guard }], guard := some (9, false) }) (v := ?e3v14) rfl (by kernel_rfl) (by kernel_rfl) (by kernel_rfl) (fun _ _ _ h => h) (Or.inl ⟨by rfl, ?e3y14⟩) (by assumption) ?e3r14
                  case e3y14 => (intro w hSw; (try dsimp only at hSw); go_simp; try (with_reducible rfl))
                  case e3r14 =>
                  try simp only [Act.put, List.setIfInBounds_toArray, List.set_cons_zero, List.set_cons_succ]
                  refine wpAnyH_take (i := 15) (oi := { dst := some 112, op := Go.Op.load 2 (Go.Operand.tmp 111), type := 2, pos := "law.go:130", after := #[{ on := 14, ground := Go.Ground.data }, { on := 9, ground := Go.Ground.guard }], guard := some (9, false) }) (v := (.int .i64 rate)) rfl (by kernel_rfl) (by kernel_rfl) (by kernel_rfl) (fun _ _ _ h => h) (yieldsIf_load1 (by rfl) 2 (.tmp 111) rfl (b := GT) (o := 2) rfl (fun w => by kernel_rfl) (fun w h => h.2)) (by assumption) ?_
                  try simp only [Act.put, List.setIfInBounds_toArray, List.set_cons_zero, List.set_cons_succ]
                  refine wpAnyH_ready (rs := [16]) (by kernel_rfl) (by simp) ?_
                  refine AllReadyH.cons (o := { dst := some 113, op := Go.Op.call { callee := Go.Callee.value (Go.Operand.func 11), args := #[Go.Operand.tmp 110, Go.Operand.tmp 112], argTypes := #[37, 2] }, type := 2, pos := "law.go:130", after := #[{ on := 13, ground := Go.Ground.data }, { on := 15, ground := Go.Ground.data }, { on := 9, ground := Go.Ground.chain }, { on := 9, ground := Go.Ground.guard }], guard := some (9, false) }) rfl (fun K hK => ?_) (AllReadyH.nil)
                  go_simp
                  refine (HWO.out _).mono ?_
                  rintro e w14 ⟨rfl, hb14⟩
                  go_simp
                  refine hK.out _ _ ?_ (fun hHeld => ?_)
                  · exact ⟨fun q v hv => (hb14.cell (p := ⟨b', _, none⟩) HLT.out.1).trans (HS0.out.1 q v hv), (hb14.cell (p := ⟨GT, 2, none⟩) HLT.out.2).trans HS0.out.2⟩
                  clear hK K
                  try simp only [Act.put, List.setIfInBounds_toArray, List.set_cons_zero, List.set_cons_succ]
                  refine wpAnyH_take (i := 17) (oi := { dst := some 114, op := Go.Op.binOp Go.BinOp.eql 2 (Go.Operand.tmp 113) (Go.Operand.const (Go.Value.int Go.IntKind.i64 0)) 2, type := 4, pos := "law.go:130", after := #[{ on := 16, ground := Go.Ground.data }, { on := 9, ground := Go.Ground.guard }], guard := some (9, false) }) (v := ?e3_16v17) rfl (by kernel_rfl) (by kernel_rfl) (by kernel_rfl) (fun _ _ _ h => h) (Or.inl ⟨by rfl, ?e3_16y17⟩) (by assumption) ?e3_16r17
                  case e3_16y17 => (intro w hSw; (try dsimp only at hSw); go_simp; try (with_reducible rfl))
                  case e3_16r17 =>
                  try simp only [Act.put, List.setIfInBounds_toArray, List.set_cons_zero, List.set_cons_succ]
                  refine wpAnyH_take (i := 18) (oi := { dst := some 115, op := Go.Op.pick (Go.Operand.tmp 106) (Go.Operand.const (Go.Value.bool true)) (Go.Operand.tmp 114), type := 4, pos := "law.go:130", after := #[{ on := 9, ground := Go.Ground.data }, { on := 17, ground := Go.Ground.data }], guard := none }) (v := ?e3_16v18) rfl (by kernel_rfl) (by kernel_rfl) (by kernel_rfl) (fun _ _ _ h => h) (Or.inl ⟨by rfl, ?e3_16y18⟩) (by assumption) ?e3_16r18
                  case e3_16y18 => (intro w hSw; (try dsimp only at hSw); go_simp; try (with_reducible rfl))
                  case e3_16r18 =>
                  try simp only [Act.put, List.setIfInBounds_toArray, List.set_cons_zero, List.set_cons_succ]
                  refine wpAnyH_done (by kernel_rfl) ?_ _
                  have b14 : Below w13.heap.size w13 w14 := (Below.refl _ _).drew.trans hb14
                  have HS1 := Lib.hid (show w14.drew.rangeAt b' (o' + p * 2) [.int .i64 x.1, .int .i64 x.2] ∧ w14.drew.cell? ⟨GT, 2, none⟩ = some (.int .i64 rate) from ⟨fun q v hv => (b14.cell (p := ⟨b', _, none⟩) HLT.out.1).trans (HS0.out.1 q v hv), (b14.cell (p := ⟨GT, 2, none⟩) HLT.out.2).trans HS0.out.2⟩)
                  have B14 := Lib.hid (hb13.out.trans (b14.mono hb13.out.size))
                  have HLT1 := Lib.hid (show b' < w14.drew.heap.size ∧ GT < w14.drew.heap.size from ⟨Nat.lt_of_lt_of_le HLT.out.1 b14.size, Nat.lt_of_lt_of_le HLT.out.2 b14.size⟩)
                  clear b14 hb14
                  go_upto_region 28 with fail
                  refine wp_region_held_drew (S := (fun w' => w'.rangeAt b' (o' + p * 2) [.int .i64 x.1, .int .i64 x.2] ∧ w'.cell? ⟨GT, 2, none⟩ = some (.int .i64 rate))) (by kernel_rfl) ?_ (fun hHeld => ?_)
                  · exact HS1.out
                  refine wpAnyH_take (i := 0) (oi := { dst := some 117, op := Go.Op.move (Go.Operand.tmp 16), type := 2, pos := "law.go:134", after := #[], guard := none }) (v := ?f3v0) rfl (by kernel_rfl) (by kernel_rfl) (by kernel_rfl) (fun _ _ _ h => h) (Or.inl ⟨by rfl, ?f3y0⟩) (by assumption) ?f3r0
                  case f3y0 => (intro w hSw; (try dsimp only at hSw); go_simp; try (with_reducible rfl))
                  case f3r0 =>
                  try simp only [Act.put, List.setIfInBounds_toArray, List.set_cons_zero, List.set_cons_succ]
                  refine wpAnyH_take (i := 1) (oi := { dst := some 118, op := Go.Op.move (Go.Operand.tmp 0), type := 22, pos := "law.go:134", after := #[], guard := none }) (v := ?f3v1) rfl (by kernel_rfl) (by kernel_rfl) (by kernel_rfl) (fun _ _ _ h => h) (Or.inl ⟨by rfl, ?f3y1⟩) (by assumption) ?f3r1
                  case f3y1 => (intro w hSw; (try dsimp only at hSw); go_simp; try (with_reducible rfl))
                  case f3r1 =>
                  try simp only [Act.put, List.setIfInBounds_toArray, List.set_cons_zero, List.set_cons_succ]
                  refine wpAnyH_take (i := 2) (oi := { dst := some 119, op := Go.Op.move (Go.Operand.tmp 19), type := 3, pos := "law.go:134", after := #[], guard := none }) (v := ?f3v2) rfl (by kernel_rfl) (by kernel_rfl) (by kernel_rfl) (fun _ _ _ h => h) (Or.inl ⟨by rfl, ?f3y2⟩) (by assumption) ?f3r2
                  case f3y2 => (intro w hSw; (try dsimp only at hSw); go_simp; try (with_reducible rfl))
                  case f3r2 =>
                  try simp only [Act.put, List.setIfInBounds_toArray, List.set_cons_zero, List.set_cons_succ]
                  refine wpAnyH_take (i := 3) (oi := { dst := some 120, op := Go.Op.indexAddr 22 (Go.Operand.tmp 118) (Go.Operand.tmp 119), type := 0, pos := "law.go:134", after := #[{ on := 1, ground := Go.Ground.data }, { on := 2, ground := Go.Ground.data }], guard := none }) (v := ?f3v3) rfl (by kernel_rfl) (by kernel_rfl) (by kernel_rfl) (fun _ _ _ h => h) (Or.inl ⟨by rfl, ?f3y3⟩) (by assumption) ?f3r3
                  case f3y3 => (intro w hSw; (try dsimp only at hSw); go_simp; try (with_reducible rfl))
                  case f3r3 =>
                  try simp only [Act.put, List.setIfInBounds_toArray, List.set_cons_zero, List.set_cons_succ]
                  refine wpAnyH_take (i := 4) (oi := { dst := some 121, op := Go.Op.load 37 (Go.Operand.tmp 120), type := 37, pos := "law.go:134", after := #[{ on := 3, ground := Go.Ground.data }], guard := none }) (v := (.agg #[.int .i64 x.1, .int .i64 x.2])) rfl (by kernel_rfl) (by kernel_rfl) (by kernel_rfl) (fun _ _ _ h => h) (yieldsIf_load_mid (by rfl) 37 (.tmp 120) rfl b' (o' + p * 2) rfl [.int .i64 x.1, .int .i64 x.2] _ (fun w' h => h.1) Try.underlying37 rfl (by kernel_rfl)) (by assumption) ?_
                  try simp only [Act.put, List.setIfInBounds_toArray, List.set_cons_zero, List.set_cons_succ]
                  refine wpAnyH_take (i := 5) (oi := { dst := some 122, op := Go.Op.fieldAddr 25 (Go.Operand.tmp 3) 2, type := 0, pos := "law.go:134", after := #[], guard := none }) (v := ?f3v5) rfl (by kernel_rfl) (by kernel_rfl) (by kernel_rfl) (fun _ _ _ h => h) (Or.inl ⟨by rfl, ?f3y5⟩) (by assumption) ?f3r5
                  case f3y5 => (intro w hSw; (try dsimp only at hSw); go_simp; try (with_reducible rfl))
                  case f3r5 =>
                  try simp only [Act.put, List.setIfInBounds_toArray, List.set_cons_zero, List.set_cons_succ]
                  refine wpAnyH_take (i := 6) (oi := { dst := some 123, op := Go.Op.load 2 (Go.Operand.tmp 122), type := 2, pos := "law.go:134", after := #[{ on := 5, ground := Go.Ground.data }], guard := none }) (v := (.int .i64 rate)) rfl (by kernel_rfl) (by kernel_rfl) (by kernel_rfl) (fun _ _ _ h => h) (yieldsIf_load1 (by rfl) 2 (.tmp 122) rfl (b := GT) (o := 2) rfl (fun w => by kernel_rfl) (fun w h => h.2)) (by assumption) ?_
                  try simp only [Act.put, List.setIfInBounds_toArray, List.set_cons_zero, List.set_cons_succ]
                  refine wpAnyH_ready (rs := [7]) (by kernel_rfl) (by simp) ?_
                  refine AllReadyH.cons (o := { dst := some 124, op := Go.Op.call { callee := Go.Callee.value (Go.Operand.func 11), args := #[Go.Operand.tmp 121, Go.Operand.tmp 123], argTypes := #[37, 2] }, type := 2, pos := "law.go:134", after := #[{ on := 4, ground := Go.Ground.data }, { on := 6, ground := Go.Ground.data }], guard := none }) rfl (fun K hK => ?_) (AllReadyH.nil)
                  go_simp
                  refine (HWO.out _).mono ?_
                  rintro e w15 ⟨rfl, hb15⟩
                  go_simp
                  refine hK.out _ _ ?_ (fun hHeld => ?_)
                  · exact ⟨fun q v hv => (hb15.cell (p := ⟨b', _, none⟩) HLT1.out.1).trans (HS1.out.1 q v hv), (hb15.cell (p := ⟨GT, 2, none⟩) HLT1.out.2).trans HS1.out.2⟩
                  clear hK K
                  try simp only [Act.put, List.setIfInBounds_toArray, List.set_cons_zero, List.set_cons_succ]
                  refine wpAnyH_take (i := 8) (oi := { dst := some 125, op := Go.Op.binOp Go.BinOp.add 2 (Go.Operand.tmp 117) (Go.Operand.tmp 124) 2, type := 2, pos := "law.go:134", after := #[{ on := 0, ground := Go.Ground.data }, { on := 7, ground := Go.Ground.data }], guard := none }) (v := ?f3_7v8) rfl (by kernel_rfl) (by kernel_rfl) (by kernel_rfl) (fun _ _ _ h => h) (Or.inl ⟨by rfl, ?f3_7y8⟩) (by assumption) ?f3_7r8
                  case f3_7y8 => (intro w hSw; (try dsimp only at hSw); go_simp; try (with_reducible rfl))
                  case f3_7r8 =>
                  try simp only [Act.put, List.setIfInBounds_toArray, List.set_cons_zero, List.set_cons_succ]
                  refine wpAnyH_take (i := 9) (oi := { dst := some 16, op := Go.Op.assign (Go.Operand.tmp 125), type := 2, pos := "law.go:134", after := #[{ on := 8, ground := Go.Ground.data }, { on := 7, ground := Go.Ground.chain }, { on := 0, ground := Go.Ground.phase }, { on := 1, ground := Go.Ground.phase }, { on := 2, ground := Go.Ground.phase }, { on := 3, ground := Go.Ground.phase }, { on := 4, ground := Go.Ground.phase }, { on := 5, ground := Go.Ground.phase }, { on := 6, ground := Go.Ground.phase }, { on := 7, ground := Go.Ground.phase }, { on := 8, ground := Go.Ground.phase }], guard := none }) (v := ?f3_7v9) rfl (by kernel_rfl) (by kernel_rfl) (by kernel_rfl) (fun _ _ _ h => h) (Or.inl ⟨by rfl, ?f3_7y9⟩) (by assumption) ?f3_7r9
                  case f3_7y9 => (intro w hSw; (try dsimp only at hSw); go_simp; try (with_reducible rfl))
                  case f3_7r9 =>
                  try simp only [Act.put, List.setIfInBounds_toArray, List.set_cons_zero, List.set_cons_succ]
                  refine wpAnyH_done (by kernel_rfl) ?_ _
                  have B15 := Lib.hid (B14.out.drew.trans (hb15.mono B14.out.drew.size))
                  clear hb15
                  go_wp2_with fail
                  exact ⟨⟨j + 1, hjl, by first | rfl | exact next (by omega), by rw [HNS.out], by rw [HNL.out], B15⟩, by first | exact meas hjl (by omega) | (show nP - ((j : Int) + 1).toNat < nP - (j : Int).toNat; omega)⟩
                · as_aux_lemma =>
                  have dj : decide ((j : Int) < (nP : Int)) = false := decide_eq_false (by omega)
                  have hst : sumW rate l' (ps.take j) = t := by rw [List.take_of_length_le (by rw [← HNP.out]; omega)]; exact HFI.out.s
                  rw [hst]
                  have B13 := Lib.hid (B12.out.trans (hb13.out.mono B12.out.size))
                  have y0 := hcz.1
                  have y1 := hcz.2.1
                  clear hst hcz
                  go_wp2_with fail
                  exact ⟨⟨4, by omega, by first | rfl | exact next (by omega), B13⟩, by decide⟩
            · as_aux_lemma =>
              have hce := HCF.out
              rw [hbad.1] at hce
              have dM : decide (max need 0 ≤ a) = false := decide_eq_false (by have := hbad.2; unfold lowF at this; split at this <;> omega)
              clear HCF hbad
              go_upto_region 18 with (first
                | (refine wpList_load_vrow rfl 30 (.tmp 6) rfl rfl W11 Try.underlying30 HNT.out ?_)
                | (go_at_call 20; refine hce.mono ?_; rintro e w12 ⟨p1, rfl, hp1, hb12⟩))
              have B12 := Lib.hid (hb11.out.trans (hb12.mono hb11.out.size))
              have hcz := HTC.out _ _ (V11.out.below hb12 V11.out.lt)
              have y0 := hcz.1
              clear hcz hb12 hp1
              go_wp2_with fail
              exact ⟨⟨4, by omega, by first | rfl | exact next (by omega), B12⟩, by decide⟩
        · as_aux_lemma =>
          obtain rfl : k = 4 := by omega
          rw [show ((4 : Nat) : Int) = 4 from rfl]
          go_wp2_with fail
          go_ret
          exact ⟨rfl, B10.out.trans (hb11.out.mono B10.out.size)⟩
end Go.Proofs.Ytammeedmccblcaa.Cs
