/-
  A hand's selection by chance. Conditions: at most four hundred coins, no more together than may be.
-/
import Derived.Test.YtammeedmccblcaaCsPv
import Derived.Test.YtammeedmccblcaaCsBs
import Derived.Test.YtammeedmccblcaaCsDeal
namespace Go.Proofs.Ytammeedmccblcaa.Cs
open Go.RowKit

theorem nil_no2 (g n c : Nat) (w : World) : (binOp BinOp.neq 58 (.slice (some ⟨g, 0, none⟩) n c) (.slice none 0 0)).run Try.prog w = .ok (.bool true) w := by kernel_rfl
theorem nil_yes2 (w : World) : (binOp BinOp.neq 58 (.slice none 0 0) (.slice none 0 0)).run Try.prog w = .ok (.bool false) w := by kernel_rfl
theorem great_row {w : World} {g : Nat} {c : Cn} (h : VRow w g 75 (cnC c)) : CnR w w.heap.size (.slice (some ⟨g, 0, none⟩) 1 1) [c] :=
  ⟨_, _, rfl, Nat.le_refl _, by unfold maxLen; simp, fun _ => ⟨g, 0, rfl, h.lt, h.range (fun j v hv => by rw [Nat.zero_add]; simpa using hv)⟩⟩
set_option maxRecDepth 100000 in
set_option maxHeartbeats 12800000 in
theorem thrown_none (B : Nat) (need extra rate tries seed tot : Int) (H : List Cn) (u : Value) (w : World) (hu : CnR w B u H) (hB : B ≤ w.heap.size) (hp : Pos H) (hs : sumD H ≤ 2100000000000000) (hl : H.length ≤ 400) (ht : 0 ≤ tries)  (hg : leastD (H.take (greatN need H)) = none) :
    Calls Try.prog 34 #[.agg (hnC (tkC need extra rate tries seed) u tot).toArray] w fun e w' => ∃ v, e = .returned (.tuple #[v, .int .i64 (throwR rollF need tries seed H).1]) ∧ CnR w' w'.heap.size v (throwR rollF need tries seed H).2 ∧ Below w.heap.size w w' := by
  obtain ⟨A, c, rfl, hlc, hcm⟩ := hu.form
  obtain ⟨w1, hw1⟩ : ∃ z, z = w.alloc (.cells #[.int .i64 need, .int .i64 extra, .int .i64 rate, .int .i64 tries, .int .u64 seed, .slice A H.length c, .int .i64 tot] 60) := ⟨_, rfl⟩
  have hb1 : Below w.heap.size w w1 := by rw [hw1]; exact (Below.refl _ _).alloc (Nat.le_refl _) _
  have hv1 : VRow w1 w.heap.size 60 [.int .i64 need, .int .i64 extra, .int .i64 rate, .int .i64 tries, .int .u64 seed, .slice A H.length c, .int .i64 tot] := by rw [hw1]; exact VRow.new _ _ _
  have hpt := parted_any B need extra rate tries seed tot H (.slice A H.length c) w1 (hu.below (hb1.mono hB)) (Nat.le_trans hB hb1.size) (by omega)
  rw [hg] at hpt
  obtain ⟨R, hR⟩ : ∃ z, z = throwR rollF need tries seed H := ⟨_, rfl⟩
  rw [← hR]
  unfold throwR at hR
  rw [hg] at hR
  have hsd : sumD (H.drop (greatN need H)) ≤ 2100000000000000 := by
    have h1 : sumD H = sumD (H.take (greatN need H)) + sumD (H.drop (greatN need H)) := by rw [← sumD_append, List.take_append_drop]
    have h2 : 0 ≤ sumD (H.take (greatN need H)) := sumD_nonneg fun c hc => hp c (List.mem_of_mem_take hc)
    omega
  have hpd : Pos (H.drop (greatN need H)) := fun c hc => hp c (List.mem_of_mem_drop hc)
  have hld : (H.drop (greatN need H)).length ≤ 400 := by rw [List.length_drop]; omega
  obtain ⟨L, hL⟩ : ∃ z, z = H.drop (greatN need H) := ⟨_, rfl⟩
  rw [← hL] at hpt hR hsd hpd hld
  have hadd : addF 0 (L.map (·.1)) = (sumD L, 0) := by rw [addF_sum hpd 0 (Int.le_refl _) (by omega), Int.zero_add, if_pos hsd]
  obtain ⟨G0, hG0⟩ : ∃ z, z = w.heap.size := ⟨_, rfl⟩
  rw [← hG0] at hv1
  have HR := Lib.hid hR
  have HPT := Lib.hid hpt
  have HV1 := Lib.hid hv1
  have HB1 := Lib.hid hb1
  have HW1 := Lib.hid hw1
  have HG0 := Lib.hid hG0
  have HB := Lib.hid hB
  have HPD := Lib.hid hpd
  have HLD := Lib.hid hld
  have HADD := Lib.hid hadd
  obtain ⟨SL, hSL⟩ : ∃ z, z = sumD L := ⟨_, rfl⟩
  rw [← hSL] at hsd
  have HSL := Lib.hid hSL
  have HSD := Lib.hid hsd
  clear hR hpt hv1 hb1 hw1 hG0 hB hpd hld hadd hL hg hp hs hl hu hSL hsd
  unfold tkC hnC at HPT
  unfold tkC hnC
  go_enter Try.func34, Try.ntmps34
  go_upto_region 1 with fail
  change Code.wp _ _ _ _ (w.alloc (.cells #[.int .i64 need, .int .i64 extra, .int .i64 rate, .int .i64 tries, .int .u64 seed, .slice A _ c, .int .i64 tot] 60))
  rw [← HW1.out, ← HG0.out]
  go_upto_region 2 with (first
    | (refine wpList_load_vrow rfl 60 (.tmp 1) rfl rfl HV1.out Try.underlying60 (by kernel_rfl) ?_)
    | (go_at_call 42; refine HPT.out.mono ?_; rintro e w2 ⟨vg, vs, rfl, hvs, hvg, hb2⟩))
  obtain rfl : vg = .slice none 0 0 := hvg
  obtain ⟨As, cs, rfl, _, _⟩ := RowR.form hvs
  have V2 := Lib.hid (HV1.out.below hb2 HV1.out.lt)
  have B2 := Lib.hid (HB1.out.trans (hb2.mono HB1.out.size))
  have S2 := Lib.hid hvs
  have HTO := Lib.hid (total_any B (.slice As L.length cs) L w2 hvs (Nat.le_trans HB.out B2.out.size) (by have := HLD.out; omega))
  rw [HADD.out] at HTO
  dsimp only at HTO
  rw [← HSL.out] at HTO
  clear hvs hb2
  go_upto_region 3 with (first
    | (go_at_call 43; refine HTO.out.mono ?_; rintro e w3 ⟨rfl, hb3⟩))
  have V3 := Lib.hid (V2.out.below hb3 V2.out.lt)
  have B3 := Lib.hid (B2.out.trans (hb3.mono B2.out.size))
  have S3 := Lib.hid (show CnR w3 B (.slice As L.length cs) L from RowR.below S2.out (hb3.mono (Nat.le_trans HB.out B2.out.size)))
  clear hb3 HTO
  have x0 : w3.cell? ⟨G0, 0, none⟩ = some (.int .i64 need) := V3.out.cell rfl
  by_cases hsm : SL < need
  · as_aux_lemma =>
    have ds : decide (SL < need) = true := decide_eq_true hsm
    have hRe : R = ((16 : Int), ([] : List Cn)) := by rw [HR.out, if_pos (by rw [← HSL.out]; exact hsm)]
    clear HR
    subst hRe
    have hny := nil_yes; have hny2 := nil_yes2
    go_wp2_with fail
    go_ret2
    exact ⟨.slice none 0 0, rfl, RowR.nil _ _, B3.out⟩
  · have ds : decide (SL < need) = false := decide_eq_false hsm
    have HR2 := HR.out
    rw [if_neg (by rw [← HSL.out]; exact hsm)] at HR2
    try dsimp only at HR2
    have HBE := Lib.hid (best_any B need extra rate tries seed tot SL L (.slice A H.length c) (.slice As L.length cs) w3 S3.out (Nat.le_trans HB.out B3.out.size) HPD.out HLD.out ht)
    rw [← HSL.out] at HR2
    obtain ⟨BF, hBF⟩ : ∃ z, z = bestF rollF need L (roundsF tries) (L, SL) (seedF seed) := ⟨_, rfl⟩
    rw [← hBF] at HBE HR2
    unfold tkC hnC at HBE
    have HR3 := Lib.hid HR2
    clear HR HR2 hBF hsm
    have hny := nil_yes; have hny2 := nil_yes2
    have hV3 := V3.out
    go_upto_region 8 with (first
      | (refine wpList_load_vrow rfl 60 (.tmp 1) rfl rfl hV3 Try.underlying60 (by kernel_rfl) ?_)
      | (go_at_call 44; refine HBE.out.mono ?_; rintro e w4 ⟨vb, rfl, hvb, hb4⟩))
    have V4 := Lib.hid (V3.out.below hb4 V3.out.lt)
    have B4 := Lib.hid (B3.out.trans (hb4.mono B3.out.size))
    have x1 : w4.cell? ⟨G0, 0, none⟩ = some (.int .i64 need) := V4.out.cell rfl
    obtain ⟨Ab, cb, rfl, _, _⟩ := RowR.form hvb
    have HVB := Lib.hid hvb
    clear hvb hb4 x0 hV3
    have hRe : R = (0, BF.1) := HR3.out
    clear HR3
    subst hRe
    go_wp2_with fail
    go_ret2
    exact ⟨_, rfl, HVB.out, B4.out⟩
set_option maxRecDepth 100000 in
set_option maxHeartbeats 12800000 in
theorem thrown_some (B : Nat) (need extra rate tries seed tot : Int) (H : List Cn) (u : Value) (w : World) (hu : CnR w B u H) (hB : B ≤ w.heap.size) (hp : Pos H) (hs : sumD H ≤ 2100000000000000) (hl : H.length ≤ 400) (ht : 0 ≤ tries) (gc : Cn) (hg : leastD (H.take (greatN need H)) = some gc) :
    Calls Try.prog 34 #[.agg (hnC (tkC need extra rate tries seed) u tot).toArray] w fun e w' => ∃ v, e = .returned (.tuple #[v, .int .i64 (throwR rollF need tries seed H).1]) ∧ CnR w' w'.heap.size v (throwR rollF need tries seed H).2 ∧ Below w.heap.size w w' := by
  obtain ⟨A, c, rfl, hlc, hcm⟩ := hu.form
  obtain ⟨w1, hw1⟩ : ∃ z, z = w.alloc (.cells #[.int .i64 need, .int .i64 extra, .int .i64 rate, .int .i64 tries, .int .u64 seed, .slice A H.length c, .int .i64 tot] 60) := ⟨_, rfl⟩
  have hb1 : Below w.heap.size w w1 := by rw [hw1]; exact (Below.refl _ _).alloc (Nat.le_refl _) _
  have hv1 : VRow w1 w.heap.size 60 [.int .i64 need, .int .i64 extra, .int .i64 rate, .int .i64 tries, .int .u64 seed, .slice A H.length c, .int .i64 tot] := by rw [hw1]; exact VRow.new _ _ _
  have hpt := parted_any B need extra rate tries seed tot H (.slice A H.length c) w1 (hu.below (hb1.mono hB)) (Nat.le_trans hB hb1.size) (by omega)
  rw [hg] at hpt
  obtain ⟨R, hR⟩ : ∃ z, z = throwR rollF need tries seed H := ⟨_, rfl⟩
  rw [← hR]
  unfold throwR at hR
  rw [hg] at hR
  have hsd : sumD (H.drop (greatN need H)) ≤ 2100000000000000 := by
    have h1 : sumD H = sumD (H.take (greatN need H)) + sumD (H.drop (greatN need H)) := by rw [← sumD_append, List.take_append_drop]
    have h2 : 0 ≤ sumD (H.take (greatN need H)) := sumD_nonneg fun c hc => hp c (List.mem_of_mem_take hc)
    omega
  have hpd : Pos (H.drop (greatN need H)) := fun c hc => hp c (List.mem_of_mem_drop hc)
  have hld : (H.drop (greatN need H)).length ≤ 400 := by rw [List.length_drop]; omega
  obtain ⟨L, hL⟩ : ∃ z, z = H.drop (greatN need H) := ⟨_, rfl⟩
  rw [← hL] at hpt hR hsd hpd hld
  have hadd : addF 0 (L.map (·.1)) = (sumD L, 0) := by rw [addF_sum hpd 0 (Int.le_refl _) (by omega), Int.zero_add, if_pos hsd]
  obtain ⟨G0, hG0⟩ : ∃ z, z = w.heap.size := ⟨_, rfl⟩
  rw [← hG0] at hv1
  have HR := Lib.hid hR
  have HPT := Lib.hid hpt
  have HV1 := Lib.hid hv1
  have HB1 := Lib.hid hb1
  have HW1 := Lib.hid hw1
  have HG0 := Lib.hid hG0
  have HB := Lib.hid hB
  have HPD := Lib.hid hpd
  have HLD := Lib.hid hld
  have HADD := Lib.hid hadd
  obtain ⟨SL, hSL⟩ : ∃ z, z = sumD L := ⟨_, rfl⟩
  rw [← hSL] at hsd
  have HSL := Lib.hid hSL
  have HSD := Lib.hid hsd
  clear hR hpt hv1 hb1 hw1 hG0 hB hpd hld hadd hL hg hp hs hl hu hSL hsd
  unfold tkC hnC at HPT
  unfold tkC hnC
  go_enter Try.func34, Try.ntmps34
  go_upto_region 1 with fail
  change Code.wp _ _ _ _ (w.alloc (.cells #[.int .i64 need, .int .i64 extra, .int .i64 rate, .int .i64 tries, .int .u64 seed, .slice A _ c, .int .i64 tot] 60))
  rw [← HW1.out, ← HG0.out]
  go_upto_region 2 with (first
    | (refine wpList_load_vrow rfl 60 (.tmp 1) rfl rfl HV1.out Try.underlying60 (by kernel_rfl) ?_)
    | (go_at_call 42; refine HPT.out.mono ?_; rintro e w2 ⟨vg, vs, rfl, hvs, hvg, hb2⟩))
  obtain ⟨gg, rfl, hgl, hgr⟩ := hvg
  obtain ⟨As, cs, rfl, _, _⟩ := RowR.form hvs
  have V2 := Lib.hid (HV1.out.below hb2 HV1.out.lt)
  have B2 := Lib.hid (HB1.out.trans (hb2.mono HB1.out.size))
  have S2 := Lib.hid hvs
  have HTO := Lib.hid (total_any B (.slice As L.length cs) L w2 hvs (Nat.le_trans HB.out B2.out.size) (by have := HLD.out; omega))
  rw [HADD.out] at HTO
  dsimp only at HTO
  rw [← HSL.out] at HTO
  clear hvs hb2
  go_upto_region 3 with (first
    | (go_at_call 43; refine HTO.out.mono ?_; rintro e w3 ⟨rfl, hb3⟩))
  have V3 := Lib.hid (V2.out.below hb3 V2.out.lt)
  have B3 := Lib.hid (B2.out.trans (hb3.mono B2.out.size))
  have S3 := Lib.hid (show CnR w3 B (.slice As L.length cs) L from RowR.below S2.out (hb3.mono (Nat.le_trans HB.out B2.out.size)))
  have GR3 := Lib.hid (hgr.below hb3 hgr.lt)
  clear hb3 HTO
  have x0 : w3.cell? ⟨G0, 0, none⟩ = some (.int .i64 need) := V3.out.cell rfl
  by_cases hsm : SL < need
  · as_aux_lemma =>
    have ds : decide (SL < need) = true := decide_eq_true hsm
    have hRe : R = ((0 : Int), [gc]) := by rw [HR.out, if_pos (by rw [← HSL.out]; exact hsm)]
    clear HR
    subst hRe
    have hny := nil_no gg 0 1 1; have hny2 := nil_no2 gg 1 1
    go_wp2_with fail
    go_ret2
    exact ⟨_, rfl, great_row GR3.out, B3.out⟩
  · have ds : decide (SL < need) = false := decide_eq_false hsm
    have HR2 := HR.out
    rw [if_neg (by rw [← HSL.out]; exact hsm)] at HR2
    try dsimp only at HR2
    have HBE := Lib.hid (best_any B need extra rate tries seed tot SL L (.slice A H.length c) (.slice As L.length cs) w3 S3.out (Nat.le_trans HB.out B3.out.size) HPD.out HLD.out ht)
    rw [← HSL.out] at HR2
    obtain ⟨BF, hBF⟩ : ∃ z, z = bestF rollF need L (roundsF tries) (L, SL) (seedF seed) := ⟨_, rfl⟩
    rw [← hBF] at HBE HR2
    unfold tkC hnC at HBE
    have HR3 := Lib.hid HR2
    clear HR HR2 hBF hsm
    have hny := nil_no gg 0 1 1; have hny2 := nil_no2 gg 1 1
    have hV3 := V3.out
    go_upto_region 8 with (first
      | (refine wpList_load_vrow rfl 60 (.tmp 1) rfl rfl hV3 Try.underlying60 (by kernel_rfl) ?_)
      | (go_at_call 44; refine HBE.out.mono ?_; rintro e w4 ⟨vb, rfl, hvb, hb4⟩))
    have V4 := Lib.hid (V3.out.below hb4 V3.out.lt)
    have B4 := Lib.hid (B3.out.trans (hb4.mono B3.out.size))
    have x1 : w4.cell? ⟨G0, 0, none⟩ = some (.int .i64 need) := V4.out.cell rfl
    obtain ⟨Ab, cb, rfl, _, _⟩ := RowR.form hvb
    have HVB := Lib.hid hvb
    have GR4 := Lib.hid (GR3.out.below hb4 GR3.out.lt)
    have z0 : w4.cell? ⟨gg, 0, none⟩ = some (.int .i64 gc.1) := GR4.out.cell rfl
    clear hvb hb4 x0 hV3
    by_cases h1 : BF.2 = need
    · as_aux_lemma =>
      have d1 : decide (BF.2 = need) = true := decide_eq_true h1
      have d2 : (BF.2 == need) = true := beq_iff_eq.2 h1
      have d4 : decide (¬ BF.2 = need) = false := decide_eq_false (fun h => h h1)
      have d5 : (BF.2 != need) = false := by rw [bne, d2]; rfl
      have hRe : R = (0, BF.1) := by rw [HR3.out, if_neg (fun h => h.1 h1)]
      clear HR3
      subst hRe
      clear h1
      go_wp2_with fail
      go_ret2
      exact ⟨_, rfl, HVB.out, B4.out⟩
    · have d1 : decide (BF.2 = need) = false := decide_eq_false h1
      have d2 : (BF.2 == need) = false := beq_eq_false_iff_ne.2 h1
      have d4 : decide (¬ BF.2 = need) = true := decide_eq_true h1
      have d5 : (BF.2 != need) = true := by rw [bne, d2]; rfl
      by_cases h2 : gc.1 ≤ BF.2
      · as_aux_lemma =>
        have d3 : decide (gc.1 ≤ BF.2) = true := decide_eq_true h2
        have hRe : R = (0, [gc]) := by rw [HR3.out, if_pos ⟨h1, h2⟩]
        clear HR3
        subst hRe
        clear h1 h2
        go_wp2_with fail
        go_ret2
        exact ⟨_, rfl, great_row GR4.out, B4.out⟩
      · as_aux_lemma =>
        have d3 : decide (gc.1 ≤ BF.2) = false := decide_eq_false h2
        have hRe : R = (0, BF.1) := by rw [HR3.out, if_neg (fun h => h2 h.2)]
        clear HR3
        subst hRe
        clear h1 h2
        go_wp2_with fail
        go_ret2
        exact ⟨_, rfl, HVB.out, B4.out⟩
theorem thrown_any (B : Nat) (need extra rate tries seed tot : Int) (H : List Cn) (u : Value) (w : World) (hu : CnR w B u H) (hB : B ≤ w.heap.size) (hp : Pos H) (hs : sumD H ≤ 2100000000000000) (hl : H.length ≤ 400) (ht : 0 ≤ tries) :
    Calls Try.prog 34 #[.agg (hnC (tkC need extra rate tries seed) u tot).toArray] w fun e w' => ∃ v, e = .returned (.tuple #[v, .int .i64 (throwR rollF need tries seed H).1]) ∧ CnR w' w'.heap.size v (throwR rollF need tries seed H).2 ∧ Below w.heap.size w w' := by
  cases hg : leastD (H.take (greatN need H)) with
  | none => exact thrown_none B need extra rate tries seed tot H u w hu hB hp hs hl ht hg
  | some gc => exact thrown_some B need extra rate tries seed tot H u w hu hB hp hs hl ht gc hg
end Go.Proofs.Ytammeedmccblcaa.Cs
