/-
  ScriptKinds returns true for every input, and leaves each argument as it was. Conditions: none beyond the statement's own.
-/
import Derived.Test.YtpfobbhoahnebaaJ11
import Derived.Test.YtpfobbhoahnebaaJ5
/-
  The law on kinds. Conditions: none.
-/
namespace Go.Proofs.Ytpfobbhoahnebaa
open Go.RowKit

set_option maxRecDepth 100000 in
set_option maxHeartbeats 25600000 in
theorem kinds_law (B : Nat) (x : Value) (bs : List UInt8) (w : World) (hx : Byt w B x bs) (hB : B ≤ w.heap.size) :
    Calls Try.prog 6 #[x] w fun e w' => e = .returned (.bool true) ∧ Below w.heap.size w w' := by
  obtain ⟨cs, hcs⟩ : ∃ cs, cs = bs.take 1000 := ⟨_, rfl⟩
  have hcl : cs.length ≤ 1000 := by rw [hcs]; exact List.length_take_le _ _
  have HX := Lib.hid hx
  obtain ⟨A, c, rfl⟩ := hx.form
  have HCS := Lib.hid hcs
  clear hx hcs
  go_enter Try.func6, Try.ntmps6
  go_wp2_with fail
  refine (awake_any w).mono ?_
  rintro e w1 ⟨rfl, hb1⟩
  have HB1 := Lib.hid hb1
  clear hb1
  go_wp2_with fail
  refine (shorts_any B _ bs 1000 (by omega) w1 (HX.out.below (HB1.out.mono hB))).mono ?_
  rintro e w2 ⟨⟨y1, rfl, hy1⟩, rfl⟩
  rw [← HCS.out] at hy1
  obtain ⟨A3, c3, rfl⟩ := hy1.form
  have HD := Lib.hid hy1
  clear hy1 HX HCS
  go_wp2_with fail
  refine (spare_any B _ cs w1 HD.out (Nat.le_trans hB HB1.out.size) (by omega)).mono ?_
  rintro e w2 ⟨rfl, hrow, hb2⟩
  obtain ⟨hin, hall⟩ := row_tinted hrow (by omega)
  have HIN := Lib.hid hin
  have HAT := Lib.hid hall
  have hlt := hrow.lt
  have HB12 := Lib.hid hlt
  have hal := fun (W : World) (hb : Below w2.heap.size w2 W) => by
    have h := own_of_row (b0 := w.heap.size) (hrow.turns (Turns.of_below (S := fun _ => False) hb) (fun h => h)) HB1.out.size (by rw [tinted_length]; unfold maxLen; omega)
    rw [tinted_length] at h
    exact (show OwnB W w.heap.size (.slice (some ⟨w1.heap.size, 0, none⟩) (cs.length + 9) (cs.length + 9)) (tinted cs) from h)
  have HALL := Lib.hid hal
  have HB2 := Lib.hid (HB1.out.trans (hb2.mono HB1.out.size))
  have HD2 := Lib.hid (HD.out.below (hb2.mono (Nat.le_trans hB HB1.out.size)))
  clear hin hall hrow hb2 HD hlt hal
  have hkp := kindB_parts cs
  have hk1 := kind_any _ _ cs w2 HIN.out (Nat.le_refl _) (by omega)
  have hk2 := fun (W : World) (h : Byt W B (.slice A3 cs.length c3) cs) (hs : B ≤ W.heap.size) => rkind_any B _ cs W h hs (by omega)
  obtain ⟨kd, hkd⟩ : ∃ k, k = kindB cs := ⟨_, rfl⟩
  rw [← hkd] at hkp hk1 hk2
  obtain ⟨K, KL⟩ := kd
  have HK1 := Lib.hid hk1
  have HK2 := Lib.hid hk2
  have HKP := Lib.hid hkp
  have hKK : (K != K) = false := by simp
  clear hkp hk1 hk2 hkd
  go_wp2_with fail
  refine HK1.out.mono ?_
  rintro e w3 ⟨v3, M, rfl, hM, hbag, hal, hb3⟩
  obtain ⟨A3v, c3v, rfl⟩ := BagAt.form hbag
  have hM : M.map (·.2) = KL := hM
  have HM17 := Lib.hid (show M.length ≤ 17 by have := HKP.out.1; rw [← hM, List.length_map] at this; exact this)
  have HML := Lib.hid (show ∀ p ∈ M, p.2.length ≤ 60000000 from fun p hp => by have := HKP.out.2 p.2 (by rw [← hM]; exact List.mem_map.2 ⟨p, hp, rfl⟩); omega)
  have HMM := Lib.hid hM
  have HBAG := Lib.hid hbag
  have HAL := Lib.hid hal
  have HB3 := Lib.hid (HB2.out.trans (hb3.mono HB2.out.size))
  have HB23 := Lib.hid hb3
  have HD3 := Lib.hid (HD2.out.below (hb3.mono (Nat.le_trans hB HB2.out.size)))
  clear hM hbag hal hb3 HD2 HK1 HKP
  go_wp2_with fail
  refine (HK2.out w3 HD3.out (Nat.le_trans hB HB3.out.size)).mono ?_
  rintro e w4 ⟨v4, R, rfl, hR, hrbag, hb4⟩
  obtain ⟨A4v, c4v, rfl⟩ := hrbag.form
  have hR : R.map (·.2) = KL := hR
  have HSAME := Lib.hid (same_yes _ _ _ _ M R w4 (HBAG.out.toR.below hb4) hrbag (HMM.out.trans hR.symm))
  have HB34 := Lib.hid hb4
  have HB24 := Lib.hid (HB23.out.trans (hb4.mono HB23.out.size))
  have HD4 := Lib.hid (HD3.out.below (hb4.mono (Nat.le_trans hB HB3.out.size)))
  have HBL := Lib.hid (Nat.le_trans hB (Nat.le_trans HB3.out.size hb4.size))
  clear hR hrbag hb4 HK2 HD3
  go_wp2_with fail
  refine HSAME.out.mono ?_
  rintro e w5 ⟨rfl, hb5⟩
  have HB25 := Lib.hid (HB24.out.trans (hb5.mono HB24.out.size))
  have HB35 := Lib.hid (HB34.out.trans (hb5.mono HB34.out.size))
  have HD5 := Lib.hid (HD4.out.below (hb5.mono HBL.out))
  have HBL5 := Lib.hid (Nat.le_trans HBL.out hb5.size)
  clear hb5 HD4
  have HTL : Hid ((tinted cs).length = cs.length + 9) := Lib.hid (tinted_length cs)
  go_wp2_with fail
  refine (kept_any _ _ _ _ cs w5 (HAT.out.below HB25.out) HD5.out (by omega)).mono ?_
  rintro e w6 ⟨rfl, hb6, _⟩
  have HB26 := Lib.hid (HB25.out.trans (hb6.mono HB25.out.size))
  have HB36 := Lib.hid (HB35.out.trans (hb6.mono HB35.out.size))
  have HD6 := Lib.hid (HD5.out.below (hb6.mono HBL5.out))
  have HBL6 := Lib.hid (Nat.le_trans HBL5.out hb6.size)
  clear hb6 HD5
  go_wp2_with fail
  refine (prog_any w2.heap.size _ cs w6 (HIN.out.below HB26.out) HB26.out.size).mono ?_
  intro e w7 hpv
  unfold ProgV at hpv
  cases hp : progB cs with
  | none =>
    rw [hp] at hpv
    dsimp only at hpv
    obtain ⟨rfl, hb7⟩ := hpv
    have HB37 := Lib.hid (HB36.out.trans (hb7.mono HB36.out.size))
    have HB27 := Lib.hid (HB26.out.trans (hb7.mono HB26.out.size))
    have hrp := rprog_any B _ cs w7 (HD6.out.below (hb7.mono HBL6.out)) (Nat.le_trans HBL6.out hb7.size)
    unfold RProgV at hrp
    rw [hp] at hrp
    dsimp only at hrp
    have HRP := Lib.hid hrp
    clear hrp hb7 hp
    go_wp2_with fail
    refine HRP.out.mono ?_
    rintro e w8 ⟨rfl, hb8⟩
    have HB38 := Lib.hid (HB37.out.trans (hb8.mono HB37.out.size))
    have HB28 := Lib.hid (HB27.out.trans (hb8.mono HB27.out.size))
    clear hb8
    have HEND := Lib.hid (apart_end w8 w.heap.size w2.heap.size (.slice A3v M.length c3v) M (.slice none 0 0 : Value) (.slice (some ⟨w1.heap.size, 0, none⟩) (cs.length + 9) (cs.length + 9)) ([] : List UInt8) (tinted cs) (.cells #[(.slice none 0 0 : Value), .slice (some ⟨w1.heap.size, 0, none⟩) (cs.length + 9) (cs.length + 9)] 22)
      (HBAG.out.below HB38.out) HAL.out (OwnB.nil w8 w2.heap.size) (fun _ _ g _ h => by cases h) (HALL.out w8 HB28.out) (fun g hg => (show w1.heap.size = g by simpa [Value.ownBlock] using hg) ▸ HB12.out) (HB2.out.size) HM17.out HML.out (by simp) (by rw [tinted_length]; omega) (Nat.le_trans HB23.out.size HB38.out.size))
    have hbr := BagR.made w8 22 [(.slice none 0 0 : Value), .slice (some ⟨w1.heap.size, 0, none⟩) (cs.length + 9) (cs.length + 9)] [((.slice none 0 0 : Value), ([] : List UInt8)), (.slice (some ⟨w1.heap.size, 0, none⟩) (cs.length + 9) (cs.length + 9), tinted cs)] rfl (by unfold maxLen; simp) (by
      intro p hp
      simp only [List.mem_cons, List.not_mem_nil, or_false] at hp
      rcases hp with rfl | rfl
      · exact Byt.of_own (OwnB.nil w8 w2.heap.size)
      · exact Byt.of_own (HALL.out w8 HB28.out))
    have HBR := Lib.hid hbr
    have OWN9 := Lib.hid (World.ownsRow.alloc (HBAG.out.below HB38.out).1 (.cells #[(.slice none 0 0 : Value), .slice (some ⟨w1.heap.size, 0, none⟩) (cs.length + 9) (cs.length + 9)] 22))
    have HSZ := Lib.hid (Nat.le_trans HB23.out.size HB38.out.size)
    clear hbr
    go_wp2_with (at_builtin; refine wpList_append_bags (by rfl) (.tmp 90) (.tmp 93) rfl w2.heap.size _ M.length _ rfl OWN9.out _ _ [((.slice none 0 0 : Value), ([] : List UInt8)), (.slice (some ⟨w1.heap.size, 0, none⟩) (cs.length + 9) (cs.length + 9), tinted cs)] rfl HBR.out (by simp) (by intro p hp; simp only [List.mem_cons, List.not_mem_nil, or_false] at hp; rcases hp with rfl | rfl <;> rfl) (by have := HM17.out; simp; omega) (by have := HSZ.out; simp; omega) ?_; intro v10 w10 hown10 hg10; have HAP := Lib.hid (HEND.out v10 w10 hown10 hg10); clear hown10 hg10)
    refine HAP.out.mono ?_
    rintro e w11 ⟨rfl, hb11⟩
    have HB11 := Lib.hid hb11
    clear hb11
    go_wp2_with fail
    go_ret
    exact ⟨rfl, (HB2.out.trans (HB28.out.mono HB2.out.size)).trans HB11.out⟩
  | some q =>
    rw [hp] at hpv
    dsimp only at hpv
    obtain ⟨q0, q1, q2, q3⟩ := progB_bd (v := q.1) (p := q.2) hp
    obtain ⟨v7, rfl, hown7, hb7⟩ := hpv
    obtain ⟨A7, c7, rfl⟩ := own_form hown7
    have HB37 := Lib.hid (HB36.out.trans (hb7.mono HB36.out.size))
    have HB27 := Lib.hid (HB26.out.trans (hb7.mono HB26.out.size))
    have HO7 := Lib.hid hown7
    have hrp := rprog_any B _ cs w7 (HD6.out.below (hb7.mono HBL6.out)) (Nat.le_trans HBL6.out hb7.size)
    unfold RProgV at hrp
    rw [hp] at hrp
    dsimp only at hrp
    have HRP := Lib.hid hrp
    have HAPT := Lib.hid (show ∀ p ∈ M, ∀ g, p.1.ownBlock = some g → (Value.slice A7 q.2.length c7).ownBlock ≠ some g from fun p hp g hg hg2 => by
      have h1 := (World.ownsRow.lt (HBAG.out.2 p hp) g hg).2
      have h2 := (World.ownsRow.lt HO7.out g hg2).1
      have := HB36.out.size
      omega)
    have HQL := Lib.hid (show q.2.length ≤ 60000000 by omega)
    have e1 : (q.1 != q.1) = false := by simp
    have e2 : decide ((0 : Int) ≤ q.1) = true := decide_eq_true q0
    clear hrp hb7 hp hown7 q0 q1 q2 q3
    go_wp2_with fail
    refine HRP.out.mono ?_
    rintro e w8 ⟨v8, rfl, hown8, hb8⟩
    obtain ⟨A8, c8, rfl⟩ := own_form hown8
    have HB38 := Lib.hid (HB37.out.trans (hb8.mono HB37.out.size))
    have HB28 := Lib.hid (HB27.out.trans (hb8.mono HB27.out.size))
    have HO8 := Lib.hid (own_later HO7.out hb8)
    have HEQ := Lib.hid (equal_yes _ _ _ _ _ _ w8 HO8.out.byt hown8.byt rfl)
    clear hb8 hown8
    go_wp2_with fail
    refine HEQ.out.mono ?_
    rintro e w12 ⟨rfl, rfl⟩
    have HEND := Lib.hid (apart_end w8 w.heap.size w2.heap.size (.slice A3v M.length c3v) M (.slice A7 q.2.length c7) (.slice (some ⟨w1.heap.size, 0, none⟩) (cs.length + 9) (cs.length + 9)) q.2 (tinted cs) (.cells #[(.slice A7 q.2.length c7), .slice (some ⟨w1.heap.size, 0, none⟩) (cs.length + 9) (cs.length + 9)] 22)
      (HBAG.out.below HB38.out) HAL.out (own_base HO8.out HB26.out.size) HAPT.out (HALL.out w8 HB28.out) (fun g hg => (show w1.heap.size = g by simpa [Value.ownBlock] using hg) ▸ HB12.out) (HB2.out.size) HM17.out HML.out HQL.out (by rw [tinted_length]; omega) (Nat.le_trans HB23.out.size HB38.out.size))
    have hbr := BagR.made w8 22 [(.slice A7 q.2.length c7), .slice (some ⟨w1.heap.size, 0, none⟩) (cs.length + 9) (cs.length + 9)] [((.slice A7 q.2.length c7), q.2), (.slice (some ⟨w1.heap.size, 0, none⟩) (cs.length + 9) (cs.length + 9), tinted cs)] rfl (by unfold maxLen; simp) (by
      intro p hp
      simp only [List.mem_cons, List.not_mem_nil, or_false] at hp
      rcases hp with rfl | rfl
      · exact Byt.of_own (own_base HO8.out HB26.out.size)
      · exact Byt.of_own (HALL.out w8 HB28.out))
    have HBR := Lib.hid hbr
    have OWN9 := Lib.hid (World.ownsRow.alloc (HBAG.out.below HB38.out).1 (.cells #[(.slice A7 q.2.length c7), .slice (some ⟨w1.heap.size, 0, none⟩) (cs.length + 9) (cs.length + 9)] 22))
    have HSZ := Lib.hid (Nat.le_trans HB23.out.size HB38.out.size)
    clear hbr
    go_wp2_with (at_builtin; refine wpList_append_bags (by rfl) (.tmp 90) (.tmp 93) rfl w2.heap.size _ M.length _ rfl OWN9.out _ _ [((.slice A7 q.2.length c7), q.2), (.slice (some ⟨w1.heap.size, 0, none⟩) (cs.length + 9) (cs.length + 9), tinted cs)] rfl HBR.out (by simp) (by intro p hp; simp only [List.mem_cons, List.not_mem_nil, or_false] at hp; rcases hp with rfl | rfl <;> rfl) (by have := HM17.out; simp; omega) (by have := HSZ.out; simp; omega) ?_; intro v10 w10 hown10 hg10; have HAP := Lib.hid (HEND.out v10 w10 hown10 hg10); clear hown10 hg10)
    refine HAP.out.mono ?_
    rintro e w11 ⟨rfl, hb11⟩
    have HB11 := Lib.hid hb11
    clear hb11
    go_wp2_with fail
    go_ret
    exact ⟨rfl, (HB2.out.trans (HB28.out.mono HB2.out.size)).trans HB11.out⟩
end Go.Proofs.Ytpfobbhoahnebaa

/-
  ScriptKinds returns true for every input, and leaves each argument as it was. Conditions: none beyond the statement's own.
-/
namespace Go.Proofs.Ytpfobbhoahnebaa
open Go.ChangeShapes Go.WideShapes Go.ChangeAt Go.RowKit

set_option maxRecDepth 100000 in
theorem kinds_lifted (os : Os) (started : os.Started) (H : Type) (enc : TypeId × Value → H) :
    ReturnsInHanded {} Try.checked os 6 .any (Rows.scriptKindsSpec.pre6 enc Try.prog Try.f6 Rows.scriptKindsRow.domain false) (Rows.scriptKindsSpec.post enc Try.prog Try.f6 false true false false) := by
  refine returnsInHanded_of_change (C := Try.checked) own started (by kernel_rfl) Try.func6
    (ChangeSpec.witness6 (enc := enc) (C := Try.checked) false ⟨#[], #[.slice none 0 0], []⟩ 8 (by kernel_rfl) (by kernel_rfl) (by kernel_rfl) (by kernel_rfl)) ?_
  intro W base args ds gs before hval0 hW _ _
  have hval : ∀ (j : Nat) t v, Try.f6.params[j]? = some t → args[j]? = some v → Value.okWide Try.prog W .any base t v := hval0
  have hW' := hW
  obtain ⟨p, q, hA0, hV, rfl, hfz, hnd⟩ := hW
  have hA : DataW.TrodAll enc Try.prog W 0 (fun _ => true) true Try.f6.params.toList args.toList ds p := hA0
  rw [Try.params6] at hA hval
  obtain ⟨v0, d0, rfl, rfl, h0⟩ := trodAll_one hA
  obtain ⟨rfl, rfl⟩ := trodVars_none hV
  obtain ⟨a0, len0, cap0, hs0⟩ := okWide_slice Try.underlying22 (hval 0 22 v0 rfl rfl)
  have lt0 : ∀ x ∈ p, x.block < W.heap.size := by obtain ⟨m, hm⟩ := h0; exact DataW.trod_lt m _ _ _ hm
  obtain ⟨bs, hb⟩ := byt_came h0 ⟨_, _, _, hs0⟩
  clear hA0 hval0
  refine (kinds_law W.heap.size v0 bs W hb (Nat.le_refl _)).mono fun e W' ⟨he, bel⟩ => ?_
  subst he
  exact ⟨_, rfl, _, _, _, [], _, [], hW', trodAll_mk1 (shut_bool Try.underlying4 _), trodAll_mk1 (Below.trod laidOut_ (by kernel_rfl) (of_decide_eq_true (by kernel_rfl)) h0 bel lt0), rfl, bel.frame _, fun h => by cases h⟩

theorem scriptKinds_holds : Rows.ScriptKindsSaid :=
  OpenClaim.holds_of_wide 6 Try.f6 rfl rfl rfl rfl rfl rfl rfl ⟨rfl, rfl, rfl, rfl, rfl⟩ rfl rfl rfl rfl rfl (by kernel_rfl) Try.func6 (by kernel_rfl)
    (of_decide_eq_true (by kernel_rfl)) (by unfold Func.isWrapper; first | (rw [if_pos (by decide +kernel)]; kernel_rfl) | (rw [if_neg (by decide +kernel)]; exact ⟨rfl, rfl⟩))
    (fun os started H enc _ => kinds_lifted os started H enc)
#print axioms scriptKinds_holds
end Go.Proofs.Ytpfobbhoahnebaa
