/-
  The law on the standard forms. Conditions: the digest is of twenty bytes.
-/
import Derived.Test.YtadgaeokiolmmaaSnKind
import Derived.Test.YtadgaeokiolmmaaSnProg
namespace Go.Proofs.Ytadgaeokiolmmaa
open Go.RowKit

theorem byt_range {w : World} {B g n c : Nat} {xs : List UInt8} (h : Byt w B (.slice (some ⟨g, 0, none⟩) n c) xs) : w.rangeAt g 0 (xs.map bv) := by
  intro j v hv
  rw [List.getElem?_map] at hv
  cases hu : xs[j]? with
  | none => rw [hu] at hv; cases hv
  | some u =>
    rw [hu] at hv
    obtain ⟨A, c', e, _, _, _, h4⟩ := h
    obtain ⟨e1, _, _⟩ := Value.slice.inj e
    obtain ⟨b, o, e', hb, hc⟩ := h4 (by rintro rfl; simp at hu)
    rw [← e1] at e'
    injection e' with e'
    obtain ⟨e1', e2', _⟩ := Addr.mk.inj e'
    subst e1' e2'
    rw [hc j u hu]
    exact hv

/-- What PayWitness's form and error are. -/
def payF (v : Int) (ps : List UInt8) : List UInt8 := if v < 0 ∨ 16 < v then [] else if ps.length < 2 ∨ 40 < ps.length then [] else witForm v ps
def payE (v : Int) (ps : List UInt8) : Int := if v < 0 ∨ 16 < v then 1 else if ps.length < 2 ∨ 40 < ps.length then 2 else 0
theorem payE_all (v : Int) (ps : List UInt8) : (payE v ps = 0 ∧ payF v ps = witForm v ps ∧ 0 ≤ v ∧ v ≤ 16 ∧ 2 ≤ ps.length ∧ ps.length ≤ 40) ∨ payE v ps = 1 ∨ payE v ps = 2 := by
  unfold payE payF
  by_cases hv : v < 0 ∨ 16 < v
  · rw [if_pos hv]; exact .inr (.inl rfl)
  · rw [if_neg hv, if_neg hv]
    by_cases hp : ps.length < 2 ∨ 40 < ps.length
    · rw [if_pos hp]; exact .inr (.inr rfl)
    · rw [if_neg hp, if_neg hp]; exact .inl ⟨rfl, rfl, by omega, by omega, by omega, by omega⟩
theorem payV_parts {w : World} {v : Int} {ps : List UInt8} {e : Ending} {w' : World} (h : PayV w v ps e w') : ∃ A c, e = .returned (.tuple #[.slice A (payF v ps).length c, .int .i64 (payE v ps)]) ∧ Byt w' w'.heap.size (.slice A (payF v ps).length c) (payF v ps) ∧ Below w.heap.size w w' := by
  unfold PayV at h
  unfold payF payE
  by_cases hv : v < 0 ∨ 16 < v
  · rw [if_pos hv] at h
    rw [if_pos hv, if_pos hv]
    exact ⟨none, 0, h.1, Byt.nil _ _, h.2⟩
  · rw [if_neg hv] at h
    rw [if_neg hv, if_neg hv]
    by_cases hp : ps.length < 2 ∨ 40 < ps.length
    · rw [if_pos hp] at h
      rw [if_pos hp, if_pos hp]
      exact ⟨none, 0, h.1, Byt.nil _ _, h.2⟩
    · rw [if_neg hp] at h
      rw [if_neg hp, if_neg hp]
      obtain ⟨u, he, ho, hb⟩ := h
      obtain ⟨A, c, rfl⟩ := own_form ho
      exact ⟨A, c, he, Byt.of_own ho, hb⟩

set_option maxRecDepth 100000 in
set_option maxHeartbeats 12800000 in
theorem forms_law (hs : List UInt8) (h : hs.length = 20) (v : Int) (h0 : -9223372036854775808 ≤ v) (h1 : v ≤ 9223372036854775807) (B : Nat) (x : Value) (bs : List UInt8) (w : World) (hx : Byt w B x bs) (hB : B ≤ w.heap.size) :
    Calls Try.prog 7 #[.agg (hs.map bv).toArray, .int .i64 v, x] w fun e w' => e = .returned (.bool true) ∧ Below w.heap.size w w' := by
  obtain ⟨cs, hcs⟩ : ∃ cs, cs = (hs.map bv).toArray := ⟨_, rfl⟩
  have hsz : cs.size = 20 := by rw [hcs]; simp [h]
  obtain ⟨ps, hps⟩ : ∃ ps, ps = bs.take 60 := ⟨_, rfl⟩
  have hpl : ps.length ≤ 60 := by rw [hps]; exact List.length_take_le _ _
  obtain ⟨W0, hW0⟩ : ∃ W0, W0 = w.alloc (.cells cs 55) := ⟨_, rfl⟩
  have hd : Byt W0 (w.heap.size + 1) (.slice (some ⟨w.heap.size, 0, none⟩) 20 20) hs := by
    have := Byt.made w 55 (hs.map bv) hs rfl (by unfold maxLen; omega)
    rw [← hcs, h] at this
    rw [hW0]
    exact this
  have hs0 : W0.heap.size = w.heap.size + 1 := by rw [hW0]; simp
  have hB0 : Below w.heap.size w W0 := by rw [hW0]; exact (Below.refl _ w).alloc (Nat.le_refl _) _
  have HX := Lib.hid (hx.below (hB0.mono hB))
  obtain ⟨A, c, rfl⟩ := hx.form
  have HD := Lib.hid hd
  have HS0 := Lib.hid hs0
  have HW0 := Lib.hid hB0
  have HH := Lib.hid h
  have HINF := Lib.hid (show (Try.prog.info? 55).map (·.size) = some (hs.map bv).length by rw [List.length_map, h]; kernel_rfl)
  have HPS := Lib.hid hps
  rw [← hcs]
  clear hx hd hcs hs0 hB0 h hps
  go_enter Try.func7, Try.ntmps7
  go_wp2_with fail
  rw [← hW0]
  clear hW0 hsz
  refine (awake_any W0).mono ?_
  rintro e w1 ⟨rfl, hb1⟩
  rw [HS0.out] at hb1
  have HB1 := Lib.hid hb1
  have HS1 := Lib.hid (show w.heap.size + 1 ≤ w1.heap.size by have := hb1.size; rw [HS0.out] at this; exact this)
  clear hb1
  go_wp2_with fail
  refine (shorts_any B _ bs 60 (by omega) w1 (HX.out.below (HB1.out.mono (by omega)))).mono ?_
  rintro e w2 ⟨⟨y, rfl, hy⟩, rfl⟩
  rw [← HPS.out] at hy
  obtain ⟨A2, c2, rfl⟩ := hy.form
  have HY := Lib.hid hy
  have HD1 := Lib.hid (HD.out.below HB1.out)
  clear hy HX HD HPS
  go_wp2_with fail
  refine wp_region_held_drew (S := (fun w' => Byt w' (w.heap.size + 1) (.slice (some ⟨w.heap.size, 0, none⟩) 20 20) hs ∧ Below w1.heap.size w1 w')) (by kernel_rfl) ?_ (fun hHeld => ?_)
  · exact ⟨byt_drewN HD1.out 1, (⟨rfl, rfl, rfl, Nat.le_refl _, fun _ _ => rfl⟩ : Below w1.heap.size w1 w1.drew)⟩
  refine wpAnyH_take (i := 0) (oi := { dst := some 24, op := Go.Op.load 55 (Go.Operand.tmp 3), type := 55, pos := "law.go:118", after := #[], guard := none }) (v := (.agg (hs.map bv).toArray)) rfl (by kernel_rfl) (by kernel_rfl) (by kernel_rfl) (fun _ _ _ h => h) (yieldsIf_load_mid (by rfl) 55 (.tmp 3) rfl w.heap.size 0 rfl (hs.map bv) _ (fun w' h => byt_range h.1) Try.underlying55 rfl HINF.out) (by assumption) ?_
  try simp only [Act.put, List.setIfInBounds_toArray, List.set_cons_zero, List.set_cons_succ]
  refine wpAnyH_take (i := 2) (oi := { dst := some 26, op := Go.Op.load 55 (Go.Operand.tmp 3), type := 55, pos := "law.go:118", after := #[], guard := none }) (v := (.agg (hs.map bv).toArray)) rfl (by kernel_rfl) (by kernel_rfl) (by kernel_rfl) (fun _ _ _ h => h) (yieldsIf_load_mid (by rfl) 55 (.tmp 3) rfl w.heap.size 0 rfl (hs.map bv) _ (fun w' h => byt_range h.1) Try.underlying55 rfl HINF.out) (by assumption) ?_
  try simp only [Act.put, List.setIfInBounds_toArray, List.set_cons_zero, List.set_cons_succ]
  refine wpAnyH_ready (rs := [1]) (by kernel_rfl) (by simp) ?_
  refine AllReadyH.cons (o := { dst := some 25, op := Go.Op.call { callee := Go.Callee.value (Go.Operand.func 32), args := #[Go.Operand.tmp 24], argTypes := #[55] }, type := 22, pos := "law.go:118", after := #[{ on := 0, ground := Go.Ground.data }], guard := none }) rfl (fun K hK => ?_) (AllReadyH.nil)
  go_simp
  refine (payKey_any hs HH.out _).mono ?_
  intro e w5 hfr
  obtain ⟨u5, rfl, hown5, hb5⟩ := fresh_v hfr
  have HK := Lib.hid (Byt.of_own hown5)
  go_simp
  refine hK.out _ _ ?_ (fun hHeld => ?_)
  · exact ⟨hHeld.1.below (hb5.mono (Nat.le_trans HS1.out hHeld.2.size)), hHeld.2.trans (hb5.mono hHeld.2.size)⟩
  clear hK K
  try simp only [Act.put, List.setIfInBounds_toArray, List.set_cons_zero, List.set_cons_succ]
  refine wpAnyH_ready (rs := [3]) (by kernel_rfl) (by simp) ?_
  refine AllReadyH.cons (o := { dst := some 27, op := Go.Op.call { callee := Go.Callee.value (Go.Operand.func 33), args := #[Go.Operand.tmp 26], argTypes := #[55] }, type := 22, pos := "law.go:118", after := #[{ on := 2, ground := Go.Ground.data }, { on := 1, ground := Go.Ground.chain }], guard := none }) rfl (fun K hK => ?_) (AllReadyH.nil)
  go_simp
  refine (payScript_any hs HH.out _).mono ?_
  intro e w6 hfr
  obtain ⟨u6, rfl, hown6, hb6⟩ := fresh_v hfr
  have HC := Lib.hid (Byt.of_own hown6)
  have HK := Lib.hid ((HK.out.below hb6).more hb6.size)
  go_simp
  refine hK.out _ _ ?_ (fun hHeld => ?_)
  · exact ⟨hHeld.1.below (hb6.mono (Nat.le_trans HS1.out hHeld.2.size)), hHeld.2.trans (hb6.mono hHeld.2.size)⟩
  clear hK K
  try simp only [Act.put, List.setIfInBounds_toArray, List.set_cons_zero, List.set_cons_succ]
  refine wpAnyH_take (i := 4) (oi := { dst := some 7, op := Go.Op.assign (Go.Operand.tmp 25), type := 22, pos := "law.go:118", after := #[{ on := 1, ground := Go.Ground.data }, { on := 3, ground := Go.Ground.chain }, { on := 0, ground := Go.Ground.phase }, { on := 1, ground := Go.Ground.phase }, { on := 2, ground := Go.Ground.textOnly Go.Departure.lateStores }, { on := 3, ground := Go.Ground.textOnly Go.Departure.lateStoresUnsure }], guard := none }) (v := ?a_1_3v4) rfl (by kernel_rfl) (by kernel_rfl) (by kernel_rfl) (fun _ _ _ h => h) (Or.inl ⟨by rfl, ?a_1_3y4⟩) (by assumption) ?a_1_3r4
  case a_1_3y4 => (intro w hSw; (try dsimp only at hSw); go_simp; try (with_reducible rfl))
  case a_1_3r4 =>
  try simp only [Act.put, List.setIfInBounds_toArray, List.set_cons_zero, List.set_cons_succ]
  refine wpAnyH_take (i := 5) (oi := { dst := some 8, op := Go.Op.assign (Go.Operand.tmp 27), type := 22, pos := "law.go:118", after := #[{ on := 3, ground := Go.Ground.data }, { on := 4, ground := Go.Ground.chain }, { on := 0, ground := Go.Ground.phase }, { on := 1, ground := Go.Ground.phase }, { on := 2, ground := Go.Ground.phase }, { on := 3, ground := Go.Ground.phase }, { on := 4, ground := Go.Ground.phase }], guard := none }) (v := ?a_1_3v5) rfl (by kernel_rfl) (by kernel_rfl) (by kernel_rfl) (fun _ _ _ h => h) (Or.inl ⟨by rfl, ?a_1_3y5⟩) (by assumption) ?a_1_3r5
  case a_1_3y5 => (intro w hSw; (try dsimp only at hSw); go_simp; try (with_reducible rfl))
  case a_1_3r5 =>
  try simp only [Act.put, List.setIfInBounds_toArray, List.set_cons_zero, List.set_cons_succ]
  refine wpAnyH_done (by kernel_rfl) ?_ _
  have HF := Lib.hid hHeld.2
  have D6 := Lib.hid hHeld.1
  clear hHeld
  obtain ⟨A5, c5, rfl⟩ := HK.out.form
  obtain ⟨A6, c6, rfl⟩ := HC.out.form
  have S6 := Lib.hid (Nat.le_trans HS1.out HF.out.size)
  have HY6 := Lib.hid (HY.out.below (HF.out.mono (by have := HS1.out; omega)))
  go_wp2_with fail
  refine (rpayKey_any (w.heap.size + 1) _ hs w6 D6.out S6.out (by rw [HH.out]; decide)).mono ?_
  intro e w7 hfr
  obtain ⟨u7, rfl, hown7, hb7⟩ := fresh_v hfr
  obtain ⟨A7, c7, rfl⟩ := own_form hown7
  have R7 := Lib.hid (Byt.of_own hown7)
  have K7 := Lib.hid (HK.out.below hb7)
  have B7 := Lib.hid hb7
  clear hfr hown7 hb7
  go_wp2_with fail
  refine (equal_yes _ _ _ _ _ _ w7 K7.out R7.out rfl).mono ?_
  rintro e w8 ⟨rfl, rfl⟩
  go_wp2_with fail
  refine (rpayScript_any (w.heap.size + 1) _ hs w7 (D6.out.below (B7.out.mono S6.out)) (Nat.le_trans S6.out B7.out.size) (by rw [HH.out]; decide)).mono ?_
  intro e w8 hfr
  obtain ⟨u8, rfl, hown8, hb8⟩ := fresh_v hfr
  obtain ⟨A8, c8, rfl⟩ := own_form hown8
  have R8 := Lib.hid (Byt.of_own hown8)
  have B8 := Lib.hid (B7.out.trans (hb8.mono B7.out.size))
  clear hfr hown8 hb8
  go_wp2_with fail
  refine (equal_yes _ _ _ _ _ _ w8 (HC.out.below B8.out) R8.out rfl).mono ?_
  rintro e w9 ⟨rfl, rfl⟩
  go_wp2_with fail
  refine (kind_key _ _ hs HH.out w8 (HK.out.below B8.out)).mono ?_
  rintro e w9 ⟨v9, u9, rfl, bag9, hb9⟩
  have e9 : ([(u9, hs)] : List (Value × List UInt8)).length = 1 := rfl
  obtain ⟨A9, c9, rfl⟩ := bag9.form
  rw [e9] at bag9 ⊢
  have G9 := Lib.hid bag9
  have B9 := Lib.hid (B8.out.trans (hb9.mono B8.out.size))
  clear bag9 hb9 e9 R7 K7 R8
  go_wp2_with fail
  refine (kind_script _ _ hs HH.out w9 (HC.out.below B9.out)).mono ?_
  rintro e w10 ⟨v10, u10, rfl, bag10, hb10⟩
  have e10 : ([(u10, hs)] : List (Value × List UInt8)).length = 1 := rfl
  obtain ⟨A10, c10, rfl⟩ := bag10.form
  rw [e10] at bag10 ⊢
  have B10 := Lib.hid (B9.out.trans (hb10.mono B9.out.size))
  have m10 := BagR.made w10 22 [.slice (some ⟨w.heap.size, 0, none⟩) 20 20] [(.slice (some ⟨w.heap.size, 0, none⟩) 20 20, hs)] rfl (by unfold maxLen; simp) (by intro p hp; simp only [List.mem_cons, List.not_mem_nil, or_false] at hp; subst hp; exact (D6.out.below (B10.out.mono S6.out)).more (Nat.le_trans S6.out B10.out.size))
  have bm10 : Below w10.heap.size w10 (w10.alloc (.cells #[.slice (some ⟨w.heap.size, 0, none⟩) 20 20] 22)) := byt_below _ _ (Nat.le_refl _)
  have E10 := Lib.hid (same_yes _ _ _ _ [(u9, hs)] [(.slice (some ⟨w.heap.size, 0, none⟩) 20 20, hs)] _ ((G9.out.below hb10).below (bm10.mono hb10.size)) m10 rfl)
  have G10 := Lib.hid (bag10.below bm10)
  have B10m := Lib.hid (B10.out.trans (bm10.mono B10.out.size))
  clear bag10 hb10 e10 m10 bm10 G9
  go_wp2_with fail
  refine E10.out.mono ?_
  rintro e w11 ⟨rfl, hb11⟩
  have B11 := Lib.hid (B10m.out.trans (hb11.mono B10m.out.size))
  have m11 := BagR.made w11 22 [.slice (some ⟨w.heap.size, 0, none⟩) 20 20] [(.slice (some ⟨w.heap.size, 0, none⟩) 20 20, hs)] rfl (by unfold maxLen; simp) (by intro p hp; simp only [List.mem_cons, List.not_mem_nil, or_false] at hp; subst hp; exact (D6.out.below (B11.out.mono S6.out)).more (Nat.le_trans S6.out B11.out.size))
  have bm11 : Below w11.heap.size w11 (w11.alloc (.cells #[.slice (some ⟨w.heap.size, 0, none⟩) 20 20] 22)) := byt_below _ _ (Nat.le_refl _)
  have E11 := Lib.hid (same_yes _ _ _ _ [(u10, hs)] [(.slice (some ⟨w.heap.size, 0, none⟩) 20 20, hs)] _ ((G10.out.below (hb11.mono (by simp))).below (bm11.mono (Nat.le_trans (by simp) hb11.size))) m11 rfl)
  have B11m := Lib.hid (B11.out.trans (bm11.mono B11.out.size))
  clear hb11 m11 bm11 G10 E10
  go_wp2_with fail
  refine E11.out.mono ?_
  rintro e w12 ⟨rfl, hb12⟩
  have B12 := Lib.hid (B11m.out.trans (hb12.mono B11m.out.size))
  clear hb12 E11
  have hBB : B ≤ w6.heap.size := by have := S6.out; omega
  have HBB := Lib.hid hBB
  clear hBB
  go_wp2_with fail
  refine (rcopy_any B _ ps w12 (HY6.out.below (B12.out.mono HBB.out)) (by omega)).mono ?_
  intro e w13 hfr
  obtain ⟨u13, rfl, hown13, hb13⟩ := fresh_v hfr
  obtain ⟨A13, c13, rfl⟩ := own_form hown13
  have R13 := Lib.hid (Byt.of_own hown13)
  have B13 := Lib.hid (B12.out.trans (hb13.mono B12.out.size))
  clear hfr hown13 hb13
  go_wp2_with fail
  refine (payWitness_any v _ _ ps w13 h0 h1 R13.out (Nat.le_refl _) (by omega)).mono ?_
  intro e w14 hpv
  obtain ⟨A14, c14, rfl, by14, hb14⟩ := payV_parts hpv
  have R14 := Lib.hid by14
  have B14 := Lib.hid (B13.out.trans (hb14.mono B13.out.size))
  clear hpv by14 hb14 R13
  obtain ⟨F, hF⟩ : ∃ F, F = payF v ps := ⟨_, rfl⟩
  obtain ⟨E, hE⟩ : ∃ E, E = payE v ps := ⟨_, rfl⟩
  have hall := payE_all v ps
  rw [← hE, ← hF] at hall
  rw [← hF] at R14
  rw [← hF, ← hE]
  have HFE := Lib.hid (And.intro hF hE)
  clear hF hE
  go_wp2_with fail
  refine (rpayWitness_any v B _ ps w14 (HY6.out.below (B14.out.mono HBB.out)) (by omega)).mono ?_
  intro e w15 hpv
  obtain ⟨A15, c15, rfl, by15, hb15⟩ := payV_parts hpv
  rw [← HFE.out.1] at by15
  rw [← HFE.out.1, ← HFE.out.2]
  have R15 := Lib.hid by15
  have Q15 := Lib.hid (R14.out.below hb15)
  have B15 := Lib.hid (B14.out.trans (hb15.mono B14.out.size))
  have S15 := Lib.hid hb15.size
  clear hpv by15 hb15 R14 HFE
  go_wp2_with fail
  refine (equal_yes _ _ _ _ _ _ w15 Q15.out R15.out rfl).mono ?_
  rintro e w16 ⟨rfl, rfl⟩
  rcases hall with ⟨rfl, hF, a1, a2, a3, a4⟩ | rfl | rfl
  · have hfl : F.length = ps.length + 2 := by rw [hF]; unfold witForm; simp
    have hw := Q15.out
    rw [hF, show witForm v ps = vcode v :: b8 (ps.length : Int) :: ps from rfl] at hw
    have hPR := prog_yes _ _ (vcode v) (b8 (ps.length : Int)) ps w15 hw S15.out (by have := b8_toNat (ps.length : Int); omega) a3 a4 (by rw [small_vcode v a1 a2]; exact a1)
    rw [small_vcode v a1 a2, show (vcode v :: b8 (ps.length : Int) :: ps) = F from hF.symm] at hPR
    have HPR := Lib.hid hPR
    clear hw hPR hfl hF
    go_wp2_with fail
    refine HPR.out.mono ?_
    rintro e w16 ⟨u16, rfl, hown16, hb16⟩
    obtain ⟨A16, c16, rfl⟩ := own_form hown16
    have R16 := Lib.hid (Byt.of_own hown16)
    have B16 := Lib.hid (B15.out.trans (hb16.mono B15.out.size))
    clear hown16 hb16
    go_wp2_with fail
    refine (equal_yes _ _ _ _ ps ps w16 R16.out (HY6.out.below (B16.out.mono HBB.out)) rfl).mono ?_
    rintro e w17 ⟨rfl, rfl⟩
    go_wp2_with fail
    go_ret
    exact ⟨rfl, HW0.out.trans (((HB1.out.mono (Nat.le_succ _)).trans (HF.out.mono (by have := HS1.out; omega))).trans (B16.out.mono (by have := S6.out; omega)))⟩
  · go_wp2_with fail
    go_ret
    exact ⟨rfl, HW0.out.trans (((HB1.out.mono (Nat.le_succ _)).trans (HF.out.mono (by have := HS1.out; omega))).trans (B15.out.mono (by have := S6.out; omega)))⟩
  · go_wp2_with fail
    go_ret
    exact ⟨rfl, HW0.out.trans (((HB1.out.mono (Nat.le_succ _)).trans (HF.out.mono (by have := HS1.out; omega))).trans (B15.out.mono (by have := S6.out; omega)))⟩
end Go.Proofs.Ytadgaeokiolmmaa
