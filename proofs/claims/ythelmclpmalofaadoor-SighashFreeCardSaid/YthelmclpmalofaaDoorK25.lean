/-
  Texts joined: TvFl. Conditions: those of each.
-/
import Derived.Test.YthelmclpmalofaaDoorK24
import Derived.BigQuiet
import Derived.Deep.QuietTactic
import Derived.Deep.CutBlock
/-
  The law on what isn't signed. Conditions: sizes within the reach; the roots are laid.
-/
namespace Go.Proofs.YthelmclpmalofaaDoor
open Go.RowKit

/-- What few answers, by its cells. -/
def FewL (n m base : Nat) (w' : World) (FC : List Value) : Prop := ∃ t iv ov X Y, FC = txC t iv ov ∧ t.ok ∧ InsO w' base iv X ∧ OutsO w' base ov Y ∧ (∀ x ∈ X, El w' base x) ∧ (∀ y ∈ Y, ElO w' base y) ∧ X.map (·.p) = t.ins ∧ Y.map (·.p) = t.outs ∧ (∀ x ∈ X, x.in n m) ∧ X.length ≤ n ∧ (∀ y ∈ Y, y.p.sc.length ≤ m) ∧ Y.length ≤ n
theorem FewL.of {n m base : Nat} {w' : World} {v : Value} (h : FewIs n m base w' v) : ∃ FC : List Value, v = .agg FC.toArray ∧ FewL n m base w' FC := by
  obtain ⟨t, iv, ov, hv, X, Y, r⟩ := h
  exact ⟨_, hv, t, iv, ov, X, Y, rfl, r⟩
theorem FewL.len {n m base : Nat} {w' : World} {FC : List Value} (h : FewL n m base w' FC) : FC.length = 4 := by obtain ⟨t, iv, ov, X, Y, rfl, _⟩ := h; rfl
theorem FewL.one {n m base : Nat} {w' : World} {FC : List Value} (h : FewL n m base w' FC) : FC.toArray.all (·.oneCell') = true := by
  obtain ⟨t, iv, ov, X, Y, rfl, _, hI, hO, _⟩ := h
  obtain ⟨A1, c1, hif⟩ := hI.form
  obtain ⟨A2, c2, hof⟩ := hO.form
  rw [hif, hof]
  exact arr_one (fun v hv => by unfold txC at hv; simp only [List.mem_cons, List.not_mem_nil, or_false] at hv; rcases hv with rfl | rfl | rfl | rfl <;> rfl)
theorem FewL.base {n m b b' : Nat} {w' : World} {FC : List Value} (h : FewL n m b w' FC) (hb : b' ≤ b) : FewL n m b' w' FC := by
  obtain ⟨t, iv, ov, X, Y, e, hok, hI, hO, hX, hY, r⟩ := h
  exact ⟨t, iv, ov, X, Y, e, hok, own_le hI hb, own_le hO hb, fun x hx => (hX x hx).base hb, fun y hy => (hY y hy).base hb, r⟩
theorem FewL.apart {n m base : Nat} {w w' : World} {S : Nat → Prop} {FC : List Value} (h : FewL n m base w FC) (ht : Turns S w w') (hS : ∀ k, S k → k < w.heap.size → ∃ cs T m, w.heap[k]? = some (.cells cs T m) ∧ 27 ≠ T ∧ 5 ≠ T ∧ 49 ≠ T ∧ 54 ≠ T) : FewL n m base w' FC := by
  obtain ⟨t, iv, ov, X, Y, e, hok, hI, hO, hX, hY, r⟩ := h
  have hS2 : ∀ k, S k → k < w.heap.size → ∃ cs T m, w.heap[k]? = some (.cells cs T m) ∧ 27 ≠ T ∧ 5 ≠ T := fun k q l => by obtain ⟨cs, T, m, e, n1, n2, _⟩ := hS k q l; exact ⟨cs, T, m, e, n1, n2⟩
  exact ⟨t, iv, ov, X, Y, e, hok, own_apart hI ht (fun k q l => by obtain ⟨cs, T, m, e, _, _, n3, _⟩ := hS k q l; exact ⟨cs, T, m, e, n3⟩), own_apart hO ht (fun k q l => by obtain ⟨cs, T, m, e, _, _, _, n4⟩ := hS k q l; exact ⟨cs, T, m, e, n4⟩), fun x hx => (hX x hx).apart ht hS2, fun y hy => (hY y hy).apart ht hS2, r⟩
theorem FewL.below {n m base : Nat} {w w' : World} {FC : List Value} (h : FewL n m base w FC) (hb : Below w.heap.size w w') : FewL n m base w' FC :=
  h.apart (Turns.of_below (S := fun _ => False) hb) (fun _ q _ => q.elim)
theorem FewL.setRow {n m base G : Nat} {w : World} {FC vs : List Value} (h : FewL n m base w FC) (r : VRow w G 26 vs) (us : List Value) : FewL n m base (w.setRow G us.toArray) FC :=
  h.apart (Turns.setRow (S := fun q => q = G) (Turns.refl _ w) (fun _ => rfl) _) (fun k q _ => by subst q; exact ⟨_, _, _, r, by decide, by decide, by decide, by decide⟩)
theorem FewL.size {n m base : Nat} {w : World} {FC : List Value} (h : FewL n m base w FC) : (Tryd.prog.info? 26).map (·.size) = some FC.length := by rw [h.len]; exact size_tx
/-- What the law knows behind its first steps. -/
structure FrA (w wx : World) (G3 G4 G5 : Nat) (WC FT FU : List Value) : Prop where
  ft : FewL 5 300 w.heap.size wx FT
  fu : FewL 5 300 w.heap.size wx FU
  r3 : VRow wx G3 26 FT
  r4 : VRow wx G4 26 FU
  r5 : VRow wx G5 29 WC
  bel : Below w.heap.size w wx

set_option maxRecDepth 100000 in
set_option maxHeartbeats 12800000 in
theorem free_law (B : Nat) (t0 u0 : TxP) (iv0 ov0 ju0 pu0 sv : Value) (X0 XU0 : List InV) (Y0 YU0 : List OutV) (i k val : Int) (sc : List UInt8) (w : World) (ht : TxR w B t0 iv0 ov0 X0 Y0) (hu : TxR w B u0 ju0 pu0 XU0 YU0) (hsv : Byt w B sv sc) (hB : B ≤ w.heap.size) (hz : TxSz X0 Y0) (hzu : TxSz XU0 YU0)
    (hi0 : -9223372036854775808 ≤ i) (hi1 : i ≤ 9223372036854775807) (hk0 : 0 ≤ k) (hk1 : k < 256) (hv0 : -9223372036854775808 ≤ val) (hv1 : val ≤ 9223372036854775807) (hroots : Roots w) :
    Calls Tryd.prog 5 #[.agg (txC t0 iv0 ov0).toArray, .agg (txC u0 ju0 pu0).toArray, .agg (WayC i k val sv).toArray] w fun e w' => e = .returned (.bool true) ∧ Below w.heap.size w w' := by
  obtain ⟨As, cs, hsf⟩ := hsv.form
  subst hsf
  have hft : ∀ W, Below w.heap.size w W → Calls Tryd.prog 8 #[.agg (txC t0 iv0 ov0).toArray] W fun e w' => ∃ v, e = .returned v ∧ FewIs 5 300 W.heap.size w' v ∧ Below W.heap.size W w' :=
    fun W hW => lfew_any B t0 iv0 ov0 X0 Y0 W (ht.below (hW.mono hB)) (Nat.le_trans hB hW.size) hz
  have hfu : ∀ W, Below w.heap.size w W → Calls Tryd.prog 8 #[.agg (txC u0 ju0 pu0).toArray] W fun e w' => ∃ v, e = .returned v ∧ FewIs 5 300 W.heap.size w' v ∧ Below W.heap.size W w' :=
    fun W hW => lfew_any B u0 ju0 pu0 XU0 YU0 W (hu.below (hW.mono hB)) (Nat.le_trans hB hW.size) hzu
  have hsh : ∀ W, Below w.heap.size w W → Calls Tryd.prog 9 #[.slice As sc.length cs] W fun e w' => ∃ A n c sc', e = .returned (.slice A n c) ∧ n = sc'.length ∧ n ≤ 300 ∧ Byt W B (.slice A n c) sc' ∧ W = w' :=
    fun W hW => lshort_any B _ sc W (hsv.below (hW.mono hB))
  obtain ⟨nS, hnS⟩ : ∃ z, z = sc.length := ⟨_, rfl⟩
  rw [← hnS] at hsh ⊢
  obtain ⟨TC, hTC⟩ : ∃ z, z = txC t0 iv0 ov0 := ⟨_, rfl⟩
  obtain ⟨UC, hUC⟩ : ∃ z, z = txC u0 ju0 pu0 := ⟨_, rfl⟩
  obtain ⟨WC, hWC⟩ : ∃ z, z = WayC i k val (.slice As nS cs) := ⟨_, rfl⟩
  have HTL := Lib.hid (show TC.length = 4 by rw [hTC]; rfl)
  have HUL := Lib.hid (show UC.length = 4 by rw [hUC]; rfl)
  have HTS := Lib.hid (show (Tryd.prog.info? 26).map (·.size) = some TC.length by rw [HTL.out]; exact size_tx)
  have HUS := Lib.hid (show (Tryd.prog.info? 26).map (·.size) = some UC.length by rw [HUL.out]; exact size_tx)
  rw [← hTC, ← hUC, ← hWC]
  simp only [← hTC] at hft
  simp only [← hUC] at hfu
  have HFT := Lib.hid hft
  have HFU := Lib.hid hfu
  have HSH := Lib.hid hsh
  have W0 := Lib.hid (show WC[0]? = some (.int .i64 i) by rw [hWC]; rfl)
  have W1 := Lib.hid (show WC[1]? = some (.int .u8 k) by rw [hWC]; rfl)
  have W2 := Lib.hid (show WC[2]? = some (.slice As nS cs) by rw [hWC]; rfl)
  have W3 := Lib.hid (show WC[3]? = some (.int .i64 val) by rw [hWC]; rfl)
  have b1 : Below w.heap.size w (w.alloc (.cells TC.toArray 26)) := (Below.refl _ w).alloc (Nat.le_refl _) _
  have s1 : (w.alloc (.cells TC.toArray 26)).heap.size = w.heap.size + 1 := by simp
  have b2 : Below w.heap.size w ((w.alloc (.cells TC.toArray 26)).alloc (.cells UC.toArray 26)) := b1.alloc (by rw [s1]; omega) _
  have s2 : ((w.alloc (.cells TC.toArray 26)).alloc (.cells UC.toArray 26)).heap.size = w.heap.size + 2 := by simp
  obtain ⟨w1, hw1⟩ : ∃ z, z = ((w.alloc (.cells TC.toArray 26)).alloc (.cells UC.toArray 26)).alloc (.cells WC.toArray 29) := ⟨_, rfl⟩
  have hb1 : Below w.heap.size w w1 := by rw [hw1]; exact b2.alloc (by rw [s2]; omega) _
  have r3 : VRow w1 w.heap.size 26 TC := by
    rw [hw1]
    have q := (VRow.new w 26 TC).below ((Below.refl _ _).alloc (Nat.le_refl _) (.cells UC.toArray 26)) (by rw [s1]; omega)
    exact q.below ((Below.refl _ _).alloc (Nat.le_refl _) _) q.lt
  have r4 : VRow w1 (w.heap.size + 1) 26 UC := by
    rw [hw1]
    have q := VRow.new (w.alloc (.cells TC.toArray 26)) 26 UC
    rw [s1] at q
    exact q.below ((Below.refl _ _).alloc (Nat.le_refl _) _) q.lt
  have r5 : VRow w1 (w.heap.size + 2) 29 WC := by rw [hw1, ← s2]; exact VRow.new _ _ _
  obtain ⟨G3, hG3⟩ : ∃ z, z = w.heap.size := ⟨_, rfl⟩
  obtain ⟨G4, hG4⟩ : ∃ z, z = w.heap.size + 1 := ⟨_, rfl⟩
  obtain ⟨G5, hG5⟩ : ∃ z, z = w.heap.size + 2 := ⟨_, rfl⟩
  rw [← hG3] at r3
  rw [← hG4] at r4
  rw [← hG5] at r5
  have HG3 := Lib.hid (show w.heap.size ≤ G3 by omega)
  have HG4 := Lib.hid (show w.heap.size ≤ G4 by omega)
  have HG5 := Lib.hid (show w.heap.size ≤ G5 by omega)
  have E3 := Lib.hid hG3
  have E4 := Lib.hid hG4
  have E5 := Lib.hid hG5
  have HN34 := Lib.hid (show ¬ G4 = G3 by omega)
  have HN35 := Lib.hid (show ¬ G5 = G3 by omega)
  have HN43 := Lib.hid (show ¬ G3 = G4 by omega)
  have HN45 := Lib.hid (show ¬ G5 = G4 by omega)
  have HAW := Lib.hid (awake_any w1 (hroots.below hb1))
  have HRO := Lib.hid hroots
  have HB := Lib.hid hB
  have HW1 := Lib.hid hw1
  have R3' := Lib.hid r3
  have R4' := Lib.hid r4
  have R5' := Lib.hid r5
  have HB1 := Lib.hid hb1
  clear hft hfu hsh hnS hTC hUC hWC b1 s1 b2 s2 hw1 hb1 r3 r4 r5 hG3 hG4 hG5 ht hu hB hz hzu hroots hsv
  go_enter Tryd.func5, Tryd.ntmps5
  go_upto_region 1 with fail
  change Code.wp _ _ _ _ (((w.alloc (.cells TC.toArray 26)).alloc (.cells UC.toArray 26)).alloc (.cells WC.toArray 29))
  rw [← HW1.out, show w.heap.size + 1 + 1 = G5 from E5.out.symm, show w.heap.size + 1 = G4 from E4.out.symm, show w.heap.size = G3 from E3.out.symm]
  clear HW1
  try dsimp only [Act.put]
  go_wp2_with fail
  refine HAW.out.mono ?_
  rintro e w2 ⟨rfl, hb2⟩
  have R3 := Lib.hid (R3'.out.below hb2 R3'.out.lt)
  have R4 := Lib.hid (R4'.out.below hb2 R4'.out.lt)
  have R5 := Lib.hid (R5'.out.below hb2 R5'.out.lt)
  have BX := Lib.hid (HB1.out.trans (hb2.mono HB1.out.size))
  clear hb2 R3' R4' R5' HB1 HAW
  go_upto_region 3 with fail
  go_cut [] (fun wx => ∃ FT FU, Hid (FrA w wx G3 G4 G5 WC FT FU))
  case first =>
    as_aux_lemma =>
      have R3 := Lib.hid (show VRow w2.drew G3 26 TC from R3.out)
      have R4 := Lib.hid (show VRow w2.drew G4 26 UC from R4.out)
      have R5 := Lib.hid (show VRow w2.drew G5 29 WC from R5.out)
      have BX := Lib.hid (show Below w.heap.size w w2.drew from BX.out.drew)
      refine wp_region_held_drew (S := AnyW) (by kernel_rfl) ?_ (fun hHeld => ?_)
      · exact anyW _
      refine wpAnyH_ready (rs := [0, 2]) (by kernel_rfl) (by simp) ?_
      refine AllReadyH.cons (o := { dst := some 13, op := Go.Op.load 26 (Go.Operand.tmp 3), type := 26, pos := "law.go:64", after := #[], guard := none }) rfl (fun K hK => ?_) (AllReadyH.cons (o := { dst := some 15, op := Go.Op.load 26 (Go.Operand.tmp 4), type := 26, pos := "law.go:64", after := #[], guard := none }) rfl (fun K hK => ?_) (AllReadyH.nil))
      · skip
        refine wp_load_mid 26 (.tmp 3) rfl G3 0 rfl TC _ (vrow_r0 R3.out) Tryd.underlying26 rfl HTS.out ?_
        refine hK.out _ _ ?_ (fun hHeld => ?_)
        · exact anyW _
        clear hK K
        try simp only [Act.put, List.setIfInBounds_toArray, List.set_cons_zero, List.set_cons_succ]
        refine wpAnyH_ready (rs := [1, 2]) (by kernel_rfl) (by simp) ?_
        refine AllReadyH.cons (o := { dst := some 14, op := Go.Op.call { callee := Go.Callee.value (Go.Operand.func 8), args := #[Go.Operand.tmp 13], argTypes := #[26] }, type := 26, pos := "law.go:64", after := #[{ on := 0, ground := Go.Ground.data }], guard := none }) rfl (fun K hK => ?_) (AllReadyH.cons (o := { dst := some 15, op := Go.Op.load 26 (Go.Operand.tmp 4), type := 26, pos := "law.go:64", after := #[], guard := none }) rfl (fun K hK => ?_) (AllReadyH.nil))
        · skip
          go_simp
          refine (HFT.out _ BX.out).mono ?_
          rintro e x1 ⟨v0, rfl, hfw, hb⟩
          obtain ⟨FT, rfl, hfl⟩ := FewL.of hfw
          have FT1 := Lib.hid (hfl.base BX.out.size)
          have R3 := Lib.hid (R3.out.below hb R3.out.lt)
          have R4 := Lib.hid (R4.out.below hb R4.out.lt)
          have R5 := Lib.hid (R5.out.below hb R5.out.lt)
          have BX := Lib.hid (BX.out.trans (hb.mono BX.out.size))
          clear hfw hfl hb
          refine hK.out _ _ ?_ (fun hHeld => ?_)
          · exact anyW _
          clear hK K
          try simp only [Act.put, List.setIfInBounds_toArray, List.set_cons_zero, List.set_cons_succ]
          refine wpAnyH_ready (rs := [2]) (by kernel_rfl) (by simp) ?_
          refine AllReadyH.cons (o := { dst := some 15, op := Go.Op.load 26 (Go.Operand.tmp 4), type := 26, pos := "law.go:64", after := #[], guard := none }) rfl (fun K hK => ?_) (AllReadyH.nil)
          refine wp_load_mid 26 (.tmp 4) rfl G4 0 rfl UC _ (vrow_r0 R4.out) Tryd.underlying26 rfl HUS.out ?_
          refine hK.out _ _ ?_ (fun hHeld => ?_)
          · exact anyW _
          clear hK K
          try simp only [Act.put, List.setIfInBounds_toArray, List.set_cons_zero, List.set_cons_succ]
          refine wpAnyH_ready (rs := [3]) (by kernel_rfl) (by simp) ?_
          refine AllReadyH.cons (o := { dst := some 16, op := Go.Op.call { callee := Go.Callee.value (Go.Operand.func 8), args := #[Go.Operand.tmp 15], argTypes := #[26] }, type := 26, pos := "law.go:64", after := #[{ on := 2, ground := Go.Ground.data }, { on := 1, ground := Go.Ground.chain }], guard := none }) rfl (fun K hK => ?_) (AllReadyH.nil)
          go_simp
          refine (HFU.out _ BX.out).mono ?_
          rintro e x2 ⟨v0, rfl, hfw, hb⟩
          obtain ⟨FU, rfl, hfl⟩ := FewL.of hfw
          have FU1 := Lib.hid (hfl.base BX.out.size)
          have FT1 := Lib.hid (FT1.out.below hb)
          have R3 := Lib.hid (R3.out.below hb R3.out.lt)
          have R4 := Lib.hid (R4.out.below hb R4.out.lt)
          have R5 := Lib.hid (R5.out.below hb R5.out.lt)
          have BX := Lib.hid (BX.out.trans (hb.mono BX.out.size))
          clear hfw hfl hb
          refine hK.out _ _ ?_ (fun hHeld => ?_)
          · exact anyW _
          clear hK K
          try simp only [Act.put, List.setIfInBounds_toArray, List.set_cons_zero, List.set_cons_succ]
          refine wpAnyH_ready (rs := [4]) (by kernel_rfl) (by simp) ?_
          refine AllReadyH.cons (o := { dst := none, op := Go.Op.store 26 (Go.Operand.tmp 3) (Go.Operand.tmp 14), type := 0, pos := "law.go:64", after := #[{ on := 1, ground := Go.Ground.data }, { on := 3, ground := Go.Ground.chain }, { on := 0, ground := Go.Ground.phase }, { on := 1, ground := Go.Ground.phase }, { on := 2, ground := Go.Ground.textOnly Go.Departure.lateStores }, { on := 3, ground := Go.Ground.textOnly Go.Departure.lateStoresUnsure }], guard := none }) rfl (fun K hK => ?_) (AllReadyH.nil)
          refine wp_store_vrow 26 (.tmp 3) (.tmp 14) rfl (g := G3) (t := 26) (vs := TC) (us := FT) rfl rfl R3.out FT1.out.size (by rw [HTL.out, FT1.out.len]) FT1.out.one ?_
          have R4 := Lib.hid (R4.out.turns (Turns.setRow (S := fun q => q = G3) (Turns.refl _ _) (fun _ => rfl) FT.toArray) HN34.out)
          have R5 := Lib.hid (R5.out.turns (Turns.setRow (S := fun q => q = G3) (Turns.refl _ _) (fun _ => rfl) FT.toArray) HN35.out)
          have FU1 := Lib.hid (FU1.out.setRow R3.out FT)
          have FT1 := Lib.hid (FT1.out.setRow R3.out FT)
          have BX := Lib.hid (below_setRow BX.out HG3.out FT.toArray)
          have R3 := Lib.hid (R3.out.setRow FT)
          refine hK.out _ _ ?_ (fun hHeld => ?_)
          · exact anyW _
          clear hK K
          try simp only [Act.put]
          refine wpAnyH_ready (rs := [5]) (by kernel_rfl) (by simp) ?_
          refine AllReadyH.cons (o := { dst := none, op := Go.Op.store 26 (Go.Operand.tmp 4) (Go.Operand.tmp 16), type := 0, pos := "law.go:64", after := #[{ on := 3, ground := Go.Ground.data }, { on := 4, ground := Go.Ground.chain }, { on := 0, ground := Go.Ground.phase }, { on := 1, ground := Go.Ground.phase }, { on := 2, ground := Go.Ground.phase }, { on := 3, ground := Go.Ground.phase }, { on := 4, ground := Go.Ground.phase }], guard := none }) rfl (fun K hK => ?_) (AllReadyH.nil)
          refine wp_store_vrow 26 (.tmp 4) (.tmp 16) rfl (g := G4) (t := 26) (vs := UC) (us := FU) rfl rfl R4.out FU1.out.size (by rw [HUL.out, FU1.out.len]) FU1.out.one ?_
          have R3 := Lib.hid (R3.out.turns (Turns.setRow (S := fun q => q = G4) (Turns.refl _ _) (fun _ => rfl) FU.toArray) HN43.out)
          have R5 := Lib.hid (R5.out.turns (Turns.setRow (S := fun q => q = G4) (Turns.refl _ _) (fun _ => rfl) FU.toArray) HN45.out)
          have FT1 := Lib.hid (FT1.out.setRow R4.out FU)
          have FU1 := Lib.hid (FU1.out.setRow R4.out FU)
          have BX := Lib.hid (below_setRow BX.out HG4.out FU.toArray)
          have R4 := Lib.hid (R4.out.setRow FU)
          refine hK.out _ _ ?_ (fun hHeld => ?_)
          · exact anyW _
          clear hK K
          try simp only [Act.put]
          refine wpAnyH_done (by kernel_rfl) ?_ _
          go_wp2_with fail
          go_meet
          exact ⟨FT, FU, Lib.hid ⟨FT1.out, FU1.out, R3.out, R4.out, R5.out, BX.out⟩⟩
        · skip
          refine wp_load_mid 26 (.tmp 4) rfl G4 0 rfl UC _ (vrow_r0 R4.out) Tryd.underlying26 rfl HUS.out ?_
          refine hK.out _ _ ?_ (fun hHeld => ?_)
          · exact anyW _
          clear hK K
          try simp only [Act.put, List.setIfInBounds_toArray, List.set_cons_zero, List.set_cons_succ]
          refine wpAnyH_ready (rs := [1]) (by kernel_rfl) (by simp) ?_
          refine AllReadyH.cons (o := { dst := some 14, op := Go.Op.call { callee := Go.Callee.value (Go.Operand.func 8), args := #[Go.Operand.tmp 13], argTypes := #[26] }, type := 26, pos := "law.go:64", after := #[{ on := 0, ground := Go.Ground.data }], guard := none }) rfl (fun K hK => ?_) (AllReadyH.nil)
          go_simp
          refine (HFT.out _ BX.out).mono ?_
          rintro e x3 ⟨v0, rfl, hfw, hb⟩
          obtain ⟨FT, rfl, hfl⟩ := FewL.of hfw
          have FT1 := Lib.hid (hfl.base BX.out.size)
          have R3 := Lib.hid (R3.out.below hb R3.out.lt)
          have R4 := Lib.hid (R4.out.below hb R4.out.lt)
          have R5 := Lib.hid (R5.out.below hb R5.out.lt)
          have BX := Lib.hid (BX.out.trans (hb.mono BX.out.size))
          clear hfw hfl hb
          refine hK.out _ _ ?_ (fun hHeld => ?_)
          · exact anyW _
          clear hK K
          try simp only [Act.put, List.setIfInBounds_toArray, List.set_cons_zero, List.set_cons_succ]
          refine wpAnyH_ready (rs := [3]) (by kernel_rfl) (by simp) ?_
          refine AllReadyH.cons (o := { dst := some 16, op := Go.Op.call { callee := Go.Callee.value (Go.Operand.func 8), args := #[Go.Operand.tmp 15], argTypes := #[26] }, type := 26, pos := "law.go:64", after := #[{ on := 2, ground := Go.Ground.data }, { on := 1, ground := Go.Ground.chain }], guard := none }) rfl (fun K hK => ?_) (AllReadyH.nil)
          go_simp
          refine (HFU.out _ BX.out).mono ?_
          rintro e x4 ⟨v0, rfl, hfw, hb⟩
          obtain ⟨FU, rfl, hfl⟩ := FewL.of hfw
          have FU1 := Lib.hid (hfl.base BX.out.size)
          have FT1 := Lib.hid (FT1.out.below hb)
          have R3 := Lib.hid (R3.out.below hb R3.out.lt)
          have R4 := Lib.hid (R4.out.below hb R4.out.lt)
          have R5 := Lib.hid (R5.out.below hb R5.out.lt)
          have BX := Lib.hid (BX.out.trans (hb.mono BX.out.size))
          clear hfw hfl hb
          refine hK.out _ _ ?_ (fun hHeld => ?_)
          · exact anyW _
          clear hK K
          try simp only [Act.put, List.setIfInBounds_toArray, List.set_cons_zero, List.set_cons_succ]
          refine wpAnyH_ready (rs := [4]) (by kernel_rfl) (by simp) ?_
          refine AllReadyH.cons (o := { dst := none, op := Go.Op.store 26 (Go.Operand.tmp 3) (Go.Operand.tmp 14), type := 0, pos := "law.go:64", after := #[{ on := 1, ground := Go.Ground.data }, { on := 3, ground := Go.Ground.chain }, { on := 0, ground := Go.Ground.phase }, { on := 1, ground := Go.Ground.phase }, { on := 2, ground := Go.Ground.textOnly Go.Departure.lateStores }, { on := 3, ground := Go.Ground.textOnly Go.Departure.lateStoresUnsure }], guard := none }) rfl (fun K hK => ?_) (AllReadyH.nil)
          refine wp_store_vrow 26 (.tmp 3) (.tmp 14) rfl (g := G3) (t := 26) (vs := TC) (us := FT) rfl rfl R3.out FT1.out.size (by rw [HTL.out, FT1.out.len]) FT1.out.one ?_
          have R4 := Lib.hid (R4.out.turns (Turns.setRow (S := fun q => q = G3) (Turns.refl _ _) (fun _ => rfl) FT.toArray) HN34.out)
          have R5 := Lib.hid (R5.out.turns (Turns.setRow (S := fun q => q = G3) (Turns.refl _ _) (fun _ => rfl) FT.toArray) HN35.out)
          have FU1 := Lib.hid (FU1.out.setRow R3.out FT)
          have FT1 := Lib.hid (FT1.out.setRow R3.out FT)
          have BX := Lib.hid (below_setRow BX.out HG3.out FT.toArray)
          have R3 := Lib.hid (R3.out.setRow FT)
          refine hK.out _ _ ?_ (fun hHeld => ?_)
          · exact anyW _
          clear hK K
          try simp only [Act.put]
          refine wpAnyH_ready (rs := [5]) (by kernel_rfl) (by simp) ?_
          refine AllReadyH.cons (o := { dst := none, op := Go.Op.store 26 (Go.Operand.tmp 4) (Go.Operand.tmp 16), type := 0, pos := "law.go:64", after := #[{ on := 3, ground := Go.Ground.data }, { on := 4, ground := Go.Ground.chain }, { on := 0, ground := Go.Ground.phase }, { on := 1, ground := Go.Ground.phase }, { on := 2, ground := Go.Ground.phase }, { on := 3, ground := Go.Ground.phase }, { on := 4, ground := Go.Ground.phase }], guard := none }) rfl (fun K hK => ?_) (AllReadyH.nil)
          refine wp_store_vrow 26 (.tmp 4) (.tmp 16) rfl (g := G4) (t := 26) (vs := UC) (us := FU) rfl rfl R4.out FU1.out.size (by rw [HUL.out, FU1.out.len]) FU1.out.one ?_
          have R3 := Lib.hid (R3.out.turns (Turns.setRow (S := fun q => q = G4) (Turns.refl _ _) (fun _ => rfl) FU.toArray) HN43.out)
          have R5 := Lib.hid (R5.out.turns (Turns.setRow (S := fun q => q = G4) (Turns.refl _ _) (fun _ => rfl) FU.toArray) HN45.out)
          have FT1 := Lib.hid (FT1.out.setRow R4.out FU)
          have FU1 := Lib.hid (FU1.out.setRow R4.out FU)
          have BX := Lib.hid (below_setRow BX.out HG4.out FU.toArray)
          have R4 := Lib.hid (R4.out.setRow FU)
          refine hK.out _ _ ?_ (fun hHeld => ?_)
          · exact anyW _
          clear hK K
          try simp only [Act.put]
          refine wpAnyH_done (by kernel_rfl) ?_ _
          go_wp2_with fail
          go_meet
          exact ⟨FT, FU, Lib.hid ⟨FT1.out, FU1.out, R3.out, R4.out, R5.out, BX.out⟩⟩
      · skip
        refine wp_load_mid 26 (.tmp 4) rfl G4 0 rfl UC _ (vrow_r0 R4.out) Tryd.underlying26 rfl HUS.out ?_
        refine hK.out _ _ ?_ (fun hHeld => ?_)
        · exact anyW _
        clear hK K
        try simp only [Act.put, List.setIfInBounds_toArray, List.set_cons_zero, List.set_cons_succ]
        refine wpAnyH_ready (rs := [0]) (by kernel_rfl) (by simp) ?_
        refine AllReadyH.cons (o := { dst := some 13, op := Go.Op.load 26 (Go.Operand.tmp 3), type := 26, pos := "law.go:64", after := #[], guard := none }) rfl (fun K hK => ?_) (AllReadyH.nil)
        refine wp_load_mid 26 (.tmp 3) rfl G3 0 rfl TC _ (vrow_r0 R3.out) Tryd.underlying26 rfl HTS.out ?_
        refine hK.out _ _ ?_ (fun hHeld => ?_)
        · exact anyW _
        clear hK K
        try simp only [Act.put, List.setIfInBounds_toArray, List.set_cons_zero, List.set_cons_succ]
        refine wpAnyH_ready (rs := [1]) (by kernel_rfl) (by simp) ?_
        refine AllReadyH.cons (o := { dst := some 14, op := Go.Op.call { callee := Go.Callee.value (Go.Operand.func 8), args := #[Go.Operand.tmp 13], argTypes := #[26] }, type := 26, pos := "law.go:64", after := #[{ on := 0, ground := Go.Ground.data }], guard := none }) rfl (fun K hK => ?_) (AllReadyH.nil)
        go_simp
        refine (HFT.out _ BX.out).mono ?_
        rintro e x7 ⟨v0, rfl, hfw, hb⟩
        obtain ⟨FT, rfl, hfl⟩ := FewL.of hfw
        have FT1 := Lib.hid (hfl.base BX.out.size)
        have R3 := Lib.hid (R3.out.below hb R3.out.lt)
        have R4 := Lib.hid (R4.out.below hb R4.out.lt)
        have R5 := Lib.hid (R5.out.below hb R5.out.lt)
        have BX := Lib.hid (BX.out.trans (hb.mono BX.out.size))
        clear hfw hfl hb
        refine hK.out _ _ ?_ (fun hHeld => ?_)
        · exact anyW _
        clear hK K
        try simp only [Act.put, List.setIfInBounds_toArray, List.set_cons_zero, List.set_cons_succ]
        refine wpAnyH_ready (rs := [3]) (by kernel_rfl) (by simp) ?_
        refine AllReadyH.cons (o := { dst := some 16, op := Go.Op.call { callee := Go.Callee.value (Go.Operand.func 8), args := #[Go.Operand.tmp 15], argTypes := #[26] }, type := 26, pos := "law.go:64", after := #[{ on := 2, ground := Go.Ground.data }, { on := 1, ground := Go.Ground.chain }], guard := none }) rfl (fun K hK => ?_) (AllReadyH.nil)
        go_simp
        refine (HFU.out _ BX.out).mono ?_
        rintro e x8 ⟨v0, rfl, hfw, hb⟩
        obtain ⟨FU, rfl, hfl⟩ := FewL.of hfw
        have FU1 := Lib.hid (hfl.base BX.out.size)
        have FT1 := Lib.hid (FT1.out.below hb)
        have R3 := Lib.hid (R3.out.below hb R3.out.lt)
        have R4 := Lib.hid (R4.out.below hb R4.out.lt)
        have R5 := Lib.hid (R5.out.below hb R5.out.lt)
        have BX := Lib.hid (BX.out.trans (hb.mono BX.out.size))
        clear hfw hfl hb
        refine hK.out _ _ ?_ (fun hHeld => ?_)
        · exact anyW _
        clear hK K
        try simp only [Act.put, List.setIfInBounds_toArray, List.set_cons_zero, List.set_cons_succ]
        refine wpAnyH_ready (rs := [4]) (by kernel_rfl) (by simp) ?_
        refine AllReadyH.cons (o := { dst := none, op := Go.Op.store 26 (Go.Operand.tmp 3) (Go.Operand.tmp 14), type := 0, pos := "law.go:64", after := #[{ on := 1, ground := Go.Ground.data }, { on := 3, ground := Go.Ground.chain }, { on := 0, ground := Go.Ground.phase }, { on := 1, ground := Go.Ground.phase }, { on := 2, ground := Go.Ground.textOnly Go.Departure.lateStores }, { on := 3, ground := Go.Ground.textOnly Go.Departure.lateStoresUnsure }], guard := none }) rfl (fun K hK => ?_) (AllReadyH.nil)
        refine wp_store_vrow 26 (.tmp 3) (.tmp 14) rfl (g := G3) (t := 26) (vs := TC) (us := FT) rfl rfl R3.out FT1.out.size (by rw [HTL.out, FT1.out.len]) FT1.out.one ?_
        have R4 := Lib.hid (R4.out.turns (Turns.setRow (S := fun q => q = G3) (Turns.refl _ _) (fun _ => rfl) FT.toArray) HN34.out)
        have R5 := Lib.hid (R5.out.turns (Turns.setRow (S := fun q => q = G3) (Turns.refl _ _) (fun _ => rfl) FT.toArray) HN35.out)
        have FU1 := Lib.hid (FU1.out.setRow R3.out FT)
        have FT1 := Lib.hid (FT1.out.setRow R3.out FT)
        have BX := Lib.hid (below_setRow BX.out HG3.out FT.toArray)
        have R3 := Lib.hid (R3.out.setRow FT)
        refine hK.out _ _ ?_ (fun hHeld => ?_)
        · exact anyW _
        clear hK K
        try simp only [Act.put]
        refine wpAnyH_ready (rs := [5]) (by kernel_rfl) (by simp) ?_
        refine AllReadyH.cons (o := { dst := none, op := Go.Op.store 26 (Go.Operand.tmp 4) (Go.Operand.tmp 16), type := 0, pos := "law.go:64", after := #[{ on := 3, ground := Go.Ground.data }, { on := 4, ground := Go.Ground.chain }, { on := 0, ground := Go.Ground.phase }, { on := 1, ground := Go.Ground.phase }, { on := 2, ground := Go.Ground.phase }, { on := 3, ground := Go.Ground.phase }, { on := 4, ground := Go.Ground.phase }], guard := none }) rfl (fun K hK => ?_) (AllReadyH.nil)
        refine wp_store_vrow 26 (.tmp 4) (.tmp 16) rfl (g := G4) (t := 26) (vs := UC) (us := FU) rfl rfl R4.out FU1.out.size (by rw [HUL.out, FU1.out.len]) FU1.out.one ?_
        have R3 := Lib.hid (R3.out.turns (Turns.setRow (S := fun q => q = G4) (Turns.refl _ _) (fun _ => rfl) FU.toArray) HN43.out)
        have R5 := Lib.hid (R5.out.turns (Turns.setRow (S := fun q => q = G4) (Turns.refl _ _) (fun _ => rfl) FU.toArray) HN45.out)
        have FT1 := Lib.hid (FT1.out.setRow R4.out FU)
        have FU1 := Lib.hid (FU1.out.setRow R4.out FU)
        have BX := Lib.hid (below_setRow BX.out HG4.out FU.toArray)
        have R4 := Lib.hid (R4.out.setRow FU)
        refine hK.out _ _ ?_ (fun hHeld => ?_)
        · exact anyW _
        clear hK K
        try simp only [Act.put]
        refine wpAnyH_done (by kernel_rfl) ?_ _
        go_wp2_with fail
        go_meet
        exact ⟨FT, FU, Lib.hid ⟨FT1.out, FU1.out, R3.out, R4.out, R5.out, BX.out⟩⟩
  case rest =>
    obtain ⟨FT, FU, HFR⟩ := hcut
    obtain ⟨w3, rfl⟩ : ∃ z : World, z = wc := ⟨_, rfl⟩
    clear R3 R4 R5 BX HFT HFU HTS HUS HTL HUL
    obtain ⟨t, iv, ov, X, Y, hft, hok, hI, hO, hEI, hEO, hXe, hYe, hXi, hXn, hYi, hYn⟩ := HFR.out.ft
    obtain ⟨u, ju, pu, XU, YU, hfu, huk, hUI, hUO, hUEI, hUEO, hUXe, hUYe, hUXi, hUXn, hUYi, hUYn⟩ := HFR.out.fu
    have HT3 := Lib.hid (show TxR w3 w3.heap.size t iv ov X Y from ⟨hok, ⟨RowR.of_own hI, fun x hx => (hEI x hx).is⟩, ⟨RowR.of_own hO, fun x hx => (hEO x hx).is⟩, hXe, hYe⟩)
    have HU3 := Lib.hid (show TxR w3 w3.heap.size u ju pu XU YU from ⟨huk, ⟨RowR.of_own hUI, fun x hx => (hUEI x hx).is⟩, ⟨RowR.of_own hUO, fun x hx => (hUEO x hx).is⟩, hUXe, hUYe⟩)
    obtain ⟨A1, c1, hif⟩ := hI.form
    obtain ⟨A2, c2, hof⟩ := hO.form
    obtain ⟨A3, c3, hjf⟩ := hUI.form
    obtain ⟨A4, c4, hpf⟩ := hUO.form
    have cap3 := own_cap (show w3.ownsRow w.heap.size 49 36 (.slice A3 XU.length c3) XU.length (XU.flatMap inC) by have q := hUI; rw [hjf] at q; exact q)
    have cap4 := own_cap (show w3.ownsRow w.heap.size 54 2 (.slice A4 YU.length c4) YU.length (YU.flatMap outC) by have q := hUO; rw [hpf] at q; exact q)
    have HSZ := Lib.hid (sz_of5 hXi hXn hYi hYn)
    have HBX := Lib.hid (show (∀ x ∈ X, x.in 5 300) ∧ (∀ y ∈ Y, y.p.sc.length ≤ 300) ∧ (∀ x ∈ XU, x.in 5 300) ∧ (∀ y ∈ YU, y.p.sc.length ≤ 300) from ⟨hXi, hYi, hUXi, hUYi⟩)
    have e1 := HFR.out.r3.cell (i := 1) (z := iv) (by rw [hft]; rfl)
    have f1 : FU[1]? = some ju := by rw [hfu]; rfl
    have f2 : FU[2]? = some pu := by rw [hfu]; rfl
    have x0 := HFR.out.r5.cell W0.out
    obtain ⟨nX, hnX⟩ : ∃ z, z = X.length := ⟨_, rfl⟩
    obtain ⟨nU, hnU⟩ : ∃ z, z = XU.length := ⟨_, rfl⟩
    obtain ⟨nV, hnV⟩ : ∃ z, z = YU.length := ⟨_, rfl⟩
    obtain ⟨nY, hnY⟩ : ∃ z, z = Y.length := ⟨_, rfl⟩
    rw [← hnX] at hif hXn
    rw [← hnY] at hof hYn
    rw [← hnU] at hjf hUXn cap3
    rw [← hnV] at hpf hUYn cap4
    subst hif hof hjf hpf
    have HFTE := Lib.hid hft
    have HFUE := Lib.hid hfu
    have F1 := Lib.hid f1
    have F2 := Lib.hid f2
    have HNX := Lib.hid hnX
    have HNY := Lib.hid hnY
    have HNU := Lib.hid hnU
    have HNV := Lib.hid hnV
    have hxi : (nX : Int) ≤ 5 := by omega
    have hyi : (nY : Int) ≤ 5 := by omega
    have hui : (nU : Int) ≤ 5 := by omega
    have hvi : (nV : Int) ≤ 5 := by omega
    clear hft hfu hok hI hO hEI hEO hXe hYe hXi hYi huk hUI hUO hUEI hUEO hUXe hUYe hUXi hUYi hnX hnU hnV hnY f1 f2
    by_cases hneg : i < 0
    · as_aux_lemma =>
      have dn : decide (i < 0) = true := decide_eq_true hneg
      go_wp2_with fail
      go_ret
      exact ⟨rfl, HFR.out.bel⟩
    have dn : decide (i < 0) = false := decide_eq_false hneg
    by_cases hge : (nX : Int) ≤ i
    · as_aux_lemma =>
      have dg : decide ((nX : Int) ≤ i) = true := decide_eq_true hge
      go_wp2_with fail
      go_ret
      exact ⟨rfl, HFR.out.bel⟩
    have dg : decide ((nX : Int) ≤ i) = false := decide_eq_false hge
    obtain ⟨I, rfl⟩ : ∃ n : Nat, i = n := ⟨i.toNat, by omega⟩
    have HIX := Lib.hid (show I < nX by omega)
    have dgN : decide (nX ≤ I) = false := decide_eq_false (by omega)
    clear hneg hge
    have hcp := copyTx_any w3.heap.size t _ _ X Y w3 HT3.out (Nat.le_refl _) HSZ.out
    rw [← HFTE.out] at hcp
    have HCP := Lib.hid hcp
    have HTS3 := Lib.hid HFR.out.ft.size
    clear hcp
    go_wp2_with (first
      | (refine wpList_load_vrow rfl 26 (.tmp 3) rfl rfl HFR.out.r3 Tryd.underlying26 HTS3.out ?_))
    refine HCP.out.mono ?_
    rintro e w7 ⟨iv', ov', rfl, XC, YC, hI7, hO7, hE7, hF7, hX7, hY7, hb7⟩
    clear e1 x0
    obtain ⟨CC, hCC⟩ : ∃ z, z = txC t iv' ov' := ⟨_, rfl⟩
    rw [← hCC]
    have hl7 : XC.length = nX := by rw [HNX.out]; have a := congrArg List.length hX7; have b := HT3.out.nins; rw [List.length_map] at a; omega
    have hly : YC.length = nY := by rw [HNY.out]; have a := congrArg List.length hY7; have b := HT3.out.nouts; rw [List.length_map] at a; omega
    obtain ⟨A7, c, hif7⟩ := hI7.form
    obtain ⟨A8, c8, hof7⟩ := hO7.form
    rw [hl7] at hif7
    rw [hly] at hof7
    obtain ⟨g, hA7, hg0, hg1⟩ := own_some (show w7.ownsRow w3.heap.size 49 36 (.slice A7 nX c) nX (XC.flatMap inC) by have q := hI7; unfold InsO at q; rw [hif7, hl7] at q; exact q) (by have := HIX.out; omega)
    have cap7 := own_cap (show w7.ownsRow w3.heap.size 49 36 (.slice A7 nX c) nX (XC.flatMap inC) by have q := hI7; unfold InsO at q; rw [hif7, hl7] at q; exact q)
    have cap8 := own_cap (show w7.ownsRow w3.heap.size 54 2 (.slice A8 nY c8) nY (YC.flatMap outC) by have q := hO7; unfold OutsO at q; rw [hof7, hly] at q; exact q)
    subst hA7 hif7 hof7
    obtain ⟨OV, hOV⟩ : ∃ z, z = Value.slice A8 nY c8 := ⟨_, rfl⟩
    rw [← hOV] at hCC hO7
    have HOV := Lib.hid hOV
    obtain ⟨ZT, hZT⟩ : ∃ z, z = [Value.int .i32 0, .slice none 0 0, .slice none 0 0, .int .u32 0] := ⟨_, rfl⟩
    have hzt := zero_ttx
    rw [← hZT] at hzt
    have S8 := Lib.hid (show (Tryd.prog.info? 26).map (·.size) = some CC.length by rw [hCC]; exact size_tx)
    have L8 := Lib.hid (show ZT.length = CC.length by rw [hCC, hZT]; rfl)
    have O8 := Lib.hid (show CC.toArray.all (·.oneCell') = true by rw [hCC, hOV]; exact arr_one (fun v hv => by unfold txC at hv; simp only [List.mem_cons, List.not_mem_nil, or_false] at hv; rcases hv with rfl | rfl | rfl | rfl <;> rfl))
    have hlc7 : ∀ x ∈ XC, x.p.sc.length ≤ 300 := fun x hx => by
      have a : x.p ∈ t.ins := by rw [← hX7]; exact List.mem_map_of_mem hx
      rw [← HT3.out.ei] at a
      obtain ⟨z, hz, e⟩ := List.mem_map.1 a
      rw [← e]
      exact (HBX.out.1 z hz).sc
    have hlo7 : ∀ y ∈ YC, y.p.sc.length ≤ 300 := fun y hy => by
      have a : y.p ∈ t.outs := by rw [← hY7]; exact List.mem_map_of_mem hy
      rw [← HT3.out.eo] at a
      obtain ⟨z, hz, e⟩ := List.mem_map.1 a
      rw [← e]
      exact HBX.out.2.1 z hz
    have HLO7 := Lib.hid hlo7
    have HLY7 := Lib.hid hly
    have hXA : XAt w3 ((w7.alloc (.cells ZT.toArray 26)).setRow w7.heap.size CC.toArray) w7.heap.size t.ver t.lock (.slice (some ⟨g, 0, none⟩) nX c) OV XC YC := by
      have hb8 : Below w7.heap.size w7 ((w7.alloc (.cells ZT.toArray 26)).setRow w7.heap.size CC.toArray) := below_setRow ((Below.refl _ w7).alloc (Nat.le_refl _) _) (Nat.le_refl _) _
      have tt : Turns (fun _ => False) w7 ((w7.alloc (.cells ZT.toArray 26)).setRow w7.heap.size CC.toArray) := Turns.of_below hb8
      refine ⟨?_, hb7.size, own_turns hI7 tt (fun _ _ q => q), own_turns hO7 tt (fun _ _ q => q), fun x hx => Mx.of_El ((hE7 x hx).apart tt none_apart) (hlc7 x hx), fun y hy => (hF7 y hy).apart tt none_apart, hb7.trans (hb8.mono hb7.size)⟩
      have q := (VRow.new w7 26 ZT).setRow CC
      rw [hCC] at q ⊢
      exact q
    have hSS : SS I k t.ins (XC.map (·.p)) := by rw [hX7]; exact SS.refl _ _ _
    have HXA := Lib.hid hXA
    have HSS := Lib.hid hSS
    have HL7 := Lib.hid hl7
    have HY7 := Lib.hid hY7
    have HB7 := Lib.hid hb7
    clear hI7 hO7 hE7 hF7 hX7 hY7 hb7 hCC hl7 hly hOV hZT hXA hSS HCP hlc7 hlo7
    go_upto_region 7 with (first
      | (refine wpList_store_vrow rfl 26 (.tmp 7) (.tmp 29) rfl rfl rfl (VRow.new _ _ ZT) S8.out L8.out O8.out ?_))
    change Code.wp _ _ _ _ ((w7.alloc (.cells ZT.toArray 26)).setRow w7.heap.size CC.toArray)
    obtain ⟨w8, hw8⟩ : ∃ z, z = (w7.alloc (.cells ZT.toArray 26)).setRow w7.heap.size CC.toArray := ⟨_, rfl⟩
    obtain ⟨G7, hG7⟩ : ∃ z, z = w7.heap.size := ⟨_, rfl⟩
    rw [← hw8, ← hG7] at HXA
    rw [← hw8, show w7.heap.size = G7 from hG7.symm]
    have HG7 := Lib.hid hG7
    clear hw8 hG7 S8 L8 O8 hzt
    try dsimp only [Act.put]
    have HW5 := Lib.hid (show ∀ (W : World) XX, XAt w3 W G7 t.ver t.lock (.slice (some ⟨g, 0, none⟩) nX c) OV XX YC → W.cell? ⟨G5, 0, none⟩ = some (.int .i64 (I : Int)) ∧ W.cell? ⟨G5, 1, none⟩ = some (.int .u8 k) from fun W XX h => by
      have q := HFR.out.r5.below h.bel HFR.out.r5.lt
      exact ⟨q.cell W0.out, q.cell W1.out⟩)
    have HU4 := Lib.hid (show ∀ (W : World) XX, XAt w3 W G7 t.ver t.lock (.slice (some ⟨g, 0, none⟩) nX c) OV XX YC → W.cell? ⟨G4, 1, none⟩ = some (.slice A3 nU c3) from fun W XX h => by
      have q := HFR.out.r4.below h.bel HFR.out.r4.lt
      exact q.cell F1.out)
    have cx1 := HXA.out.t.cell (i := 1) (z := .slice (some ⟨g, 0, none⟩) nX c) rfl
    have cw1 := (HW5.out _ _ HXA.out).2
    go_upto_block 0 with fail
    clear cx1 cw1
    obtain ⟨ko, hko⟩ : ∃ z, z = k % 32 := ⟨_, rfl⟩
    rw [← hko]
    have HKO := Lib.hid (show (ko == 2) = true ∧ chosenF k ≠ 1 ∨ (ko == 2) = false ∧ (ko == 3) = true ∧ chosenF k ≠ 1 ∨ (ko == 2) = false ∧ (ko == 3) = false ∧ chosenF k = 1 by
      unfold chosenF
      rw [← hko]
      by_cases q2 : ko = 2
      · exact .inl ⟨by rw [q2]; rfl, by rw [if_pos q2]; decide⟩
      · by_cases q3 : ko = 3
        · exact .inr (.inl ⟨by rw [q3]; rfl, by rw [q3]; rfl, by rw [if_neg q2, if_pos q3]; decide⟩)
        · exact .inr (.inr ⟨by rw [beq_eq_false_iff_ne]; exact q2, by rw [beq_eq_false_iff_ne]; exact q3, by rw [if_neg q2, if_neg q3]⟩))
    have HKE := Lib.hid hko
    clear hko
    go_cut [] (fun wx => ∃ XX : List InV, Hid (XAt w3 wx G7 t.ver t.lock (.slice (some ⟨g, 0, none⟩) nX c) OV XX YC) ∧ Hid (XX.length = nX) ∧ Hid (SS I k t.ins (XX.map (·.p))))
    case first =>
      as_aux_lemma =>
        refine wp_block ?_
        go_loopw [9, 36] (fun s9 s36 wr => ∃ (j : Nat) (XX : List InV) (s : Value), s = s9 ∧ j ≤ nX ∧ s36 = .int .i64 (j : Int) ∧ Hid (XAt w3 wr G7 t.ver t.lock (.slice (some ⟨g, 0, none⟩) nX c) OV XX YC) ∧ Hid (XX.length = nX) ∧ Hid (SS I k t.ins (XX.map (·.p)))) (fun _ s36 _ => nX - (intOf s36).toNat)
        case atStart => exact ⟨0, XC, _, rfl, Nat.zero_le _, rfl, HXA, HL7, HSS⟩
        case round =>
          obtain ⟨j, XC0, s, hs, hj, rfl, PA, HLC, SSC⟩ := hrel
          subst hs
          obtain ⟨w9, rfl⟩ : ∃ z : World, z = wr := ⟨_, rfl⟩
          by_cases hlt : j < nX
          · as_aux_lemma =>
            have dj : decide ((j : Int) < (nX : Int)) = true := decide_eq_true (by omega)
            have cu := HU4.out _ _ PA.out
            by_cases hju : j < nU
            · as_aux_lemma =>
              have dju : decide ((j : Int) < (nU : Int)) = true := decide_eq_true (by omega)
              obtain ⟨xc0, hxc⟩ : ∃ x, XC0[j]? = some x := ⟨_, List.getElem?_eq_getElem (by rw [HLC.out]; exact hlt)⟩
              have HXC := Lib.hid hxc
              obtain ⟨qv, hqv⟩ : ∃ x, XU[j]? = some x := ⟨_, List.getElem?_eq_getElem (by rw [← HNU.out]; exact hju)⟩
              have HQ := Lib.hid (HU3.out.ins.each qv (List.mem_of_getElem? hqv))
              have HQL := Lib.hid (HBX.out.2.2.1 qv (List.mem_of_getElem? hqv)).sc
              obtain ⟨b, o, c3', ef, hnc, hcm, hbl, hrg, hin⟩ := HU3.out.ins.at hqv
              injection ef with ef1 ef2 ef3
              subst ef1 ef3
              obtain ⟨Aq, cq, hqf⟩ := HQ.out.sc.form
              obtain ⟨Aw, cw, hwf⟩ := HQ.out.wt.form
              obtain ⟨nq, hnq⟩ : ∃ z, z = qv.p.sc.length := ⟨_, rfl⟩
              obtain ⟨nw, hnw⟩ : ∃ z, z = qv.wl.length := ⟨_, rfl⟩
              rw [← hnq] at hqf
              rw [← hnw] at hwf
              obtain ⟨zq, hzq⟩ : ∃ z, z = qv.p.sq := ⟨_, rfl⟩
              obtain ⟨O, hO⟩ : ∃ z, z = opC qv.p.h qv.p.ix := ⟨_, rfl⟩
              have HOL := Lib.hid (show O.length = 33 by rw [hO]; exact opC_length _ HQ.out.ok.hl)
              have HOS := Lib.hid (show (Tryd.prog.info? 46).map (·.size) = some O.length by rw [HOL.out]; exact size_op)
              have HO1 := Lib.hid (show O.toArray.all (·.oneCell') = true by
                rw [hO]
                exact arr_one (fun v hv => by
                  unfold opC at hv
                  rcases List.mem_append.1 hv with hv | hv
                  · obtain ⟨z, _, rfl⟩ := List.mem_map.1 hv
                    rfl
                  · simp only [List.mem_cons, List.not_mem_nil, or_false] at hv
                    rw [hv]
                    rfl))
              have g33 := hrg 33 _ (inC_sc hin.ok)
              have g34 := hrg 34 _ (inC_sq hin.ok)
              have g35 := hrg 35 _ (inC_wt hin.ok)
              have g0 : w3.rangeAt b (o + j * 36) O := rangeAt_head (by rw [inC_op, ← hO] at hrg; exact hrg)
              rw [hqf] at g33
              rw [← hzq] at g34
              rw [hwf] at g35
              have HQS := Lib.hid hqf
              have HQW := Lib.hid hwf
              have HQZ := Lib.hid hzq.symm
              have HOE := Lib.hid hO
              have HSB := Lib.hid (show ∀ (W : World) XX, XAt w3 W G7 t.ver t.lock (.slice (some ⟨g, 0, none⟩) nX c) OV XX YC → (fun w' => w'.cell? ⟨G7, 1, none⟩ = some (.slice (some ⟨g, 0, none⟩) nX c) ∧ w'.cell? ⟨G4, 1, none⟩ = some (.slice (some ⟨b, o, none⟩) nU c3) ∧ w'.cell? ⟨b, o + j * 36 + 33, none⟩ = some (.slice Aq nq cq) ∧ w'.cell? ⟨b, o + j * 36 + 35, none⟩ = some (.slice Aw nw cw) ∧ w'.cell? ⟨b, o + j * 36 + 34, none⟩ = some (.int .u32 zq) ∧ w'.rangeAt b (o + j * 36) O) W from fun W XX h =>
                ⟨h.t.cell (i := 1) (z := .slice (some ⟨g, 0, none⟩) nX c) rfl, HU4.out W XX h, (h.bel.cell (p := ⟨b, _, none⟩) hbl).trans g33, (h.bel.cell (p := ⟨b, _, none⟩) hbl).trans g35, (h.bel.cell (p := ⟨b, _, none⟩) hbl).trans g34, fun q v hv => (h.bel.cell (p := ⟨b, _, none⟩) hbl).trans (g0 q v hv)⟩)
              have hj5 : (j : Int) ≤ 5 := by omega
              have hnc3 : nU ≤ c3 := by omega
              have hnc7 : nX ≤ c := by omega
              clear hxc hqv hnc hcm hbl hrg hin hqf hwf hnq hnw hzq hO g33 g34 g35 g0 ef2
              go_upto_region 12 with fail
              clear cu
              have PA := Lib.hid PA.out.drew
              refine wp_region_held_drew (S := (fun w' => w'.cell? ⟨G7, 1, none⟩ = some (.slice (some ⟨g, 0, none⟩) nX c) ∧ w'.cell? ⟨G4, 1, none⟩ = some (.slice (some ⟨b, o, none⟩) nU c3) ∧ w'.cell? ⟨b, o + j * 36 + 33, none⟩ = some (.slice Aq nq cq) ∧ w'.cell? ⟨b, o + j * 36 + 35, none⟩ = some (.slice Aw nw cw) ∧ w'.cell? ⟨b, o + j * 36 + 34, none⟩ = some (.int .u32 zq) ∧ w'.rangeAt b (o + j * 36) O)) (by kernel_rfl) ?_ (fun hHeld => ?_)
              · exact HSB.out _ _ PA.out
              refine wpAnyH_take (i := 0) (oi := { dst := some 44, op := Go.Op.fieldAddr 26 (Go.Operand.tmp 7) 1, type := 0, pos := "law.go:72", after := #[], guard := none }) (v := ?av0) rfl (by kernel_rfl) (by kernel_rfl) (by kernel_rfl) (fun _ _ _ h => h) (Or.inl ⟨by rfl, ?ay0⟩) (by assumption) ?ar0
              case ay0 => (intro w hSw; (try dsimp only at hSw); go_simp; try (with_reducible rfl))
              case ar0 =>
              try simp only [Act.put, List.setIfInBounds_toArray, List.set_cons_zero, List.set_cons_succ]
              refine wpAnyH_take (i := 1) (oi := { dst := some 45, op := Go.Op.load 22 (Go.Operand.tmp 44), type := 22, pos := "law.go:72", after := #[{ on := 0, ground := Go.Ground.data }], guard := none }) (v := (.slice (some ⟨g, 0, none⟩) nX c)) rfl (by kernel_rfl) (by kernel_rfl) (by kernel_rfl) (fun _ _ _ h => h) (Or.inl ⟨by rfl, ?ay1⟩) (by assumption) ?ar1
              case ay1 => (intro w hSw; (try dsimp only at hSw); go_simp; try (simp [hSw.1]))
              case ar1 =>
              try simp only [Act.put, List.setIfInBounds_toArray, List.set_cons_zero, List.set_cons_succ]
              refine wpAnyH_take (i := 2) (oi := { dst := some 46, op := Go.Op.move (Go.Operand.tmp 9), type := 3, pos := "law.go:72", after := #[], guard := none }) (v := ?av2) rfl (by kernel_rfl) (by kernel_rfl) (by kernel_rfl) (fun _ _ _ h => h) (Or.inl ⟨by rfl, ?ay2⟩) (by assumption) ?ar2
              case ay2 => (intro w hSw; (try dsimp only at hSw); go_simp; try (with_reducible rfl))
              case ar2 =>
              try simp only [Act.put, List.setIfInBounds_toArray, List.set_cons_zero, List.set_cons_succ]
              refine wpAnyH_take (i := 3) (oi := { dst := some 47, op := Go.Op.fieldAddr 26 (Go.Operand.tmp 7) 1, type := 0, pos := "law.go:72", after := #[{ on := 20, ground := Go.Ground.gcOnly Go.Departure.lateStores }], guard := none }) (v := ?av3) rfl (by kernel_rfl) (by kernel_rfl) (by kernel_rfl) (fun _ _ _ h => h) (Or.inl ⟨by rfl, ?ay3⟩) (by assumption) ?ar3
              case ay3 => (intro w hSw; (try dsimp only at hSw); go_simp; try (with_reducible rfl))
              case ar3 =>
              try simp only [Act.put, List.setIfInBounds_toArray, List.set_cons_zero, List.set_cons_succ]
              refine wpAnyH_take (i := 4) (oi := { dst := some 48, op := Go.Op.load 22 (Go.Operand.tmp 47), type := 22, pos := "law.go:72", after := #[{ on := 3, ground := Go.Ground.data }, { on := 20, ground := Go.Ground.gcOnly Go.Departure.lateStores }], guard := none }) (v := (.slice (some ⟨g, 0, none⟩) nX c)) rfl (by kernel_rfl) (by kernel_rfl) (by kernel_rfl) (fun _ _ _ h => h) (Or.inl ⟨by rfl, ?ay4⟩) (by assumption) ?ar4
              case ay4 => (intro w hSw; (try dsimp only at hSw); go_simp; try (simp [hSw.1]))
              case ar4 =>
              try simp only [Act.put, List.setIfInBounds_toArray, List.set_cons_zero, List.set_cons_succ]
              refine wpAnyH_take (i := 5) (oi := { dst := some 49, op := Go.Op.move (Go.Operand.tmp 9), type := 3, pos := "law.go:72", after := #[{ on := 20, ground := Go.Ground.gcOnly Go.Departure.lateStores }], guard := none }) (v := ?av5) rfl (by kernel_rfl) (by kernel_rfl) (by kernel_rfl) (fun _ _ _ h => h) (Or.inl ⟨by rfl, ?ay5⟩) (by assumption) ?ar5
              case ay5 => (intro w hSw; (try dsimp only at hSw); go_simp; try (with_reducible rfl))
              case ar5 =>
              try simp only [Act.put, List.setIfInBounds_toArray, List.set_cons_zero, List.set_cons_succ]
              refine wpAnyH_take (i := 6) (oi := { dst := some 50, op := Go.Op.fieldAddr 26 (Go.Operand.tmp 4) 1, type := 0, pos := "law.go:72", after := #[], guard := none }) (v := ?av6) rfl (by kernel_rfl) (by kernel_rfl) (by kernel_rfl) (fun _ _ _ h => h) (Or.inl ⟨by rfl, ?ay6⟩) (by assumption) ?ar6
              case ay6 => (intro w hSw; (try dsimp only at hSw); go_simp; try (with_reducible rfl))
              case ar6 =>
              try simp only [Act.put, List.setIfInBounds_toArray, List.set_cons_zero, List.set_cons_succ]
              refine wpAnyH_take (i := 7) (oi := { dst := some 51, op := Go.Op.load 22 (Go.Operand.tmp 50), type := 22, pos := "law.go:72", after := #[{ on := 6, ground := Go.Ground.data }], guard := none }) (v := (.slice (some ⟨b, o, none⟩) nU c3)) rfl (by kernel_rfl) (by kernel_rfl) (by kernel_rfl) (fun _ _ _ h => h) (Or.inl ⟨by rfl, ?ay7⟩) (by assumption) ?ar7
              case ay7 => (intro w hSw; (try dsimp only at hSw); go_simp; try (simp [hSw.2.1]))
              case ar7 =>
              try simp only [Act.put, List.setIfInBounds_toArray, List.set_cons_zero, List.set_cons_succ]
              refine wpAnyH_take (i := 8) (oi := { dst := some 52, op := Go.Op.move (Go.Operand.tmp 9), type := 3, pos := "law.go:72", after := #[], guard := none }) (v := ?av8) rfl (by kernel_rfl) (by kernel_rfl) (by kernel_rfl) (fun _ _ _ h => h) (Or.inl ⟨by rfl, ?ay8⟩) (by assumption) ?ar8
              case ay8 => (intro w hSw; (try dsimp only at hSw); go_simp; try (with_reducible rfl))
              case ar8 =>
              try simp only [Act.put, List.setIfInBounds_toArray, List.set_cons_zero, List.set_cons_succ]
              refine wpAnyH_take (i := 9) (oi := { dst := some 53, op := Go.Op.indexAddr 22 (Go.Operand.tmp 51) (Go.Operand.tmp 52), type := 0, pos := "law.go:72", after := #[{ on := 7, ground := Go.Ground.data }, { on := 8, ground := Go.Ground.data }], guard := none }) (v := ?av9) rfl (by kernel_rfl) (by kernel_rfl) (by kernel_rfl) (fun _ _ _ h => h) (Or.inl ⟨by rfl, ?ay9⟩) (by assumption) ?ar9
              case ay9 => (intro w hSw; (try dsimp only at hSw); go_simp; try (with_reducible rfl))
              case ar9 =>
              try simp only [Act.put, List.setIfInBounds_toArray, List.set_cons_zero, List.set_cons_succ]
              refine wpAnyH_take (i := 10) (oi := { dst := some 54, op := Go.Op.fieldAddr 49 (Go.Operand.tmp 53) 1, type := 0, pos := "law.go:72", after := #[{ on := 9, ground := Go.Ground.data }], guard := none }) (v := ?av10) rfl (by kernel_rfl) (by kernel_rfl) (by kernel_rfl) (fun _ _ _ h => h) (Or.inl ⟨by rfl, ?ay10⟩) (by assumption) ?ar10
              case ay10 => (intro w hSw; (try dsimp only at hSw); go_simp; try (with_reducible rfl))
              case ar10 =>
              try simp only [Act.put, List.setIfInBounds_toArray, List.set_cons_zero, List.set_cons_succ]
              refine wpAnyH_take (i := 11) (oi := { dst := some 55, op := Go.Op.load 27 (Go.Operand.tmp 54), type := 27, pos := "law.go:72", after := #[{ on := 10, ground := Go.Ground.data }], guard := none }) (v := (.slice Aq nq cq)) rfl (by kernel_rfl) (by kernel_rfl) (by kernel_rfl) (fun _ _ _ h => h) (Or.inl ⟨by rfl, ?ay11⟩) (by assumption) ?ar11
              case ay11 => (intro w hSw; (try dsimp only at hSw); go_simp; try (simp [hSw.2.2.1]))
              case ar11 =>
              try simp only [Act.put, List.setIfInBounds_toArray, List.set_cons_zero, List.set_cons_succ]
              refine wpAnyH_take (i := 12) (oi := { dst := some 56, op := Go.Op.fieldAddr 26 (Go.Operand.tmp 4) 1, type := 0, pos := "law.go:72", after := #[], guard := none }) (v := ?av12) rfl (by kernel_rfl) (by kernel_rfl) (by kernel_rfl) (fun _ _ _ h => h) (Or.inl ⟨by rfl, ?ay12⟩) (by assumption) ?ar12
              case ay12 => (intro w hSw; (try dsimp only at hSw); go_simp; try (with_reducible rfl))
              case ar12 =>
              try simp only [Act.put, List.setIfInBounds_toArray, List.set_cons_zero, List.set_cons_succ]
              refine wpAnyH_take (i := 13) (oi := { dst := some 57, op := Go.Op.load 22 (Go.Operand.tmp 56), type := 22, pos := "law.go:72", after := #[{ on := 12, ground := Go.Ground.data }], guard := none }) (v := (.slice (some ⟨b, o, none⟩) nU c3)) rfl (by kernel_rfl) (by kernel_rfl) (by kernel_rfl) (fun _ _ _ h => h) (Or.inl ⟨by rfl, ?ay13⟩) (by assumption) ?ar13
              case ay13 => (intro w hSw; (try dsimp only at hSw); go_simp; try (simp [hSw.2.1]))
              case ar13 =>
              try simp only [Act.put, List.setIfInBounds_toArray, List.set_cons_zero, List.set_cons_succ]
              refine wpAnyH_take (i := 14) (oi := { dst := some 58, op := Go.Op.move (Go.Operand.tmp 9), type := 3, pos := "law.go:72", after := #[], guard := none }) (v := ?av14) rfl (by kernel_rfl) (by kernel_rfl) (by kernel_rfl) (fun _ _ _ h => h) (Or.inl ⟨by rfl, ?ay14⟩) (by assumption) ?ar14
              case ay14 => (intro w hSw; (try dsimp only at hSw); go_simp; try (with_reducible rfl))
              case ar14 =>
              try simp only [Act.put, List.setIfInBounds_toArray, List.set_cons_zero, List.set_cons_succ]
              refine wpAnyH_take (i := 15) (oi := { dst := some 59, op := Go.Op.indexAddr 22 (Go.Operand.tmp 57) (Go.Operand.tmp 58), type := 0, pos := "law.go:72", after := #[{ on := 13, ground := Go.Ground.data }, { on := 14, ground := Go.Ground.data }], guard := none }) (v := ?av15) rfl (by kernel_rfl) (by kernel_rfl) (by kernel_rfl) (fun _ _ _ h => h) (Or.inl ⟨by rfl, ?ay15⟩) (by assumption) ?ar15
              case ay15 => (intro w hSw; (try dsimp only at hSw); go_simp; try (with_reducible rfl))
              case ar15 =>
              try simp only [Act.put, List.setIfInBounds_toArray, List.set_cons_zero, List.set_cons_succ]
              refine wpAnyH_take (i := 16) (oi := { dst := some 60, op := Go.Op.fieldAddr 49 (Go.Operand.tmp 59) 3, type := 0, pos := "law.go:72", after := #[{ on := 15, ground := Go.Ground.data }], guard := none }) (v := ?av16) rfl (by kernel_rfl) (by kernel_rfl) (by kernel_rfl) (fun _ _ _ h => h) (Or.inl ⟨by rfl, ?ay16⟩) (by assumption) ?ar16
              case ay16 => (intro w hSw; (try dsimp only at hSw); go_simp; try (with_reducible rfl))
              case ar16 =>
              try simp only [Act.put, List.setIfInBounds_toArray, List.set_cons_zero, List.set_cons_succ]
              refine wpAnyH_take (i := 17) (oi := { dst := some 61, op := Go.Op.load 47 (Go.Operand.tmp 60), type := 47, pos := "law.go:72", after := #[{ on := 16, ground := Go.Ground.data }], guard := none }) (v := (.slice Aw nw cw)) rfl (by kernel_rfl) (by kernel_rfl) (by kernel_rfl) (fun _ _ _ h => h) (Or.inl ⟨by rfl, ?ay17⟩) (by assumption) ?ar17
              case ay17 => (intro w hSw; (try dsimp only at hSw); go_simp; try (simp [hSw.2.2.2.1]))
              case ar17 =>
              try simp only [Act.put, List.setIfInBounds_toArray, List.set_cons_zero, List.set_cons_succ]
              refine wpAnyH_take (i := 18) (oi := { dst := some 62, op := Go.Op.indexAddr 22 (Go.Operand.tmp 45) (Go.Operand.tmp 46), type := 0, pos := "law.go:72", after := #[{ on := 1, ground := Go.Ground.data }, { on := 2, ground := Go.Ground.data }, { on := 0, ground := Go.Ground.phase }, { on := 1, ground := Go.Ground.phase }, { on := 2, ground := Go.Ground.phase }, { on := 3, ground := Go.Ground.textOnly Go.Departure.lateStores }, { on := 4, ground := Go.Ground.textOnly Go.Departure.lateStores }, { on := 5, ground := Go.Ground.textOnly Go.Departure.lateStores }, { on := 6, ground := Go.Ground.phase }, { on := 7, ground := Go.Ground.phase }, { on := 8, ground := Go.Ground.phase }, { on := 9, ground := Go.Ground.phase }, { on := 10, ground := Go.Ground.phase }, { on := 11, ground := Go.Ground.phase }, { on := 12, ground := Go.Ground.textOnly Go.Departure.lateStores }, { on := 13, ground := Go.Ground.textOnly Go.Departure.lateStores }, { on := 14, ground := Go.Ground.textOnly Go.Departure.lateStores }, { on := 15, ground := Go.Ground.textOnly Go.Departure.lateStoresUnsure }, { on := 16, ground := Go.Ground.textOnly Go.Departure.lateStoresUnsure }, { on := 17, ground := Go.Ground.phase }], guard := none }) (v := ?av18) rfl (by kernel_rfl) (by kernel_rfl) (by kernel_rfl) (fun _ _ _ h => h) (Or.inl ⟨by rfl, ?ay18⟩) (by assumption) ?ar18
              case ay18 => (intro w hSw; (try dsimp only at hSw); go_simp; try (with_reducible rfl))
              case ar18 =>
              try simp only [Act.put, List.setIfInBounds_toArray, List.set_cons_zero, List.set_cons_succ]
              refine wpAnyH_take (i := 19) (oi := { dst := some 63, op := Go.Op.fieldAddr 49 (Go.Operand.tmp 62) 1, type := 0, pos := "law.go:72", after := #[{ on := 18, ground := Go.Ground.data }, { on := 0, ground := Go.Ground.phase }, { on := 1, ground := Go.Ground.phase }, { on := 2, ground := Go.Ground.phase }, { on := 3, ground := Go.Ground.textOnly Go.Departure.lateStores }, { on := 4, ground := Go.Ground.textOnly Go.Departure.lateStores }, { on := 5, ground := Go.Ground.textOnly Go.Departure.lateStores }, { on := 6, ground := Go.Ground.phase }, { on := 7, ground := Go.Ground.phase }, { on := 8, ground := Go.Ground.phase }, { on := 9, ground := Go.Ground.phase }, { on := 10, ground := Go.Ground.phase }, { on := 11, ground := Go.Ground.phase }, { on := 12, ground := Go.Ground.textOnly Go.Departure.lateStores }, { on := 13, ground := Go.Ground.textOnly Go.Departure.lateStores }, { on := 14, ground := Go.Ground.textOnly Go.Departure.lateStores }, { on := 15, ground := Go.Ground.textOnly Go.Departure.lateStoresUnsure }, { on := 16, ground := Go.Ground.textOnly Go.Departure.lateStoresUnsure }, { on := 17, ground := Go.Ground.phase }], guard := none }) (v := ?av19) rfl (by kernel_rfl) (by kernel_rfl) (by kernel_rfl) (fun _ _ _ h => h) (Or.inl ⟨by rfl, ?ay19⟩) (by assumption) ?ar19
              case ay19 => (intro w hSw; (try dsimp only at hSw); go_simp; try (with_reducible rfl))
              case ar19 =>
              try simp only [Act.put, List.setIfInBounds_toArray, List.set_cons_zero, List.set_cons_succ]
              refine wpAnyH_ready (rs := [20]) (by kernel_rfl) (by simp) ?_
              refine AllReadyH.cons (o := { dst := none, op := Go.Op.store 27 (Go.Operand.tmp 63) (Go.Operand.tmp 55), type := 0, pos := "law.go:72", after := #[{ on := 19, ground := Go.Ground.data }, { on := 11, ground := Go.Ground.data }, { on := 0, ground := Go.Ground.phase }, { on := 1, ground := Go.Ground.phase }, { on := 2, ground := Go.Ground.phase }, { on := 3, ground := Go.Ground.textOnly Go.Departure.lateStores }, { on := 4, ground := Go.Ground.textOnly Go.Departure.lateStores }, { on := 5, ground := Go.Ground.textOnly Go.Departure.lateStores }, { on := 6, ground := Go.Ground.phase }, { on := 7, ground := Go.Ground.phase }, { on := 8, ground := Go.Ground.phase }, { on := 9, ground := Go.Ground.phase }, { on := 10, ground := Go.Ground.phase }, { on := 11, ground := Go.Ground.phase }, { on := 12, ground := Go.Ground.textOnly Go.Departure.lateStores }, { on := 13, ground := Go.Ground.textOnly Go.Departure.lateStores }, { on := 14, ground := Go.Ground.textOnly Go.Departure.lateStores }, { on := 15, ground := Go.Ground.textOnly Go.Departure.lateStoresUnsure }, { on := 16, ground := Go.Ground.textOnly Go.Departure.lateStoresUnsure }, { on := 17, ground := Go.Ground.phase }], guard := none }) rfl (fun K hK => ?_) (AllReadyH.nil)
              obtain ⟨old, h1, h2⟩ := PA.out.can HLC.out hlt (show 33 < 36 by decide)
              refine wp_store_one 27 (.tmp 63) (.tmp 55) rfl (b := g) (o := j * 36 + 33) (v := (.slice Aq nq cq)) rfl rfl rfl rfl size_bs h1 h2 ?_
              clear h1 h2
              have hP1 := PA.out.putSc HLC.out HXC.out HQ.out HQL.out
              rw [HQS.out] at hP1
              have SSC := Lib.hid (SSC.out.sc HXC.out qv)
              obtain ⟨xc1, hxc1⟩ : ∃ z, z = xSc xc0 qv := ⟨_, rfl⟩
              rw [← hxc1] at hP1 SSC
              obtain ⟨XC1, hXC1⟩ : ∃ z, z = XC0.set j xc1 := ⟨_, rfl⟩
              rw [← hXC1] at hP1 SSC
              have HXC := Lib.hid (show XC1[j]? = some xc1 by rw [hXC1, List.getElem?_set_self (by rw [HLC.out]; exact hlt)])
              have HLC := Lib.hid (show XC1.length = nX by rw [hXC1, List.length_set]; exact HLC.out)
              have PA := Lib.hid hP1
              clear hP1 hxc1 hXC1
              refine hK.out _ _ ?_ (fun hHeld => ?_)
              · exact HSB.out _ _ PA.out
              clear hK K
              try simp only [Act.put]
              refine wpAnyH_take (i := 21) (oi := { dst := some 64, op := Go.Op.indexAddr 22 (Go.Operand.tmp 48) (Go.Operand.tmp 49), type := 0, pos := "law.go:72", after := #[{ on := 4, ground := Go.Ground.data }, { on := 5, ground := Go.Ground.data }, { on := 0, ground := Go.Ground.phase }, { on := 1, ground := Go.Ground.phase }, { on := 2, ground := Go.Ground.phase }, { on := 3, ground := Go.Ground.phase }, { on := 4, ground := Go.Ground.phase }, { on := 5, ground := Go.Ground.phase }, { on := 6, ground := Go.Ground.phase }, { on := 7, ground := Go.Ground.phase }, { on := 8, ground := Go.Ground.phase }, { on := 9, ground := Go.Ground.phase }, { on := 10, ground := Go.Ground.phase }, { on := 11, ground := Go.Ground.phase }, { on := 12, ground := Go.Ground.phase }, { on := 13, ground := Go.Ground.phase }, { on := 14, ground := Go.Ground.phase }, { on := 15, ground := Go.Ground.phase }, { on := 16, ground := Go.Ground.phase }, { on := 17, ground := Go.Ground.phase }, { on := 18, ground := Go.Ground.phase }, { on := 19, ground := Go.Ground.phase }, { on := 20, ground := Go.Ground.phase }], guard := none }) (v := ?a_20v21) rfl (by kernel_rfl) (by kernel_rfl) (by kernel_rfl) (fun _ _ _ h => h) (Or.inl ⟨by rfl, ?a_20y21⟩) (by assumption) ?a_20r21
              case a_20y21 => (intro w hSw; (try dsimp only at hSw); go_simp; try (with_reducible rfl))
              case a_20r21 =>
              try simp only [Act.put, List.setIfInBounds_toArray, List.set_cons_zero, List.set_cons_succ]
              refine wpAnyH_take (i := 22) (oi := { dst := some 65, op := Go.Op.fieldAddr 49 (Go.Operand.tmp 64) 3, type := 0, pos := "law.go:72", after := #[{ on := 21, ground := Go.Ground.data }, { on := 0, ground := Go.Ground.phase }, { on := 1, ground := Go.Ground.phase }, { on := 2, ground := Go.Ground.phase }, { on := 3, ground := Go.Ground.phase }, { on := 4, ground := Go.Ground.phase }, { on := 5, ground := Go.Ground.phase }, { on := 6, ground := Go.Ground.phase }, { on := 7, ground := Go.Ground.phase }, { on := 8, ground := Go.Ground.phase }, { on := 9, ground := Go.Ground.phase }, { on := 10, ground := Go.Ground.phase }, { on := 11, ground := Go.Ground.phase }, { on := 12, ground := Go.Ground.phase }, { on := 13, ground := Go.Ground.phase }, { on := 14, ground := Go.Ground.phase }, { on := 15, ground := Go.Ground.phase }, { on := 16, ground := Go.Ground.phase }, { on := 17, ground := Go.Ground.phase }, { on := 18, ground := Go.Ground.phase }, { on := 19, ground := Go.Ground.phase }, { on := 20, ground := Go.Ground.phase }], guard := none }) (v := ?a_20v22) rfl (by kernel_rfl) (by kernel_rfl) (by kernel_rfl) (fun _ _ _ h => h) (Or.inl ⟨by rfl, ?a_20y22⟩) (by assumption) ?a_20r22
              case a_20y22 => (intro w hSw; (try dsimp only at hSw); go_simp; try (with_reducible rfl))
              case a_20r22 =>
              try simp only [Act.put, List.setIfInBounds_toArray, List.set_cons_zero, List.set_cons_succ]
              refine wpAnyH_ready (rs := [23]) (by kernel_rfl) (by simp) ?_
              refine AllReadyH.cons (o := { dst := none, op := Go.Op.store 47 (Go.Operand.tmp 65) (Go.Operand.tmp 61), type := 0, pos := "law.go:72", after := #[{ on := 22, ground := Go.Ground.data }, { on := 17, ground := Go.Ground.data }, { on := 20, ground := Go.Ground.chain }, { on := 0, ground := Go.Ground.phase }, { on := 1, ground := Go.Ground.phase }, { on := 2, ground := Go.Ground.phase }, { on := 3, ground := Go.Ground.phase }, { on := 4, ground := Go.Ground.phase }, { on := 5, ground := Go.Ground.phase }, { on := 6, ground := Go.Ground.phase }, { on := 7, ground := Go.Ground.phase }, { on := 8, ground := Go.Ground.phase }, { on := 9, ground := Go.Ground.phase }, { on := 10, ground := Go.Ground.phase }, { on := 11, ground := Go.Ground.phase }, { on := 12, ground := Go.Ground.phase }, { on := 13, ground := Go.Ground.phase }, { on := 14, ground := Go.Ground.phase }, { on := 15, ground := Go.Ground.phase }, { on := 16, ground := Go.Ground.phase }, { on := 17, ground := Go.Ground.phase }, { on := 18, ground := Go.Ground.phase }, { on := 19, ground := Go.Ground.phase }, { on := 20, ground := Go.Ground.phase }], guard := none }) rfl (fun K hK => ?_) (AllReadyH.nil)
              obtain ⟨old, h1, h2⟩ := PA.out.can HLC.out hlt (show 35 < 36 by decide)
              refine wp_store_one 47 (.tmp 65) (.tmp 61) rfl (b := g) (o := j * 36 + 35) (v := (.slice Aw nw cw)) rfl rfl rfl rfl size_bag h1 h2 ?_
              clear h1 h2
              have hP2 := PA.out.putWt HLC.out HXC.out HQ.out
              rw [HQW.out] at hP2
              have SSC := Lib.hid (SSC.out.wt HXC.out qv)
              obtain ⟨xc2, hxc2⟩ : ∃ z, z = xWt xc1 qv := ⟨_, rfl⟩
              rw [← hxc2] at hP2 SSC
              obtain ⟨XC2, hXC2⟩ : ∃ z, z = XC1.set j xc2 := ⟨_, rfl⟩
              rw [← hXC2] at hP2 SSC
              have HXC := Lib.hid (show XC2[j]? = some xc2 by rw [hXC2, List.getElem?_set_self (by rw [HLC.out]; exact hlt)])
              have HLC := Lib.hid (show XC2.length = nX by rw [hXC2, List.length_set]; exact HLC.out)
              have PA := Lib.hid hP2
              clear hP2 hxc2 hXC2
              refine hK.out _ _ ?_ (fun hHeld => ?_)
              · exact HSB.out _ _ PA.out
              clear hK K
              try simp only [Act.put]
              refine wpAnyH_done (by kernel_rfl) ?_ _
              obtain ⟨wA, hwA⟩ : ∃ z, z = (w9.drew.setCell ⟨g, j * 36 + 33, none⟩ (.slice Aq nq cq)).setCell ⟨g, j * 36 + 35, none⟩ (.slice Aw nw cw) := ⟨_, rfl⟩
              rw [← hwA] at PA ⊢
              clear hwA
              have cw0 := (HW5.out _ _ PA.out).1
              have cw1 := (HW5.out _ _ PA.out).2
              by_cases hjI : j = I
              · as_aux_lemma =>
                subst hjI
                have dne : ((j : Int) != (j : Int)) = false := by simp
                go_wp2_with fail
                exact ⟨⟨j + 1, XC2, _, rfl, hlt, by first | rfl | (rw [wrap_small2 (by omega) (by omega)]; rfl), PA, HLC, SSC⟩, meas_n hlt⟩
              · as_aux_lemma =>
                have dne : ((j : Int) != (I : Int)) = true := by rw [bne_iff_ne]; omega
                have HNE := Lib.hid hjI
                clear hjI
                rcases HKO.out with ⟨d2, hc⟩ | ⟨d2, d3, hc⟩ | ⟨d2, d3, hc⟩
                · as_aux_lemma =>
                  have HSQ := Lib.hid (show aloneF k = true ∨ chosenF k ≠ 1 from .inr hc)
                  clear hc
                  go_upto_region 14 with fail
                  clear cw0 cw1
                  have PA := Lib.hid PA.out.drew
                  refine wp_region_held_drew (S := (fun w' => w'.cell? ⟨G7, 1, none⟩ = some (.slice (some ⟨g, 0, none⟩) nX c) ∧ w'.cell? ⟨G4, 1, none⟩ = some (.slice (some ⟨b, o, none⟩) nU c3) ∧ w'.cell? ⟨b, o + j * 36 + 33, none⟩ = some (.slice Aq nq cq) ∧ w'.cell? ⟨b, o + j * 36 + 35, none⟩ = some (.slice Aw nw cw) ∧ w'.cell? ⟨b, o + j * 36 + 34, none⟩ = some (.int .u32 zq) ∧ w'.rangeAt b (o + j * 36) O)) (by kernel_rfl) ?_ (fun hHeld => ?_)
                  · exact HSB.out _ _ PA.out
                  refine wpAnyH_take (i := 0) (oi := { dst := some 78, op := Go.Op.fieldAddr 26 (Go.Operand.tmp 7) 1, type := 0, pos := "law.go:74", after := #[], guard := none }) (v := ?b2v0) rfl (by kernel_rfl) (by kernel_rfl) (by kernel_rfl) (fun _ _ _ h => h) (Or.inl ⟨by rfl, ?b2y0⟩) (by assumption) ?b2r0
                  case b2y0 => (intro w hSw; (try dsimp only at hSw); go_simp; try (with_reducible rfl))
                  case b2r0 =>
                  try simp only [Act.put, List.setIfInBounds_toArray, List.set_cons_zero, List.set_cons_succ]
                  refine wpAnyH_take (i := 1) (oi := { dst := some 79, op := Go.Op.load 22 (Go.Operand.tmp 78), type := 22, pos := "law.go:74", after := #[{ on := 0, ground := Go.Ground.data }], guard := none }) (v := (.slice (some ⟨g, 0, none⟩) nX c)) rfl (by kernel_rfl) (by kernel_rfl) (by kernel_rfl) (fun _ _ _ h => h) (Or.inl ⟨by rfl, ?b2y1⟩) (by assumption) ?b2r1
                  case b2y1 => (intro w hSw; (try dsimp only at hSw); go_simp; try (simp [hSw.1]))
                  case b2r1 =>
                  try simp only [Act.put, List.setIfInBounds_toArray, List.set_cons_zero, List.set_cons_succ]
                  refine wpAnyH_take (i := 2) (oi := { dst := some 80, op := Go.Op.move (Go.Operand.tmp 9), type := 3, pos := "law.go:74", after := #[], guard := none }) (v := ?b2v2) rfl (by kernel_rfl) (by kernel_rfl) (by kernel_rfl) (fun _ _ _ h => h) (Or.inl ⟨by rfl, ?b2y2⟩) (by assumption) ?b2r2
                  case b2y2 => (intro w hSw; (try dsimp only at hSw); go_simp; try (with_reducible rfl))
                  case b2r2 =>
                  try simp only [Act.put, List.setIfInBounds_toArray, List.set_cons_zero, List.set_cons_succ]
                  refine wpAnyH_take (i := 3) (oi := { dst := some 81, op := Go.Op.fieldAddr 26 (Go.Operand.tmp 4) 1, type := 0, pos := "law.go:74", after := #[], guard := none }) (v := ?b2v3) rfl (by kernel_rfl) (by kernel_rfl) (by kernel_rfl) (fun _ _ _ h => h) (Or.inl ⟨by rfl, ?b2y3⟩) (by assumption) ?b2r3
                  case b2y3 => (intro w hSw; (try dsimp only at hSw); go_simp; try (with_reducible rfl))
                  case b2r3 =>
                  try simp only [Act.put, List.setIfInBounds_toArray, List.set_cons_zero, List.set_cons_succ]
                  refine wpAnyH_take (i := 4) (oi := { dst := some 82, op := Go.Op.load 22 (Go.Operand.tmp 81), type := 22, pos := "law.go:74", after := #[{ on := 3, ground := Go.Ground.data }], guard := none }) (v := (.slice (some ⟨b, o, none⟩) nU c3)) rfl (by kernel_rfl) (by kernel_rfl) (by kernel_rfl) (fun _ _ _ h => h) (Or.inl ⟨by rfl, ?b2y4⟩) (by assumption) ?b2r4
                  case b2y4 => (intro w hSw; (try dsimp only at hSw); go_simp; try (simp [hSw.2.1]))
                  case b2r4 =>
                  try simp only [Act.put, List.setIfInBounds_toArray, List.set_cons_zero, List.set_cons_succ]
                  refine wpAnyH_take (i := 5) (oi := { dst := some 83, op := Go.Op.move (Go.Operand.tmp 9), type := 3, pos := "law.go:74", after := #[], guard := none }) (v := ?b2v5) rfl (by kernel_rfl) (by kernel_rfl) (by kernel_rfl) (fun _ _ _ h => h) (Or.inl ⟨by rfl, ?b2y5⟩) (by assumption) ?b2r5
                  case b2y5 => (intro w hSw; (try dsimp only at hSw); go_simp; try (with_reducible rfl))
                  case b2r5 =>
                  try simp only [Act.put, List.setIfInBounds_toArray, List.set_cons_zero, List.set_cons_succ]
                  refine wpAnyH_take (i := 6) (oi := { dst := some 84, op := Go.Op.indexAddr 22 (Go.Operand.tmp 82) (Go.Operand.tmp 83), type := 0, pos := "law.go:74", after := #[{ on := 4, ground := Go.Ground.data }, { on := 5, ground := Go.Ground.data }], guard := none }) (v := ?b2v6) rfl (by kernel_rfl) (by kernel_rfl) (by kernel_rfl) (fun _ _ _ h => h) (Or.inl ⟨by rfl, ?b2y6⟩) (by assumption) ?b2r6
                  case b2y6 => (intro w hSw; (try dsimp only at hSw); go_simp; try (with_reducible rfl))
                  case b2r6 =>
                  try simp only [Act.put, List.setIfInBounds_toArray, List.set_cons_zero, List.set_cons_succ]
                  refine wpAnyH_take (i := 7) (oi := { dst := some 85, op := Go.Op.fieldAddr 49 (Go.Operand.tmp 84) 2, type := 0, pos := "law.go:74", after := #[{ on := 6, ground := Go.Ground.data }], guard := none }) (v := ?b2v7) rfl (by kernel_rfl) (by kernel_rfl) (by kernel_rfl) (fun _ _ _ h => h) (Or.inl ⟨by rfl, ?b2y7⟩) (by assumption) ?b2r7
                  case b2y7 => (intro w hSw; (try dsimp only at hSw); go_simp; try (with_reducible rfl))
                  case b2r7 =>
                  try simp only [Act.put, List.setIfInBounds_toArray, List.set_cons_zero, List.set_cons_succ]
                  refine wpAnyH_take (i := 8) (oi := { dst := some 86, op := Go.Op.load 24 (Go.Operand.tmp 85), type := 24, pos := "law.go:74", after := #[{ on := 7, ground := Go.Ground.data }], guard := none }) (v := (.int .u32 zq)) rfl (by kernel_rfl) (by kernel_rfl) (by kernel_rfl) (fun _ _ _ h => h) (Or.inl ⟨by rfl, ?b2y8⟩) (by assumption) ?b2r8
                  case b2y8 => (intro w hSw; (try dsimp only at hSw); go_simp; try (simp [hSw.2.2.2.2.1]))
                  case b2r8 =>
                  try simp only [Act.put, List.setIfInBounds_toArray, List.set_cons_zero, List.set_cons_succ]
                  refine wpAnyH_take (i := 9) (oi := { dst := some 87, op := Go.Op.indexAddr 22 (Go.Operand.tmp 79) (Go.Operand.tmp 80), type := 0, pos := "law.go:74", after := #[{ on := 1, ground := Go.Ground.data }, { on := 2, ground := Go.Ground.data }, { on := 0, ground := Go.Ground.phase }, { on := 1, ground := Go.Ground.phase }, { on := 2, ground := Go.Ground.phase }, { on := 3, ground := Go.Ground.phase }, { on := 4, ground := Go.Ground.phase }, { on := 5, ground := Go.Ground.phase }, { on := 6, ground := Go.Ground.phase }, { on := 7, ground := Go.Ground.phase }, { on := 8, ground := Go.Ground.phase }], guard := none }) (v := ?b2v9) rfl (by kernel_rfl) (by kernel_rfl) (by kernel_rfl) (fun _ _ _ h => h) (Or.inl ⟨by rfl, ?b2y9⟩) (by assumption) ?b2r9
                  case b2y9 => (intro w hSw; (try dsimp only at hSw); go_simp; try (with_reducible rfl))
                  case b2r9 =>
                  try simp only [Act.put, List.setIfInBounds_toArray, List.set_cons_zero, List.set_cons_succ]
                  refine wpAnyH_take (i := 10) (oi := { dst := some 88, op := Go.Op.fieldAddr 49 (Go.Operand.tmp 87) 2, type := 0, pos := "law.go:74", after := #[{ on := 9, ground := Go.Ground.data }, { on := 0, ground := Go.Ground.phase }, { on := 1, ground := Go.Ground.phase }, { on := 2, ground := Go.Ground.phase }, { on := 3, ground := Go.Ground.phase }, { on := 4, ground := Go.Ground.phase }, { on := 5, ground := Go.Ground.phase }, { on := 6, ground := Go.Ground.phase }, { on := 7, ground := Go.Ground.phase }, { on := 8, ground := Go.Ground.phase }], guard := none }) (v := ?b2v10) rfl (by kernel_rfl) (by kernel_rfl) (by kernel_rfl) (fun _ _ _ h => h) (Or.inl ⟨by rfl, ?b2y10⟩) (by assumption) ?b2r10
                  case b2y10 => (intro w hSw; (try dsimp only at hSw); go_simp; try (with_reducible rfl))
                  case b2r10 =>
                  try simp only [Act.put, List.setIfInBounds_toArray, List.set_cons_zero, List.set_cons_succ]
                  refine wpAnyH_ready (rs := [11]) (by kernel_rfl) (by simp) ?_
                  refine AllReadyH.cons (o := { dst := none, op := Go.Op.store 24 (Go.Operand.tmp 88) (Go.Operand.tmp 86), type := 0, pos := "law.go:74", after := #[{ on := 10, ground := Go.Ground.data }, { on := 8, ground := Go.Ground.data }, { on := 0, ground := Go.Ground.phase }, { on := 1, ground := Go.Ground.phase }, { on := 2, ground := Go.Ground.phase }, { on := 3, ground := Go.Ground.phase }, { on := 4, ground := Go.Ground.phase }, { on := 5, ground := Go.Ground.phase }, { on := 6, ground := Go.Ground.phase }, { on := 7, ground := Go.Ground.phase }, { on := 8, ground := Go.Ground.phase }], guard := none }) rfl (fun K hK => ?_) (AllReadyH.nil)
                  obtain ⟨old, h1, h2⟩ := PA.out.can HLC.out hlt (show 34 < 36 by decide)
                  refine wp_store_one 24 (.tmp 88) (.tmp 86) rfl (b := g) (o := j * 36 + 34) (v := (.int .u32 zq)) rfl rfl rfl rfl size_u32 h1 h2 ?_
                  clear h1 h2
                  have hP3 := PA.out.putSq HLC.out HXC.out HQ.out
                  rw [HQZ.out] at hP3
                  have SSC := Lib.hid (SSC.out.sq HXC.out qv HNE.out HSQ.out)
                  obtain ⟨xc3, hxc3⟩ : ∃ z, z = xSq xc2 qv := ⟨_, rfl⟩
                  rw [← hxc3] at hP3 SSC
                  obtain ⟨XC3, hXC3⟩ : ∃ z, z = XC2.set j xc3 := ⟨_, rfl⟩
                  rw [← hXC3] at hP3 SSC
                  have HXC := Lib.hid (show XC3[j]? = some xc3 by rw [hXC3, List.getElem?_set_self (by rw [HLC.out]; exact hlt)])
                  have HLC := Lib.hid (show XC3.length = nX by rw [hXC3, List.length_set]; exact HLC.out)
                  have PA := Lib.hid hP3
                  clear hP3 hxc3 hXC3
                  refine hK.out _ _ ?_ (fun hHeld => ?_)
                  · exact HSB.out _ _ PA.out
                  clear hK K
                  try simp only [Act.put]
                  refine wpAnyH_done (by kernel_rfl) ?_ _
                  obtain ⟨wB, hwB⟩ : ∃ z, z = wA.drew.setCell ⟨g, j * 36 + 34, none⟩ (.int .u32 zq) := ⟨_, rfl⟩
                  rw [← hwB] at PA ⊢
                  clear hwB
                  have cw0 := (HW5.out _ _ PA.out).1
                  have cw1 := (HW5.out _ _ PA.out).2
                  by_cases hal : 128 ≤ k
                  · as_aux_lemma =>
                    have da : decide (128 ≤ k) = true := decide_eq_true hal
                    have HAL := Lib.hid (show aloneF k = true from da)
                    have HSQ := Lib.hid (show aloneF k = true ∨ chosenF k ≠ 1 from .inl da)
                    clear hal
                    go_upto_region 16 with fail
                    clear cw0 cw1
                    have PA := Lib.hid PA.out.drew
                    refine wp_region_held_drew (S := (fun w' => w'.cell? ⟨G7, 1, none⟩ = some (.slice (some ⟨g, 0, none⟩) nX c) ∧ w'.cell? ⟨G4, 1, none⟩ = some (.slice (some ⟨b, o, none⟩) nU c3) ∧ w'.cell? ⟨b, o + j * 36 + 33, none⟩ = some (.slice Aq nq cq) ∧ w'.cell? ⟨b, o + j * 36 + 35, none⟩ = some (.slice Aw nw cw) ∧ w'.cell? ⟨b, o + j * 36 + 34, none⟩ = some (.int .u32 zq) ∧ w'.rangeAt b (o + j * 36) O)) (by kernel_rfl) ?_ (fun hHeld => ?_)
                    · exact HSB.out _ _ PA.out
                    refine wpAnyH_take (i := 0) (oi := { dst := some 98, op := Go.Op.fieldAddr 26 (Go.Operand.tmp 7) 1, type := 0, pos := "law.go:77", after := #[], guard := none }) (v := ?c2v0) rfl (by kernel_rfl) (by kernel_rfl) (by kernel_rfl) (fun _ _ _ h => h) (Or.inl ⟨by rfl, ?c2y0⟩) (by assumption) ?c2r0
                    case c2y0 => (intro w hSw; (try dsimp only at hSw); go_simp; try (with_reducible rfl))
                    case c2r0 =>
                    try simp only [Act.put, List.setIfInBounds_toArray, List.set_cons_zero, List.set_cons_succ]
                    refine wpAnyH_take (i := 1) (oi := { dst := some 99, op := Go.Op.load 22 (Go.Operand.tmp 98), type := 22, pos := "law.go:77", after := #[{ on := 0, ground := Go.Ground.data }], guard := none }) (v := (.slice (some ⟨g, 0, none⟩) nX c)) rfl (by kernel_rfl) (by kernel_rfl) (by kernel_rfl) (fun _ _ _ h => h) (Or.inl ⟨by rfl, ?c2y1⟩) (by assumption) ?c2r1
                    case c2y1 => (intro w hSw; (try dsimp only at hSw); go_simp; try (simp [hSw.1]))
                    case c2r1 =>
                    try simp only [Act.put, List.setIfInBounds_toArray, List.set_cons_zero, List.set_cons_succ]
                    refine wpAnyH_take (i := 2) (oi := { dst := some 100, op := Go.Op.move (Go.Operand.tmp 9), type := 3, pos := "law.go:77", after := #[], guard := none }) (v := ?c2v2) rfl (by kernel_rfl) (by kernel_rfl) (by kernel_rfl) (fun _ _ _ h => h) (Or.inl ⟨by rfl, ?c2y2⟩) (by assumption) ?c2r2
                    case c2y2 => (intro w hSw; (try dsimp only at hSw); go_simp; try (with_reducible rfl))
                    case c2r2 =>
                    try simp only [Act.put, List.setIfInBounds_toArray, List.set_cons_zero, List.set_cons_succ]
                    refine wpAnyH_take (i := 3) (oi := { dst := some 101, op := Go.Op.fieldAddr 26 (Go.Operand.tmp 7) 1, type := 0, pos := "law.go:77", after := #[{ on := 20, ground := Go.Ground.gcOnly Go.Departure.lateStores }], guard := none }) (v := ?c2v3) rfl (by kernel_rfl) (by kernel_rfl) (by kernel_rfl) (fun _ _ _ h => h) (Or.inl ⟨by rfl, ?c2y3⟩) (by assumption) ?c2r3
                    case c2y3 => (intro w hSw; (try dsimp only at hSw); go_simp; try (with_reducible rfl))
                    case c2r3 =>
                    try simp only [Act.put, List.setIfInBounds_toArray, List.set_cons_zero, List.set_cons_succ]
                    refine wpAnyH_take (i := 4) (oi := { dst := some 102, op := Go.Op.load 22 (Go.Operand.tmp 101), type := 22, pos := "law.go:77", after := #[{ on := 3, ground := Go.Ground.data }, { on := 20, ground := Go.Ground.gcOnly Go.Departure.lateStores }], guard := none }) (v := (.slice (some ⟨g, 0, none⟩) nX c)) rfl (by kernel_rfl) (by kernel_rfl) (by kernel_rfl) (fun _ _ _ h => h) (Or.inl ⟨by rfl, ?c2y4⟩) (by assumption) ?c2r4
                    case c2y4 => (intro w hSw; (try dsimp only at hSw); go_simp; try (simp [hSw.1]))
                    case c2r4 =>
                    try simp only [Act.put, List.setIfInBounds_toArray, List.set_cons_zero, List.set_cons_succ]
                    refine wpAnyH_take (i := 5) (oi := { dst := some 103, op := Go.Op.move (Go.Operand.tmp 9), type := 3, pos := "law.go:77", after := #[{ on := 20, ground := Go.Ground.gcOnly Go.Departure.lateStores }], guard := none }) (v := ?c2v5) rfl (by kernel_rfl) (by kernel_rfl) (by kernel_rfl) (fun _ _ _ h => h) (Or.inl ⟨by rfl, ?c2y5⟩) (by assumption) ?c2r5
                    case c2y5 => (intro w hSw; (try dsimp only at hSw); go_simp; try (with_reducible rfl))
                    case c2r5 =>
                    try simp only [Act.put, List.setIfInBounds_toArray, List.set_cons_zero, List.set_cons_succ]
                    refine wpAnyH_take (i := 6) (oi := { dst := some 104, op := Go.Op.fieldAddr 26 (Go.Operand.tmp 4) 1, type := 0, pos := "law.go:77", after := #[], guard := none }) (v := ?c2v6) rfl (by kernel_rfl) (by kernel_rfl) (by kernel_rfl) (fun _ _ _ h => h) (Or.inl ⟨by rfl, ?c2y6⟩) (by assumption) ?c2r6
                    case c2y6 => (intro w hSw; (try dsimp only at hSw); go_simp; try (with_reducible rfl))
                    case c2r6 =>
                    try simp only [Act.put, List.setIfInBounds_toArray, List.set_cons_zero, List.set_cons_succ]
                    refine wpAnyH_take (i := 7) (oi := { dst := some 105, op := Go.Op.load 22 (Go.Operand.tmp 104), type := 22, pos := "law.go:77", after := #[{ on := 6, ground := Go.Ground.data }], guard := none }) (v := (.slice (some ⟨b, o, none⟩) nU c3)) rfl (by kernel_rfl) (by kernel_rfl) (by kernel_rfl) (fun _ _ _ h => h) (Or.inl ⟨by rfl, ?c2y7⟩) (by assumption) ?c2r7
                    case c2y7 => (intro w hSw; (try dsimp only at hSw); go_simp; try (simp [hSw.2.1]))
                    case c2r7 =>
                    try simp only [Act.put, List.setIfInBounds_toArray, List.set_cons_zero, List.set_cons_succ]
                    refine wpAnyH_take (i := 8) (oi := { dst := some 106, op := Go.Op.move (Go.Operand.tmp 9), type := 3, pos := "law.go:77", after := #[], guard := none }) (v := ?c2v8) rfl (by kernel_rfl) (by kernel_rfl) (by kernel_rfl) (fun _ _ _ h => h) (Or.inl ⟨by rfl, ?c2y8⟩) (by assumption) ?c2r8
                    case c2y8 => (intro w hSw; (try dsimp only at hSw); go_simp; try (with_reducible rfl))
                    case c2r8 =>
                    try simp only [Act.put, List.setIfInBounds_toArray, List.set_cons_zero, List.set_cons_succ]
                    refine wpAnyH_take (i := 9) (oi := { dst := some 107, op := Go.Op.indexAddr 22 (Go.Operand.tmp 105) (Go.Operand.tmp 106), type := 0, pos := "law.go:77", after := #[{ on := 7, ground := Go.Ground.data }, { on := 8, ground := Go.Ground.data }], guard := none }) (v := ?c2v9) rfl (by kernel_rfl) (by kernel_rfl) (by kernel_rfl) (fun _ _ _ h => h) (Or.inl ⟨by rfl, ?c2y9⟩) (by assumption) ?c2r9
                    case c2y9 => (intro w hSw; (try dsimp only at hSw); go_simp; try (with_reducible rfl))
                    case c2r9 =>
                    try simp only [Act.put, List.setIfInBounds_toArray, List.set_cons_zero, List.set_cons_succ]
                    refine wpAnyH_take (i := 10) (oi := { dst := some 108, op := Go.Op.fieldAddr 49 (Go.Operand.tmp 107) 0, type := 0, pos := "law.go:77", after := #[{ on := 9, ground := Go.Ground.data }], guard := none }) (v := ?c2v10) rfl (by kernel_rfl) (by kernel_rfl) (by kernel_rfl) (fun _ _ _ h => h) (Or.inl ⟨by rfl, ?c2y10⟩) (by assumption) ?c2r10
                    case c2y10 => (intro w hSw; (try dsimp only at hSw); go_simp; try (with_reducible rfl))
                    case c2r10 =>
                    try simp only [Act.put, List.setIfInBounds_toArray, List.set_cons_zero, List.set_cons_succ]
                    refine wpAnyH_take (i := 11) (oi := { dst := some 109, op := Go.Op.load 46 (Go.Operand.tmp 108), type := 46, pos := "law.go:77", after := #[{ on := 10, ground := Go.Ground.data }], guard := none }) (v := (.agg O.toArray)) rfl (by kernel_rfl) (by kernel_rfl) (by kernel_rfl) (fun _ _ _ h => h) (yieldsIf_load_mid (by rfl) 46 (.tmp 108) rfl b (o + j * 36) rfl O _ (fun w' h => h.2.2.2.2.2) Tryd.underlying46 rfl HOS.out) (by assumption) ?_
                    try simp only [Act.put, List.setIfInBounds_toArray, List.set_cons_zero, List.set_cons_succ]
                    refine wpAnyH_take (i := 12) (oi := { dst := some 110, op := Go.Op.fieldAddr 26 (Go.Operand.tmp 4) 1, type := 0, pos := "law.go:77", after := #[], guard := none }) (v := ?c2v12) rfl (by kernel_rfl) (by kernel_rfl) (by kernel_rfl) (fun _ _ _ h => h) (Or.inl ⟨by rfl, ?c2y12⟩) (by assumption) ?c2r12
                    case c2y12 => (intro w hSw; (try dsimp only at hSw); go_simp; try (with_reducible rfl))
                    case c2r12 =>
                    try simp only [Act.put, List.setIfInBounds_toArray, List.set_cons_zero, List.set_cons_succ]
                    refine wpAnyH_take (i := 13) (oi := { dst := some 111, op := Go.Op.load 22 (Go.Operand.tmp 110), type := 22, pos := "law.go:77", after := #[{ on := 12, ground := Go.Ground.data }], guard := none }) (v := (.slice (some ⟨b, o, none⟩) nU c3)) rfl (by kernel_rfl) (by kernel_rfl) (by kernel_rfl) (fun _ _ _ h => h) (Or.inl ⟨by rfl, ?c2y13⟩) (by assumption) ?c2r13
                    case c2y13 => (intro w hSw; (try dsimp only at hSw); go_simp; try (simp [hSw.2.1]))
                    case c2r13 =>
                    try simp only [Act.put, List.setIfInBounds_toArray, List.set_cons_zero, List.set_cons_succ]
                    refine wpAnyH_take (i := 14) (oi := { dst := some 112, op := Go.Op.move (Go.Operand.tmp 9), type := 3, pos := "law.go:77", after := #[], guard := none }) (v := ?c2v14) rfl (by kernel_rfl) (by kernel_rfl) (by kernel_rfl) (fun _ _ _ h => h) (Or.inl ⟨by rfl, ?c2y14⟩) (by assumption) ?c2r14
                    case c2y14 => (intro w hSw; (try dsimp only at hSw); go_simp; try (with_reducible rfl))
                    case c2r14 =>
                    try simp only [Act.put, List.setIfInBounds_toArray, List.set_cons_zero, List.set_cons_succ]
                    refine wpAnyH_take (i := 15) (oi := { dst := some 113, op := Go.Op.indexAddr 22 (Go.Operand.tmp 111) (Go.Operand.tmp 112), type := 0, pos := "law.go:77", after := #[{ on := 13, ground := Go.Ground.data }, { on := 14, ground := Go.Ground.data }], guard := none }) (v := ?c2v15) rfl (by kernel_rfl) (by kernel_rfl) (by kernel_rfl) (fun _ _ _ h => h) (Or.inl ⟨by rfl, ?c2y15⟩) (by assumption) ?c2r15
                    case c2y15 => (intro w hSw; (try dsimp only at hSw); go_simp; try (with_reducible rfl))
                    case c2r15 =>
                    try simp only [Act.put, List.setIfInBounds_toArray, List.set_cons_zero, List.set_cons_succ]
                    refine wpAnyH_take (i := 16) (oi := { dst := some 114, op := Go.Op.fieldAddr 49 (Go.Operand.tmp 113) 2, type := 0, pos := "law.go:77", after := #[{ on := 15, ground := Go.Ground.data }], guard := none }) (v := ?c2v16) rfl (by kernel_rfl) (by kernel_rfl) (by kernel_rfl) (fun _ _ _ h => h) (Or.inl ⟨by rfl, ?c2y16⟩) (by assumption) ?c2r16
                    case c2y16 => (intro w hSw; (try dsimp only at hSw); go_simp; try (with_reducible rfl))
                    case c2r16 =>
                    try simp only [Act.put, List.setIfInBounds_toArray, List.set_cons_zero, List.set_cons_succ]
                    refine wpAnyH_take (i := 17) (oi := { dst := some 115, op := Go.Op.load 24 (Go.Operand.tmp 114), type := 24, pos := "law.go:77", after := #[{ on := 16, ground := Go.Ground.data }], guard := none }) (v := (.int .u32 zq)) rfl (by kernel_rfl) (by kernel_rfl) (by kernel_rfl) (fun _ _ _ h => h) (Or.inl ⟨by rfl, ?c2y17⟩) (by assumption) ?c2r17
                    case c2y17 => (intro w hSw; (try dsimp only at hSw); go_simp; try (simp [hSw.2.2.2.2.1]))
                    case c2r17 =>
                    try simp only [Act.put, List.setIfInBounds_toArray, List.set_cons_zero, List.set_cons_succ]
                    refine wpAnyH_take (i := 18) (oi := { dst := some 116, op := Go.Op.indexAddr 22 (Go.Operand.tmp 99) (Go.Operand.tmp 100), type := 0, pos := "law.go:77", after := #[{ on := 1, ground := Go.Ground.data }, { on := 2, ground := Go.Ground.data }, { on := 0, ground := Go.Ground.phase }, { on := 1, ground := Go.Ground.phase }, { on := 2, ground := Go.Ground.phase }, { on := 3, ground := Go.Ground.textOnly Go.Departure.lateStores }, { on := 4, ground := Go.Ground.textOnly Go.Departure.lateStores }, { on := 5, ground := Go.Ground.textOnly Go.Departure.lateStores }, { on := 6, ground := Go.Ground.phase }, { on := 7, ground := Go.Ground.phase }, { on := 8, ground := Go.Ground.phase }, { on := 9, ground := Go.Ground.phase }, { on := 10, ground := Go.Ground.phase }, { on := 11, ground := Go.Ground.phase }, { on := 12, ground := Go.Ground.textOnly Go.Departure.lateStores }, { on := 13, ground := Go.Ground.textOnly Go.Departure.lateStores }, { on := 14, ground := Go.Ground.textOnly Go.Departure.lateStores }, { on := 15, ground := Go.Ground.textOnly Go.Departure.lateStoresUnsure }, { on := 16, ground := Go.Ground.textOnly Go.Departure.lateStoresUnsure }, { on := 17, ground := Go.Ground.phase }], guard := none }) (v := ?c2v18) rfl (by kernel_rfl) (by kernel_rfl) (by kernel_rfl) (fun _ _ _ h => h) (Or.inl ⟨by rfl, ?c2y18⟩) (by assumption) ?c2r18
                    case c2y18 => (intro w hSw; (try dsimp only at hSw); go_simp; try (with_reducible rfl))
                    case c2r18 =>
                    try simp only [Act.put, List.setIfInBounds_toArray, List.set_cons_zero, List.set_cons_succ]
                    refine wpAnyH_take (i := 19) (oi := { dst := some 117, op := Go.Op.fieldAddr 49 (Go.Operand.tmp 116) 0, type := 0, pos := "law.go:77", after := #[{ on := 18, ground := Go.Ground.data }, { on := 0, ground := Go.Ground.phase }, { on := 1, ground := Go.Ground.phase }, { on := 2, ground := Go.Ground.phase }, { on := 3, ground := Go.Ground.textOnly Go.Departure.lateStores }, { on := 4, ground := Go.Ground.textOnly Go.Departure.lateStores }, { on := 5, ground := Go.Ground.textOnly Go.Departure.lateStores }, { on := 6, ground := Go.Ground.phase }, { on := 7, ground := Go.Ground.phase }, { on := 8, ground := Go.Ground.phase }, { on := 9, ground := Go.Ground.phase }, { on := 10, ground := Go.Ground.phase }, { on := 11, ground := Go.Ground.phase }, { on := 12, ground := Go.Ground.textOnly Go.Departure.lateStores }, { on := 13, ground := Go.Ground.textOnly Go.Departure.lateStores }, { on := 14, ground := Go.Ground.textOnly Go.Departure.lateStores }, { on := 15, ground := Go.Ground.textOnly Go.Departure.lateStoresUnsure }, { on := 16, ground := Go.Ground.textOnly Go.Departure.lateStoresUnsure }, { on := 17, ground := Go.Ground.phase }], guard := none }) (v := ?c2v19) rfl (by kernel_rfl) (by kernel_rfl) (by kernel_rfl) (fun _ _ _ h => h) (Or.inl ⟨by rfl, ?c2y19⟩) (by assumption) ?c2r19
                    case c2y19 => (intro w hSw; (try dsimp only at hSw); go_simp; try (with_reducible rfl))
                    case c2r19 =>
                    try simp only [Act.put, List.setIfInBounds_toArray, List.set_cons_zero, List.set_cons_succ]
                    refine wpAnyH_ready (rs := [20]) (by kernel_rfl) (by simp) ?_
                    refine AllReadyH.cons (o := { dst := none, op := Go.Op.store 46 (Go.Operand.tmp 117) (Go.Operand.tmp 109), type := 0, pos := "law.go:77", after := #[{ on := 19, ground := Go.Ground.data }, { on := 11, ground := Go.Ground.data }, { on := 0, ground := Go.Ground.phase }, { on := 1, ground := Go.Ground.phase }, { on := 2, ground := Go.Ground.phase }, { on := 3, ground := Go.Ground.textOnly Go.Departure.lateStores }, { on := 4, ground := Go.Ground.textOnly Go.Departure.lateStores }, { on := 5, ground := Go.Ground.textOnly Go.Departure.lateStores }, { on := 6, ground := Go.Ground.phase }, { on := 7, ground := Go.Ground.phase }, { on := 8, ground := Go.Ground.phase }, { on := 9, ground := Go.Ground.phase }, { on := 10, ground := Go.Ground.phase }, { on := 11, ground := Go.Ground.phase }, { on := 12, ground := Go.Ground.textOnly Go.Departure.lateStores }, { on := 13, ground := Go.Ground.textOnly Go.Departure.lateStores }, { on := 14, ground := Go.Ground.textOnly Go.Departure.lateStores }, { on := 15, ground := Go.Ground.textOnly Go.Departure.lateStoresUnsure }, { on := 16, ground := Go.Ground.textOnly Go.Departure.lateStoresUnsure }, { on := 17, ground := Go.Ground.phase }], guard := none }) rfl (fun K hK => ?_) (AllReadyH.nil)
                    refine wp_store_mid 46 (.tmp 117) (.tmp 109) rfl g (j * 36) O.toArray rfl rfl (by rw [List.size_toArray, HOL.out]; exact PA.out.there HLC.out hlt (by decide)) (by rw [List.size_toArray]; exact HOS.out) HO1.out ?_
                    change K _ (World.setCells _ g (j * 36) O)
                    have hP4 := PA.out.putPr HLC.out HXC.out HQ.out
                    rw [← HOE.out] at hP4
                    have SSC := Lib.hid (SSC.out.pr HXC.out qv HNE.out HAL.out)
                    obtain ⟨xc4, hxc4⟩ : ∃ z, z = xPr xc3 qv := ⟨_, rfl⟩
                    rw [← hxc4] at hP4 SSC
                    obtain ⟨XC4, hXC4⟩ : ∃ z, z = XC3.set j xc4 := ⟨_, rfl⟩
                    rw [← hXC4] at hP4 SSC
                    have HXC := Lib.hid (show XC4[j]? = some xc4 by rw [hXC4, List.getElem?_set_self (by rw [HLC.out]; exact hlt)])
                    have HLC := Lib.hid (show XC4.length = nX by rw [hXC4, List.length_set]; exact HLC.out)
                    have PA := Lib.hid hP4
                    clear hP4 hxc4 hXC4
                    refine hK.out _ _ ?_ (fun hHeld => ?_)
                    · exact HSB.out _ _ PA.out
                    clear hK K
                    try simp only [Act.put]
                    refine wpAnyH_take (i := 21) (oi := { dst := some 118, op := Go.Op.indexAddr 22 (Go.Operand.tmp 102) (Go.Operand.tmp 103), type := 0, pos := "law.go:77", after := #[{ on := 4, ground := Go.Ground.data }, { on := 5, ground := Go.Ground.data }, { on := 0, ground := Go.Ground.phase }, { on := 1, ground := Go.Ground.phase }, { on := 2, ground := Go.Ground.phase }, { on := 3, ground := Go.Ground.phase }, { on := 4, ground := Go.Ground.phase }, { on := 5, ground := Go.Ground.phase }, { on := 6, ground := Go.Ground.phase }, { on := 7, ground := Go.Ground.phase }, { on := 8, ground := Go.Ground.phase }, { on := 9, ground := Go.Ground.phase }, { on := 10, ground := Go.Ground.phase }, { on := 11, ground := Go.Ground.phase }, { on := 12, ground := Go.Ground.phase }, { on := 13, ground := Go.Ground.phase }, { on := 14, ground := Go.Ground.phase }, { on := 15, ground := Go.Ground.phase }, { on := 16, ground := Go.Ground.phase }, { on := 17, ground := Go.Ground.phase }, { on := 18, ground := Go.Ground.phase }, { on := 19, ground := Go.Ground.phase }, { on := 20, ground := Go.Ground.phase }], guard := none }) (v := ?c2_20v21) rfl (by kernel_rfl) (by kernel_rfl) (by kernel_rfl) (fun _ _ _ h => h) (Or.inl ⟨by rfl, ?c2_20y21⟩) (by assumption) ?c2_20r21
                    case c2_20y21 => (intro w hSw; (try dsimp only at hSw); go_simp; try (with_reducible rfl))
                    case c2_20r21 =>
                    try simp only [Act.put, List.setIfInBounds_toArray, List.set_cons_zero, List.set_cons_succ]
                    refine wpAnyH_take (i := 22) (oi := { dst := some 119, op := Go.Op.fieldAddr 49 (Go.Operand.tmp 118) 2, type := 0, pos := "law.go:77", after := #[{ on := 21, ground := Go.Ground.data }, { on := 0, ground := Go.Ground.phase }, { on := 1, ground := Go.Ground.phase }, { on := 2, ground := Go.Ground.phase }, { on := 3, ground := Go.Ground.phase }, { on := 4, ground := Go.Ground.phase }, { on := 5, ground := Go.Ground.phase }, { on := 6, ground := Go.Ground.phase }, { on := 7, ground := Go.Ground.phase }, { on := 8, ground := Go.Ground.phase }, { on := 9, ground := Go.Ground.phase }, { on := 10, ground := Go.Ground.phase }, { on := 11, ground := Go.Ground.phase }, { on := 12, ground := Go.Ground.phase }, { on := 13, ground := Go.Ground.phase }, { on := 14, ground := Go.Ground.phase }, { on := 15, ground := Go.Ground.phase }, { on := 16, ground := Go.Ground.phase }, { on := 17, ground := Go.Ground.phase }, { on := 18, ground := Go.Ground.phase }, { on := 19, ground := Go.Ground.phase }, { on := 20, ground := Go.Ground.phase }], guard := none }) (v := ?c2_20v22) rfl (by kernel_rfl) (by kernel_rfl) (by kernel_rfl) (fun _ _ _ h => h) (Or.inl ⟨by rfl, ?c2_20y22⟩) (by assumption) ?c2_20r22
                    case c2_20y22 => (intro w hSw; (try dsimp only at hSw); go_simp; try (with_reducible rfl))
                    case c2_20r22 =>
                    try simp only [Act.put, List.setIfInBounds_toArray, List.set_cons_zero, List.set_cons_succ]
                    refine wpAnyH_ready (rs := [23]) (by kernel_rfl) (by simp) ?_
                    refine AllReadyH.cons (o := { dst := none, op := Go.Op.store 24 (Go.Operand.tmp 119) (Go.Operand.tmp 115), type := 0, pos := "law.go:77", after := #[{ on := 22, ground := Go.Ground.data }, { on := 17, ground := Go.Ground.data }, { on := 20, ground := Go.Ground.chain }, { on := 0, ground := Go.Ground.phase }, { on := 1, ground := Go.Ground.phase }, { on := 2, ground := Go.Ground.phase }, { on := 3, ground := Go.Ground.phase }, { on := 4, ground := Go.Ground.phase }, { on := 5, ground := Go.Ground.phase }, { on := 6, ground := Go.Ground.phase }, { on := 7, ground := Go.Ground.phase }, { on := 8, ground := Go.Ground.phase }, { on := 9, ground := Go.Ground.phase }, { on := 10, ground := Go.Ground.phase }, { on := 11, ground := Go.Ground.phase }, { on := 12, ground := Go.Ground.phase }, { on := 13, ground := Go.Ground.phase }, { on := 14, ground := Go.Ground.phase }, { on := 15, ground := Go.Ground.phase }, { on := 16, ground := Go.Ground.phase }, { on := 17, ground := Go.Ground.phase }, { on := 18, ground := Go.Ground.phase }, { on := 19, ground := Go.Ground.phase }, { on := 20, ground := Go.Ground.phase }], guard := none }) rfl (fun K hK => ?_) (AllReadyH.nil)
                    obtain ⟨old, h1, h2⟩ := PA.out.can HLC.out hlt (show 34 < 36 by decide)
                    refine wp_store_one 24 (.tmp 119) (.tmp 115) rfl (b := g) (o := j * 36 + 34) (v := (.int .u32 zq)) rfl rfl rfl rfl size_u32 h1 h2 ?_
                    clear h1 h2
                    have hP5 := PA.out.putSq HLC.out HXC.out HQ.out
                    rw [HQZ.out] at hP5
                    have SSC := Lib.hid (SSC.out.sq HXC.out qv HNE.out HSQ.out)
                    obtain ⟨xc5, hxc5⟩ : ∃ z, z = xSq xc4 qv := ⟨_, rfl⟩
                    rw [← hxc5] at hP5 SSC
                    obtain ⟨XC5, hXC5⟩ : ∃ z, z = XC4.set j xc5 := ⟨_, rfl⟩
                    rw [← hXC5] at hP5 SSC
                    have HXC := Lib.hid (show XC5[j]? = some xc5 by rw [hXC5, List.getElem?_set_self (by rw [HLC.out]; exact hlt)])
                    have HLC := Lib.hid (show XC5.length = nX by rw [hXC5, List.length_set]; exact HLC.out)
                    have PA := Lib.hid hP5
                    clear hP5 hxc5 hXC5
                    refine hK.out _ _ ?_ (fun hHeld => ?_)
                    · exact HSB.out _ _ PA.out
                    clear hK K
                    try simp only [Act.put]
                    refine wpAnyH_done (by kernel_rfl) ?_ _
                    obtain ⟨wC, hwC⟩ : ∃ z, z = (wB.drew.setCells g (j * 36) O).setCell ⟨g, j * 36 + 34, none⟩ (.int .u32 zq) := ⟨_, rfl⟩
                    rw [← hwC] at PA ⊢
                    clear hwC
                    go_wp2_with fail
                    exact ⟨⟨j + 1, XC5, _, rfl, hlt, by first | rfl | (rw [wrap_small2 (by omega) (by omega)]; rfl), PA, HLC, SSC⟩, meas_n hlt⟩
                  · as_aux_lemma =>
                    have da : decide (128 ≤ k) = false := decide_eq_false hal
                    go_wp2_with fail
                    exact ⟨⟨j + 1, XC3, _, rfl, hlt, by first | rfl | (rw [wrap_small2 (by omega) (by omega)]; rfl), PA, HLC, SSC⟩, meas_n hlt⟩
                · as_aux_lemma =>
                  have HSQ := Lib.hid (show aloneF k = true ∨ chosenF k ≠ 1 from .inr hc)
                  clear hc
                  go_upto_region 14 with fail
                  clear cw0 cw1
                  have PA := Lib.hid PA.out.drew
                  refine wp_region_held_drew (S := (fun w' => w'.cell? ⟨G7, 1, none⟩ = some (.slice (some ⟨g, 0, none⟩) nX c) ∧ w'.cell? ⟨G4, 1, none⟩ = some (.slice (some ⟨b, o, none⟩) nU c3) ∧ w'.cell? ⟨b, o + j * 36 + 33, none⟩ = some (.slice Aq nq cq) ∧ w'.cell? ⟨b, o + j * 36 + 35, none⟩ = some (.slice Aw nw cw) ∧ w'.cell? ⟨b, o + j * 36 + 34, none⟩ = some (.int .u32 zq) ∧ w'.rangeAt b (o + j * 36) O)) (by kernel_rfl) ?_ (fun hHeld => ?_)
                  · exact HSB.out _ _ PA.out
                  refine wpAnyH_take (i := 0) (oi := { dst := some 78, op := Go.Op.fieldAddr 26 (Go.Operand.tmp 7) 1, type := 0, pos := "law.go:74", after := #[], guard := none }) (v := ?b3v0) rfl (by kernel_rfl) (by kernel_rfl) (by kernel_rfl) (fun _ _ _ h => h) (Or.inl ⟨by rfl, ?b3y0⟩) (by assumption) ?b3r0
                  case b3y0 => (intro w hSw; (try dsimp only at hSw); go_simp; try (with_reducible rfl))
                  case b3r0 =>
                  try simp only [Act.put, List.setIfInBounds_toArray, List.set_cons_zero, List.set_cons_succ]
                  refine wpAnyH_take (i := 1) (oi := { dst := some 79, op := Go.Op.load 22 (Go.Operand.tmp 78), type := 22, pos := "law.go:74", after := #[{ on := 0, ground := Go.Ground.data }], guard := none }) (v := (.slice (some ⟨g, 0, none⟩) nX c)) rfl (by kernel_rfl) (by kernel_rfl) (by kernel_rfl) (fun _ _ _ h => h) (Or.inl ⟨by rfl, ?b3y1⟩) (by assumption) ?b3r1
                  case b3y1 => (intro w hSw; (try dsimp only at hSw); go_simp; try (simp [hSw.1]))
                  case b3r1 =>
                  try simp only [Act.put, List.setIfInBounds_toArray, List.set_cons_zero, List.set_cons_succ]
                  refine wpAnyH_take (i := 2) (oi := { dst := some 80, op := Go.Op.move (Go.Operand.tmp 9), type := 3, pos := "law.go:74", after := #[], guard := none }) (v := ?b3v2) rfl (by kernel_rfl) (by kernel_rfl) (by kernel_rfl) (fun _ _ _ h => h) (Or.inl ⟨by rfl, ?b3y2⟩) (by assumption) ?b3r2
                  case b3y2 => (intro w hSw; (try dsimp only at hSw); go_simp; try (with_reducible rfl))
                  case b3r2 =>
                  try simp only [Act.put, List.setIfInBounds_toArray, List.set_cons_zero, List.set_cons_succ]
                  refine wpAnyH_take (i := 3) (oi := { dst := some 81, op := Go.Op.fieldAddr 26 (Go.Operand.tmp 4) 1, type := 0, pos := "law.go:74", after := #[], guard := none }) (v := ?b3v3) rfl (by kernel_rfl) (by kernel_rfl) (by kernel_rfl) (fun _ _ _ h => h) (Or.inl ⟨by rfl, ?b3y3⟩) (by assumption) ?b3r3
                  case b3y3 => (intro w hSw; (try dsimp only at hSw); go_simp; try (with_reducible rfl))
                  case b3r3 =>
                  try simp only [Act.put, List.setIfInBounds_toArray, List.set_cons_zero, List.set_cons_succ]
                  refine wpAnyH_take (i := 4) (oi := { dst := some 82, op := Go.Op.load 22 (Go.Operand.tmp 81), type := 22, pos := "law.go:74", after := #[{ on := 3, ground := Go.Ground.data }], guard := none }) (v := (.slice (some ⟨b, o, none⟩) nU c3)) rfl (by kernel_rfl) (by kernel_rfl) (by kernel_rfl) (fun _ _ _ h => h) (Or.inl ⟨by rfl, ?b3y4⟩) (by assumption) ?b3r4
                  case b3y4 => (intro w hSw; (try dsimp only at hSw); go_simp; try (simp [hSw.2.1]))
                  case b3r4 =>
                  try simp only [Act.put, List.setIfInBounds_toArray, List.set_cons_zero, List.set_cons_succ]
                  refine wpAnyH_take (i := 5) (oi := { dst := some 83, op := Go.Op.move (Go.Operand.tmp 9), type := 3, pos := "law.go:74", after := #[], guard := none }) (v := ?b3v5) rfl (by kernel_rfl) (by kernel_rfl) (by kernel_rfl) (fun _ _ _ h => h) (Or.inl ⟨by rfl, ?b3y5⟩) (by assumption) ?b3r5
                  case b3y5 => (intro w hSw; (try dsimp only at hSw); go_simp; try (with_reducible rfl))
                  case b3r5 =>
                  try simp only [Act.put, List.setIfInBounds_toArray, List.set_cons_zero, List.set_cons_succ]
                  refine wpAnyH_take (i := 6) (oi := { dst := some 84, op := Go.Op.indexAddr 22 (Go.Operand.tmp 82) (Go.Operand.tmp 83), type := 0, pos := "law.go:74", after := #[{ on := 4, ground := Go.Ground.data }, { on := 5, ground := Go.Ground.data }], guard := none }) (v := ?b3v6) rfl (by kernel_rfl) (by kernel_rfl) (by kernel_rfl) (fun _ _ _ h => h) (Or.inl ⟨by rfl, ?b3y6⟩) (by assumption) ?b3r6
                  case b3y6 => (intro w hSw; (try dsimp only at hSw); go_simp; try (with_reducible rfl))
                  case b3r6 =>
                  try simp only [Act.put, List.setIfInBounds_toArray, List.set_cons_zero, List.set_cons_succ]
                  refine wpAnyH_take (i := 7) (oi := { dst := some 85, op := Go.Op.fieldAddr 49 (Go.Operand.tmp 84) 2, type := 0, pos := "law.go:74", after := #[{ on := 6, ground := Go.Ground.data }], guard := none }) (v := ?b3v7) rfl (by kernel_rfl) (by kernel_rfl) (by kernel_rfl) (fun _ _ _ h => h) (Or.inl ⟨by rfl, ?b3y7⟩) (by assumption) ?b3r7
                  case b3y7 => (intro w hSw; (try dsimp only at hSw); go_simp; try (with_reducible rfl))
                  case b3r7 =>
                  try simp only [Act.put, List.setIfInBounds_toArray, List.set_cons_zero, List.set_cons_succ]
                  refine wpAnyH_take (i := 8) (oi := { dst := some 86, op := Go.Op.load 24 (Go.Operand.tmp 85), type := 24, pos := "law.go:74", after := #[{ on := 7, ground := Go.Ground.data }], guard := none }) (v := (.int .u32 zq)) rfl (by kernel_rfl) (by kernel_rfl) (by kernel_rfl) (fun _ _ _ h => h) (Or.inl ⟨by rfl, ?b3y8⟩) (by assumption) ?b3r8
                  case b3y8 => (intro w hSw; (try dsimp only at hSw); go_simp; try (simp [hSw.2.2.2.2.1]))
                  case b3r8 =>
                  try simp only [Act.put, List.setIfInBounds_toArray, List.set_cons_zero, List.set_cons_succ]
                  refine wpAnyH_take (i := 9) (oi := { dst := some 87, op := Go.Op.indexAddr 22 (Go.Operand.tmp 79) (Go.Operand.tmp 80), type := 0, pos := "law.go:74", after := #[{ on := 1, ground := Go.Ground.data }, { on := 2, ground := Go.Ground.data }, { on := 0, ground := Go.Ground.phase }, { on := 1, ground := Go.Ground.phase }, { on := 2, ground := Go.Ground.phase }, { on := 3, ground := Go.Ground.phase }, { on := 4, ground := Go.Ground.phase }, { on := 5, ground := Go.Ground.phase }, { on := 6, ground := Go.Ground.phase }, { on := 7, ground := Go.Ground.phase }, { on := 8, ground := Go.Ground.phase }], guard := none }) (v := ?b3v9) rfl (by kernel_rfl) (by kernel_rfl) (by kernel_rfl) (fun _ _ _ h => h) (Or.inl ⟨by rfl, ?b3y9⟩) (by assumption) ?b3r9
                  case b3y9 => (intro w hSw; (try dsimp only at hSw); go_simp; try (with_reducible rfl))
                  case b3r9 =>
                  try simp only [Act.put, List.setIfInBounds_toArray, List.set_cons_zero, List.set_cons_succ]
                  refine wpAnyH_take (i := 10) (oi := { dst := some 88, op := Go.Op.fieldAddr 49 (Go.Operand.tmp 87) 2, type := 0, pos := "law.go:74", after := #[{ on := 9, ground := Go.Ground.data }, { on := 0, ground := Go.Ground.phase }, { on := 1, ground := Go.Ground.phase }, { on := 2, ground := Go.Ground.phase }, { on := 3, ground := Go.Ground.phase }, { on := 4, ground := Go.Ground.phase }, { on := 5, ground := Go.Ground.phase }, { on := 6, ground := Go.Ground.phase }, { on := 7, ground := Go.Ground.phase }, { on := 8, ground := Go.Ground.phase }], guard := none }) (v := ?b3v10) rfl (by kernel_rfl) (by kernel_rfl) (by kernel_rfl) (fun _ _ _ h => h) (Or.inl ⟨by rfl, ?b3y10⟩) (by assumption) ?b3r10
                  case b3y10 => (intro w hSw; (try dsimp only at hSw); go_simp; try (with_reducible rfl))
                  case b3r10 =>
                  try simp only [Act.put, List.setIfInBounds_toArray, List.set_cons_zero, List.set_cons_succ]
                  refine wpAnyH_ready (rs := [11]) (by kernel_rfl) (by simp) ?_
                  refine AllReadyH.cons (o := { dst := none, op := Go.Op.store 24 (Go.Operand.tmp 88) (Go.Operand.tmp 86), type := 0, pos := "law.go:74", after := #[{ on := 10, ground := Go.Ground.data }, { on := 8, ground := Go.Ground.data }, { on := 0, ground := Go.Ground.phase }, { on := 1, ground := Go.Ground.phase }, { on := 2, ground := Go.Ground.phase }, { on := 3, ground := Go.Ground.phase }, { on := 4, ground := Go.Ground.phase }, { on := 5, ground := Go.Ground.phase }, { on := 6, ground := Go.Ground.phase }, { on := 7, ground := Go.Ground.phase }, { on := 8, ground := Go.Ground.phase }], guard := none }) rfl (fun K hK => ?_) (AllReadyH.nil)
                  obtain ⟨old, h1, h2⟩ := PA.out.can HLC.out hlt (show 34 < 36 by decide)
                  refine wp_store_one 24 (.tmp 88) (.tmp 86) rfl (b := g) (o := j * 36 + 34) (v := (.int .u32 zq)) rfl rfl rfl rfl size_u32 h1 h2 ?_
                  clear h1 h2
                  have hP6 := PA.out.putSq HLC.out HXC.out HQ.out
                  rw [HQZ.out] at hP6
                  have SSC := Lib.hid (SSC.out.sq HXC.out qv HNE.out HSQ.out)
                  obtain ⟨xc6, hxc6⟩ : ∃ z, z = xSq xc2 qv := ⟨_, rfl⟩
                  rw [← hxc6] at hP6 SSC
                  obtain ⟨XC6, hXC6⟩ : ∃ z, z = XC2.set j xc6 := ⟨_, rfl⟩
                  rw [← hXC6] at hP6 SSC
                  have HXC := Lib.hid (show XC6[j]? = some xc6 by rw [hXC6, List.getElem?_set_self (by rw [HLC.out]; exact hlt)])
                  have HLC := Lib.hid (show XC6.length = nX by rw [hXC6, List.length_set]; exact HLC.out)
                  have PA := Lib.hid hP6
                  clear hP6 hxc6 hXC6
                  refine hK.out _ _ ?_ (fun hHeld => ?_)
                  · exact HSB.out _ _ PA.out
                  clear hK K
                  try simp only [Act.put]
                  refine wpAnyH_done (by kernel_rfl) ?_ _
                  obtain ⟨wB, hwB⟩ : ∃ z, z = wA.drew.setCell ⟨g, j * 36 + 34, none⟩ (.int .u32 zq) := ⟨_, rfl⟩
                  rw [← hwB] at PA ⊢
                  clear hwB
                  have cw0 := (HW5.out _ _ PA.out).1
                  have cw1 := (HW5.out _ _ PA.out).2
                  by_cases hal : 128 ≤ k
                  · as_aux_lemma =>
                    have da : decide (128 ≤ k) = true := decide_eq_true hal
                    have HAL := Lib.hid (show aloneF k = true from da)
                    have HSQ := Lib.hid (show aloneF k = true ∨ chosenF k ≠ 1 from .inl da)
                    clear hal
                    go_upto_region 16 with fail
                    clear cw0 cw1
                    have PA := Lib.hid PA.out.drew
                    refine wp_region_held_drew (S := (fun w' => w'.cell? ⟨G7, 1, none⟩ = some (.slice (some ⟨g, 0, none⟩) nX c) ∧ w'.cell? ⟨G4, 1, none⟩ = some (.slice (some ⟨b, o, none⟩) nU c3) ∧ w'.cell? ⟨b, o + j * 36 + 33, none⟩ = some (.slice Aq nq cq) ∧ w'.cell? ⟨b, o + j * 36 + 35, none⟩ = some (.slice Aw nw cw) ∧ w'.cell? ⟨b, o + j * 36 + 34, none⟩ = some (.int .u32 zq) ∧ w'.rangeAt b (o + j * 36) O)) (by kernel_rfl) ?_ (fun hHeld => ?_)
                    · exact HSB.out _ _ PA.out
                    refine wpAnyH_take (i := 0) (oi := { dst := some 98, op := Go.Op.fieldAddr 26 (Go.Operand.tmp 7) 1, type := 0, pos := "law.go:77", after := #[], guard := none }) (v := ?c3v0) rfl (by kernel_rfl) (by kernel_rfl) (by kernel_rfl) (fun _ _ _ h => h) (Or.inl ⟨by rfl, ?c3y0⟩) (by assumption) ?c3r0
                    case c3y0 => (intro w hSw; (try dsimp only at hSw); go_simp; try (with_reducible rfl))
                    case c3r0 =>
                    try simp only [Act.put, List.setIfInBounds_toArray, List.set_cons_zero, List.set_cons_succ]
                    refine wpAnyH_take (i := 1) (oi := { dst := some 99, op := Go.Op.load 22 (Go.Operand.tmp 98), type := 22, pos := "law.go:77", after := #[{ on := 0, ground := Go.Ground.data }], guard := none }) (v := (.slice (some ⟨g, 0, none⟩) nX c)) rfl (by kernel_rfl) (by kernel_rfl) (by kernel_rfl) (fun _ _ _ h => h) (Or.inl ⟨by rfl, ?c3y1⟩) (by assumption) ?c3r1
                    case c3y1 => (intro w hSw; (try dsimp only at hSw); go_simp; try (simp [hSw.1]))
                    case c3r1 =>
                    try simp only [Act.put, List.setIfInBounds_toArray, List.set_cons_zero, List.set_cons_succ]
                    refine wpAnyH_take (i := 2) (oi := { dst := some 100, op := Go.Op.move (Go.Operand.tmp 9), type := 3, pos := "law.go:77", after := #[], guard := none }) (v := ?c3v2) rfl (by kernel_rfl) (by kernel_rfl) (by kernel_rfl) (fun _ _ _ h => h) (Or.inl ⟨by rfl, ?c3y2⟩) (by assumption) ?c3r2
                    case c3y2 => (intro w hSw; (try dsimp only at hSw); go_simp; try (with_reducible rfl))
                    case c3r2 =>
                    try simp only [Act.put, List.setIfInBounds_toArray, List.set_cons_zero, List.set_cons_succ]
                    refine wpAnyH_take (i := 3) (oi := { dst := some 101, op := Go.Op.fieldAddr 26 (Go.Operand.tmp 7) 1, type := 0, pos := "law.go:77", after := #[{ on := 20, ground := Go.Ground.gcOnly Go.Departure.lateStores }], guard := none }) (v := ?c3v3) rfl (by kernel_rfl) (by kernel_rfl) (by kernel_rfl) (fun _ _ _ h => h) (Or.inl ⟨by rfl, ?c3y3⟩) (by assumption) ?c3r3
                    case c3y3 => (intro w hSw; (try dsimp only at hSw); go_simp; try (with_reducible rfl))
                    case c3r3 =>
                    try simp only [Act.put, List.setIfInBounds_toArray, List.set_cons_zero, List.set_cons_succ]
                    refine wpAnyH_take (i := 4) (oi := { dst := some 102, op := Go.Op.load 22 (Go.Operand.tmp 101), type := 22, pos := "law.go:77", after := #[{ on := 3, ground := Go.Ground.data }, { on := 20, ground := Go.Ground.gcOnly Go.Departure.lateStores }], guard := none }) (v := (.slice (some ⟨g, 0, none⟩) nX c)) rfl (by kernel_rfl) (by kernel_rfl) (by kernel_rfl) (fun _ _ _ h => h) (Or.inl ⟨by rfl, ?c3y4⟩) (by assumption) ?c3r4
                    case c3y4 => (intro w hSw; (try dsimp only at hSw); go_simp; try (simp [hSw.1]))
                    case c3r4 =>
                    try simp only [Act.put, List.setIfInBounds_toArray, List.set_cons_zero, List.set_cons_succ]
                    refine wpAnyH_take (i := 5) (oi := { dst := some 103, op := Go.Op.move (Go.Operand.tmp 9), type := 3, pos := "law.go:77", after := #[{ on := 20, ground := Go.Ground.gcOnly Go.Departure.lateStores }], guard := none }) (v := ?c3v5) rfl (by kernel_rfl) (by kernel_rfl) (by kernel_rfl) (fun _ _ _ h => h) (Or.inl ⟨by rfl, ?c3y5⟩) (by assumption) ?c3r5
                    case c3y5 => (intro w hSw; (try dsimp only at hSw); go_simp; try (with_reducible rfl))
                    case c3r5 =>
                    try simp only [Act.put, List.setIfInBounds_toArray, List.set_cons_zero, List.set_cons_succ]
                    refine wpAnyH_take (i := 6) (oi := { dst := some 104, op := Go.Op.fieldAddr 26 (Go.Operand.tmp 4) 1, type := 0, pos := "law.go:77", after := #[], guard := none }) (v := ?c3v6) rfl (by kernel_rfl) (by kernel_rfl) (by kernel_rfl) (fun _ _ _ h => h) (Or.inl ⟨by rfl, ?c3y6⟩) (by assumption) ?c3r6
                    case c3y6 => (intro w hSw; (try dsimp only at hSw); go_simp; try (with_reducible rfl))
                    case c3r6 =>
                    try simp only [Act.put, List.setIfInBounds_toArray, List.set_cons_zero, List.set_cons_succ]
                    refine wpAnyH_take (i := 7) (oi := { dst := some 105, op := Go.Op.load 22 (Go.Operand.tmp 104), type := 22, pos := "law.go:77", after := #[{ on := 6, ground := Go.Ground.data }], guard := none }) (v := (.slice (some ⟨b, o, none⟩) nU c3)) rfl (by kernel_rfl) (by kernel_rfl) (by kernel_rfl) (fun _ _ _ h => h) (Or.inl ⟨by rfl, ?c3y7⟩) (by assumption) ?c3r7
                    case c3y7 => (intro w hSw; (try dsimp only at hSw); go_simp; try (simp [hSw.2.1]))
                    case c3r7 =>
                    try simp only [Act.put, List.setIfInBounds_toArray, List.set_cons_zero, List.set_cons_succ]
                    refine wpAnyH_take (i := 8) (oi := { dst := some 106, op := Go.Op.move (Go.Operand.tmp 9), type := 3, pos := "law.go:77", after := #[], guard := none }) (v := ?c3v8) rfl (by kernel_rfl) (by kernel_rfl) (by kernel_rfl) (fun _ _ _ h => h) (Or.inl ⟨by rfl, ?c3y8⟩) (by assumption) ?c3r8
                    case c3y8 => (intro w hSw; (try dsimp only at hSw); go_simp; try (with_reducible rfl))
                    case c3r8 =>
                    try simp only [Act.put, List.setIfInBounds_toArray, List.set_cons_zero, List.set_cons_succ]
                    refine wpAnyH_take (i := 9) (oi := { dst := some 107, op := Go.Op.indexAddr 22 (Go.Operand.tmp 105) (Go.Operand.tmp 106), type := 0, pos := "law.go:77", after := #[{ on := 7, ground := Go.Ground.data }, { on := 8, ground := Go.Ground.data }], guard := none }) (v := ?c3v9) rfl (by kernel_rfl) (by kernel_rfl) (by kernel_rfl) (fun _ _ _ h => h) (Or.inl ⟨by rfl, ?c3y9⟩) (by assumption) ?c3r9
                    case c3y9 => (intro w hSw; (try dsimp only at hSw); go_simp; try (with_reducible rfl))
                    case c3r9 =>
                    try simp only [Act.put, List.setIfInBounds_toArray, List.set_cons_zero, List.set_cons_succ]
                    refine wpAnyH_take (i := 10) (oi := { dst := some 108, op := Go.Op.fieldAddr 49 (Go.Operand.tmp 107) 0, type := 0, pos := "law.go:77", after := #[{ on := 9, ground := Go.Ground.data }], guard := none }) (v := ?c3v10) rfl (by kernel_rfl) (by kernel_rfl) (by kernel_rfl) (fun _ _ _ h => h) (Or.inl ⟨by rfl, ?c3y10⟩) (by assumption) ?c3r10
                    case c3y10 => (intro w hSw; (try dsimp only at hSw); go_simp; try (with_reducible rfl))
                    case c3r10 =>
                    try simp only [Act.put, List.setIfInBounds_toArray, List.set_cons_zero, List.set_cons_succ]
                    refine wpAnyH_take (i := 11) (oi := { dst := some 109, op := Go.Op.load 46 (Go.Operand.tmp 108), type := 46, pos := "law.go:77", after := #[{ on := 10, ground := Go.Ground.data }], guard := none }) (v := (.agg O.toArray)) rfl (by kernel_rfl) (by kernel_rfl) (by kernel_rfl) (fun _ _ _ h => h) (yieldsIf_load_mid (by rfl) 46 (.tmp 108) rfl b (o + j * 36) rfl O _ (fun w' h => h.2.2.2.2.2) Tryd.underlying46 rfl HOS.out) (by assumption) ?_
                    try simp only [Act.put, List.setIfInBounds_toArray, List.set_cons_zero, List.set_cons_succ]
                    refine wpAnyH_take (i := 12) (oi := { dst := some 110, op := Go.Op.fieldAddr 26 (Go.Operand.tmp 4) 1, type := 0, pos := "law.go:77", after := #[], guard := none }) (v := ?c3v12) rfl (by kernel_rfl) (by kernel_rfl) (by kernel_rfl) (fun _ _ _ h => h) (Or.inl ⟨by rfl, ?c3y12⟩) (by assumption) ?c3r12
                    case c3y12 => (intro w hSw; (try dsimp only at hSw); go_simp; try (with_reducible rfl))
                    case c3r12 =>
                    try simp only [Act.put, List.setIfInBounds_toArray, List.set_cons_zero, List.set_cons_succ]
                    refine wpAnyH_take (i := 13) (oi := { dst := some 111, op := Go.Op.load 22 (Go.Operand.tmp 110), type := 22, pos := "law.go:77", after := #[{ on := 12, ground := Go.Ground.data }], guard := none }) (v := (.slice (some ⟨b, o, none⟩) nU c3)) rfl (by kernel_rfl) (by kernel_rfl) (by kernel_rfl) (fun _ _ _ h => h) (Or.inl ⟨by rfl, ?c3y13⟩) (by assumption) ?c3r13
                    case c3y13 => (intro w hSw; (try dsimp only at hSw); go_simp; try (simp [hSw.2.1]))
                    case c3r13 =>
                    try simp only [Act.put, List.setIfInBounds_toArray, List.set_cons_zero, List.set_cons_succ]
                    refine wpAnyH_take (i := 14) (oi := { dst := some 112, op := Go.Op.move (Go.Operand.tmp 9), type := 3, pos := "law.go:77", after := #[], guard := none }) (v := ?c3v14) rfl (by kernel_rfl) (by kernel_rfl) (by kernel_rfl) (fun _ _ _ h => h) (Or.inl ⟨by rfl, ?c3y14⟩) (by assumption) ?c3r14
                    case c3y14 => (intro w hSw; (try dsimp only at hSw); go_simp; try (with_reducible rfl))
                    case c3r14 =>
                    try simp only [Act.put, List.setIfInBounds_toArray, List.set_cons_zero, List.set_cons_succ]
                    refine wpAnyH_take (i := 15) (oi := { dst := some 113, op := Go.Op.indexAddr 22 (Go.Operand.tmp 111) (Go.Operand.tmp 112), type := 0, pos := "law.go:77", after := #[{ on := 13, ground := Go.Ground.data }, { on := 14, ground := Go.Ground.data }], guard := none }) (v := ?c3v15) rfl (by kernel_rfl) (by kernel_rfl) (by kernel_rfl) (fun _ _ _ h => h) (Or.inl ⟨by rfl, ?c3y15⟩) (by assumption) ?c3r15
                    case c3y15 => (intro w hSw; (try dsimp only at hSw); go_simp; try (with_reducible rfl))
                    case c3r15 =>
                    try simp only [Act.put, List.setIfInBounds_toArray, List.set_cons_zero, List.set_cons_succ]
                    refine wpAnyH_take (i := 16) (oi := { dst := some 114, op := Go.Op.fieldAddr 49 (Go.Operand.tmp 113) 2, type := 0, pos := "law.go:77", after := #[{ on := 15, ground := Go.Ground.data }], guard := none }) (v := ?c3v16) rfl (by kernel_rfl) (by kernel_rfl) (by kernel_rfl) (fun _ _ _ h => h) (Or.inl ⟨by rfl, ?c3y16⟩) (by assumption) ?c3r16
                    case c3y16 => (intro w hSw; (try dsimp only at hSw); go_simp; try (with_reducible rfl))
                    case c3r16 =>
                    try simp only [Act.put, List.setIfInBounds_toArray, List.set_cons_zero, List.set_cons_succ]
                    refine wpAnyH_take (i := 17) (oi := { dst := some 115, op := Go.Op.load 24 (Go.Operand.tmp 114), type := 24, pos := "law.go:77", after := #[{ on := 16, ground := Go.Ground.data }], guard := none }) (v := (.int .u32 zq)) rfl (by kernel_rfl) (by kernel_rfl) (by kernel_rfl) (fun _ _ _ h => h) (Or.inl ⟨by rfl, ?c3y17⟩) (by assumption) ?c3r17
                    case c3y17 => (intro w hSw; (try dsimp only at hSw); go_simp; try (simp [hSw.2.2.2.2.1]))
                    case c3r17 =>
                    try simp only [Act.put, List.setIfInBounds_toArray, List.set_cons_zero, List.set_cons_succ]
                    refine wpAnyH_take (i := 18) (oi := { dst := some 116, op := Go.Op.indexAddr 22 (Go.Operand.tmp 99) (Go.Operand.tmp 100), type := 0, pos := "law.go:77", after := #[{ on := 1, ground := Go.Ground.data }, { on := 2, ground := Go.Ground.data }, { on := 0, ground := Go.Ground.phase }, { on := 1, ground := Go.Ground.phase }, { on := 2, ground := Go.Ground.phase }, { on := 3, ground := Go.Ground.textOnly Go.Departure.lateStores }, { on := 4, ground := Go.Ground.textOnly Go.Departure.lateStores }, { on := 5, ground := Go.Ground.textOnly Go.Departure.lateStores }, { on := 6, ground := Go.Ground.phase }, { on := 7, ground := Go.Ground.phase }, { on := 8, ground := Go.Ground.phase }, { on := 9, ground := Go.Ground.phase }, { on := 10, ground := Go.Ground.phase }, { on := 11, ground := Go.Ground.phase }, { on := 12, ground := Go.Ground.textOnly Go.Departure.lateStores }, { on := 13, ground := Go.Ground.textOnly Go.Departure.lateStores }, { on := 14, ground := Go.Ground.textOnly Go.Departure.lateStores }, { on := 15, ground := Go.Ground.textOnly Go.Departure.lateStoresUnsure }, { on := 16, ground := Go.Ground.textOnly Go.Departure.lateStoresUnsure }, { on := 17, ground := Go.Ground.phase }], guard := none }) (v := ?c3v18) rfl (by kernel_rfl) (by kernel_rfl) (by kernel_rfl) (fun _ _ _ h => h) (Or.inl ⟨by rfl, ?c3y18⟩) (by assumption) ?c3r18
                    case c3y18 => (intro w hSw; (try dsimp only at hSw); go_simp; try (with_reducible rfl))
                    case c3r18 =>
                    try simp only [Act.put, List.setIfInBounds_toArray, List.set_cons_zero, List.set_cons_succ]
                    refine wpAnyH_take (i := 19) (oi := { dst := some 117, op := Go.Op.fieldAddr 49 (Go.Operand.tmp 116) 0, type := 0, pos := "law.go:77", after := #[{ on := 18, ground := Go.Ground.data }, { on := 0, ground := Go.Ground.phase }, { on := 1, ground := Go.Ground.phase }, { on := 2, ground := Go.Ground.phase }, { on := 3, ground := Go.Ground.textOnly Go.Departure.lateStores }, { on := 4, ground := Go.Ground.textOnly Go.Departure.lateStores }, { on := 5, ground := Go.Ground.textOnly Go.Departure.lateStores }, { on := 6, ground := Go.Ground.phase }, { on := 7, ground := Go.Ground.phase }, { on := 8, ground := Go.Ground.phase }, { on := 9, ground := Go.Ground.phase }, { on := 10, ground := Go.Ground.phase }, { on := 11, ground := Go.Ground.phase }, { on := 12, ground := Go.Ground.textOnly Go.Departure.lateStores }, { on := 13, ground := Go.Ground.textOnly Go.Departure.lateStores }, { on := 14, ground := Go.Ground.textOnly Go.Departure.lateStores }, { on := 15, ground := Go.Ground.textOnly Go.Departure.lateStoresUnsure }, { on := 16, ground := Go.Ground.textOnly Go.Departure.lateStoresUnsure }, { on := 17, ground := Go.Ground.phase }], guard := none }) (v := ?c3v19) rfl (by kernel_rfl) (by kernel_rfl) (by kernel_rfl) (fun _ _ _ h => h) (Or.inl ⟨by rfl, ?c3y19⟩) (by assumption) ?c3r19
                    case c3y19 => (intro w hSw; (try dsimp only at hSw); go_simp; try (with_reducible rfl))
                    case c3r19 =>
                    try simp only [Act.put, List.setIfInBounds_toArray, List.set_cons_zero, List.set_cons_succ]
                    refine wpAnyH_ready (rs := [20]) (by kernel_rfl) (by simp) ?_
                    refine AllReadyH.cons (o := { dst := none, op := Go.Op.store 46 (Go.Operand.tmp 117) (Go.Operand.tmp 109), type := 0, pos := "law.go:77", after := #[{ on := 19, ground := Go.Ground.data }, { on := 11, ground := Go.Ground.data }, { on := 0, ground := Go.Ground.phase }, { on := 1, ground := Go.Ground.phase }, { on := 2, ground := Go.Ground.phase }, { on := 3, ground := Go.Ground.textOnly Go.Departure.lateStores }, { on := 4, ground := Go.Ground.textOnly Go.Departure.lateStores }, { on := 5, ground := Go.Ground.textOnly Go.Departure.lateStores }, { on := 6, ground := Go.Ground.phase }, { on := 7, ground := Go.Ground.phase }, { on := 8, ground := Go.Ground.phase }, { on := 9, ground := Go.Ground.phase }, { on := 10, ground := Go.Ground.phase }, { on := 11, ground := Go.Ground.phase }, { on := 12, ground := Go.Ground.textOnly Go.Departure.lateStores }, { on := 13, ground := Go.Ground.textOnly Go.Departure.lateStores }, { on := 14, ground := Go.Ground.textOnly Go.Departure.lateStores }, { on := 15, ground := Go.Ground.textOnly Go.Departure.lateStoresUnsure }, { on := 16, ground := Go.Ground.textOnly Go.Departure.lateStoresUnsure }, { on := 17, ground := Go.Ground.phase }], guard := none }) rfl (fun K hK => ?_) (AllReadyH.nil)
                    refine wp_store_mid 46 (.tmp 117) (.tmp 109) rfl g (j * 36) O.toArray rfl rfl (by rw [List.size_toArray, HOL.out]; exact PA.out.there HLC.out hlt (by decide)) (by rw [List.size_toArray]; exact HOS.out) HO1.out ?_
                    change K _ (World.setCells _ g (j * 36) O)
                    have hP7 := PA.out.putPr HLC.out HXC.out HQ.out
                    rw [← HOE.out] at hP7
                    have SSC := Lib.hid (SSC.out.pr HXC.out qv HNE.out HAL.out)
                    obtain ⟨xc7, hxc7⟩ : ∃ z, z = xPr xc6 qv := ⟨_, rfl⟩
                    rw [← hxc7] at hP7 SSC
                    obtain ⟨XC7, hXC7⟩ : ∃ z, z = XC6.set j xc7 := ⟨_, rfl⟩
                    rw [← hXC7] at hP7 SSC
                    have HXC := Lib.hid (show XC7[j]? = some xc7 by rw [hXC7, List.getElem?_set_self (by rw [HLC.out]; exact hlt)])
                    have HLC := Lib.hid (show XC7.length = nX by rw [hXC7, List.length_set]; exact HLC.out)
                    have PA := Lib.hid hP7
                    clear hP7 hxc7 hXC7
                    refine hK.out _ _ ?_ (fun hHeld => ?_)
                    · exact HSB.out _ _ PA.out
                    clear hK K
                    try simp only [Act.put]
                    refine wpAnyH_take (i := 21) (oi := { dst := some 118, op := Go.Op.indexAddr 22 (Go.Operand.tmp 102) (Go.Operand.tmp 103), type := 0, pos := "law.go:77", after := #[{ on := 4, ground := Go.Ground.data }, { on := 5, ground := Go.Ground.data }, { on := 0, ground := Go.Ground.phase }, { on := 1, ground := Go.Ground.phase }, { on := 2, ground := Go.Ground.phase }, { on := 3, ground := Go.Ground.phase }, { on := 4, ground := Go.Ground.phase }, { on := 5, ground := Go.Ground.phase }, { on := 6, ground := Go.Ground.phase }, { on := 7, ground := Go.Ground.phase }, { on := 8, ground := Go.Ground.phase }, { on := 9, ground := Go.Ground.phase }, { on := 10, ground := Go.Ground.phase }, { on := 11, ground := Go.Ground.phase }, { on := 12, ground := Go.Ground.phase }, { on := 13, ground := Go.Ground.phase }, { on := 14, ground := Go.Ground.phase }, { on := 15, ground := Go.Ground.phase }, { on := 16, ground := Go.Ground.phase }, { on := 17, ground := Go.Ground.phase }, { on := 18, ground := Go.Ground.phase }, { on := 19, ground := Go.Ground.phase }, { on := 20, ground := Go.Ground.phase }], guard := none }) (v := ?c3_20v21) rfl (by kernel_rfl) (by kernel_rfl) (by kernel_rfl) (fun _ _ _ h => h) (Or.inl ⟨by rfl, ?c3_20y21⟩) (by assumption) ?c3_20r21
                    case c3_20y21 => (intro w hSw; (try dsimp only at hSw); go_simp; try (with_reducible rfl))
                    case c3_20r21 =>
                    try simp only [Act.put, List.setIfInBounds_toArray, List.set_cons_zero, List.set_cons_succ]
                    refine wpAnyH_take (i := 22) (oi := { dst := some 119, op := Go.Op.fieldAddr 49 (Go.Operand.tmp 118) 2, type := 0, pos := "law.go:77", after := #[{ on := 21, ground := Go.Ground.data }, { on := 0, ground := Go.Ground.phase }, { on := 1, ground := Go.Ground.phase }, { on := 2, ground := Go.Ground.phase }, { on := 3, ground := Go.Ground.phase }, { on := 4, ground := Go.Ground.phase }, { on := 5, ground := Go.Ground.phase }, { on := 6, ground := Go.Ground.phase }, { on := 7, ground := Go.Ground.phase }, { on := 8, ground := Go.Ground.phase }, { on := 9, ground := Go.Ground.phase }, { on := 10, ground := Go.Ground.phase }, { on := 11, ground := Go.Ground.phase }, { on := 12, ground := Go.Ground.phase }, { on := 13, ground := Go.Ground.phase }, { on := 14, ground := Go.Ground.phase }, { on := 15, ground := Go.Ground.phase }, { on := 16, ground := Go.Ground.phase }, { on := 17, ground := Go.Ground.phase }, { on := 18, ground := Go.Ground.phase }, { on := 19, ground := Go.Ground.phase }, { on := 20, ground := Go.Ground.phase }], guard := none }) (v := ?c3_20v22) rfl (by kernel_rfl) (by kernel_rfl) (by kernel_rfl) (fun _ _ _ h => h) (Or.inl ⟨by rfl, ?c3_20y22⟩) (by assumption) ?c3_20r22
                    case c3_20y22 => (intro w hSw; (try dsimp only at hSw); go_simp; try (with_reducible rfl))
                    case c3_20r22 =>
                    try simp only [Act.put, List.setIfInBounds_toArray, List.set_cons_zero, List.set_cons_succ]
                    refine wpAnyH_ready (rs := [23]) (by kernel_rfl) (by simp) ?_
                    refine AllReadyH.cons (o := { dst := none, op := Go.Op.store 24 (Go.Operand.tmp 119) (Go.Operand.tmp 115), type := 0, pos := "law.go:77", after := #[{ on := 22, ground := Go.Ground.data }, { on := 17, ground := Go.Ground.data }, { on := 20, ground := Go.Ground.chain }, { on := 0, ground := Go.Ground.phase }, { on := 1, ground := Go.Ground.phase }, { on := 2, ground := Go.Ground.phase }, { on := 3, ground := Go.Ground.phase }, { on := 4, ground := Go.Ground.phase }, { on := 5, ground := Go.Ground.phase }, { on := 6, ground := Go.Ground.phase }, { on := 7, ground := Go.Ground.phase }, { on := 8, ground := Go.Ground.phase }, { on := 9, ground := Go.Ground.phase }, { on := 10, ground := Go.Ground.phase }, { on := 11, ground := Go.Ground.phase }, { on := 12, ground := Go.Ground.phase }, { on := 13, ground := Go.Ground.phase }, { on := 14, ground := Go.Ground.phase }, { on := 15, ground := Go.Ground.phase }, { on := 16, ground := Go.Ground.phase }, { on := 17, ground := Go.Ground.phase }, { on := 18, ground := Go.Ground.phase }, { on := 19, ground := Go.Ground.phase }, { on := 20, ground := Go.Ground.phase }], guard := none }) rfl (fun K hK => ?_) (AllReadyH.nil)
                    obtain ⟨old, h1, h2⟩ := PA.out.can HLC.out hlt (show 34 < 36 by decide)
                    refine wp_store_one 24 (.tmp 119) (.tmp 115) rfl (b := g) (o := j * 36 + 34) (v := (.int .u32 zq)) rfl rfl rfl rfl size_u32 h1 h2 ?_
                    clear h1 h2
                    have hP8 := PA.out.putSq HLC.out HXC.out HQ.out
                    rw [HQZ.out] at hP8
                    have SSC := Lib.hid (SSC.out.sq HXC.out qv HNE.out HSQ.out)
                    obtain ⟨xc8, hxc8⟩ : ∃ z, z = xSq xc7 qv := ⟨_, rfl⟩
                    rw [← hxc8] at hP8 SSC
                    obtain ⟨XC8, hXC8⟩ : ∃ z, z = XC7.set j xc8 := ⟨_, rfl⟩
                    rw [← hXC8] at hP8 SSC
                    have HXC := Lib.hid (show XC8[j]? = some xc8 by rw [hXC8, List.getElem?_set_self (by rw [HLC.out]; exact hlt)])
                    have HLC := Lib.hid (show XC8.length = nX by rw [hXC8, List.length_set]; exact HLC.out)
                    have PA := Lib.hid hP8
                    clear hP8 hxc8 hXC8
                    refine hK.out _ _ ?_ (fun hHeld => ?_)
                    · exact HSB.out _ _ PA.out
                    clear hK K
                    try simp only [Act.put]
                    refine wpAnyH_done (by kernel_rfl) ?_ _
                    obtain ⟨wC, hwC⟩ : ∃ z, z = (wB.drew.setCells g (j * 36) O).setCell ⟨g, j * 36 + 34, none⟩ (.int .u32 zq) := ⟨_, rfl⟩
                    rw [← hwC] at PA ⊢
                    clear hwC
                    go_wp2_with fail
                    exact ⟨⟨j + 1, XC8, _, rfl, hlt, by first | rfl | (rw [wrap_small2 (by omega) (by omega)]; rfl), PA, HLC, SSC⟩, meas_n hlt⟩
                  · as_aux_lemma =>
                    have da : decide (128 ≤ k) = false := decide_eq_false hal
                    go_wp2_with fail
                    exact ⟨⟨j + 1, XC6, _, rfl, hlt, by first | rfl | (rw [wrap_small2 (by omega) (by omega)]; rfl), PA, HLC, SSC⟩, meas_n hlt⟩
                · as_aux_lemma =>
                  clear hc
                  by_cases hal : 128 ≤ k
                  · as_aux_lemma =>
                    have da : decide (128 ≤ k) = true := decide_eq_true hal
                    have HAL := Lib.hid (show aloneF k = true from da)
                    have HSQ := Lib.hid (show aloneF k = true ∨ chosenF k ≠ 1 from .inl da)
                    clear hal
                    go_upto_region 16 with fail
                    clear cw0 cw1
                    have PA := Lib.hid PA.out.drew
                    refine wp_region_held_drew (S := (fun w' => w'.cell? ⟨G7, 1, none⟩ = some (.slice (some ⟨g, 0, none⟩) nX c) ∧ w'.cell? ⟨G4, 1, none⟩ = some (.slice (some ⟨b, o, none⟩) nU c3) ∧ w'.cell? ⟨b, o + j * 36 + 33, none⟩ = some (.slice Aq nq cq) ∧ w'.cell? ⟨b, o + j * 36 + 35, none⟩ = some (.slice Aw nw cw) ∧ w'.cell? ⟨b, o + j * 36 + 34, none⟩ = some (.int .u32 zq) ∧ w'.rangeAt b (o + j * 36) O)) (by kernel_rfl) ?_ (fun hHeld => ?_)
                    · exact HSB.out _ _ PA.out
                    refine wpAnyH_take (i := 0) (oi := { dst := some 98, op := Go.Op.fieldAddr 26 (Go.Operand.tmp 7) 1, type := 0, pos := "law.go:77", after := #[], guard := none }) (v := ?c1v0) rfl (by kernel_rfl) (by kernel_rfl) (by kernel_rfl) (fun _ _ _ h => h) (Or.inl ⟨by rfl, ?c1y0⟩) (by assumption) ?c1r0
                    case c1y0 => (intro w hSw; (try dsimp only at hSw); go_simp; try (with_reducible rfl))
                    case c1r0 =>
                    try simp only [Act.put, List.setIfInBounds_toArray, List.set_cons_zero, List.set_cons_succ]
                    refine wpAnyH_take (i := 1) (oi := { dst := some 99, op := Go.Op.load 22 (Go.Operand.tmp 98), type := 22, pos := "law.go:77", after := #[{ on := 0, ground := Go.Ground.data }], guard := none }) (v := (.slice (some ⟨g, 0, none⟩) nX c)) rfl (by kernel_rfl) (by kernel_rfl) (by kernel_rfl) (fun _ _ _ h => h) (Or.inl ⟨by rfl, ?c1y1⟩) (by assumption) ?c1r1
                    case c1y1 => (intro w hSw; (try dsimp only at hSw); go_simp; try (simp [hSw.1]))
                    case c1r1 =>
                    try simp only [Act.put, List.setIfInBounds_toArray, List.set_cons_zero, List.set_cons_succ]
                    refine wpAnyH_take (i := 2) (oi := { dst := some 100, op := Go.Op.move (Go.Operand.tmp 9), type := 3, pos := "law.go:77", after := #[], guard := none }) (v := ?c1v2) rfl (by kernel_rfl) (by kernel_rfl) (by kernel_rfl) (fun _ _ _ h => h) (Or.inl ⟨by rfl, ?c1y2⟩) (by assumption) ?c1r2
                    case c1y2 => (intro w hSw; (try dsimp only at hSw); go_simp; try (with_reducible rfl))
                    case c1r2 =>
                    try simp only [Act.put, List.setIfInBounds_toArray, List.set_cons_zero, List.set_cons_succ]
                    refine wpAnyH_take (i := 3) (oi := { dst := some 101, op := Go.Op.fieldAddr 26 (Go.Operand.tmp 7) 1, type := 0, pos := "law.go:77", after := #[{ on := 20, ground := Go.Ground.gcOnly Go.Departure.lateStores }], guard := none }) (v := ?c1v3) rfl (by kernel_rfl) (by kernel_rfl) (by kernel_rfl) (fun _ _ _ h => h) (Or.inl ⟨by rfl, ?c1y3⟩) (by assumption) ?c1r3
                    case c1y3 => (intro w hSw; (try dsimp only at hSw); go_simp; try (with_reducible rfl))
                    case c1r3 =>
                    try simp only [Act.put, List.setIfInBounds_toArray, List.set_cons_zero, List.set_cons_succ]
                    refine wpAnyH_take (i := 4) (oi := { dst := some 102, op := Go.Op.load 22 (Go.Operand.tmp 101), type := 22, pos := "law.go:77", after := #[{ on := 3, ground := Go.Ground.data }, { on := 20, ground := Go.Ground.gcOnly Go.Departure.lateStores }], guard := none }) (v := (.slice (some ⟨g, 0, none⟩) nX c)) rfl (by kernel_rfl) (by kernel_rfl) (by kernel_rfl) (fun _ _ _ h => h) (Or.inl ⟨by rfl, ?c1y4⟩) (by assumption) ?c1r4
                    case c1y4 => (intro w hSw; (try dsimp only at hSw); go_simp; try (simp [hSw.1]))
                    case c1r4 =>
                    try simp only [Act.put, List.setIfInBounds_toArray, List.set_cons_zero, List.set_cons_succ]
                    refine wpAnyH_take (i := 5) (oi := { dst := some 103, op := Go.Op.move (Go.Operand.tmp 9), type := 3, pos := "law.go:77", after := #[{ on := 20, ground := Go.Ground.gcOnly Go.Departure.lateStores }], guard := none }) (v := ?c1v5) rfl (by kernel_rfl) (by kernel_rfl) (by kernel_rfl) (fun _ _ _ h => h) (Or.inl ⟨by rfl, ?c1y5⟩) (by assumption) ?c1r5
                    case c1y5 => (intro w hSw; (try dsimp only at hSw); go_simp; try (with_reducible rfl))
                    case c1r5 =>
                    try simp only [Act.put, List.setIfInBounds_toArray, List.set_cons_zero, List.set_cons_succ]
                    refine wpAnyH_take (i := 6) (oi := { dst := some 104, op := Go.Op.fieldAddr 26 (Go.Operand.tmp 4) 1, type := 0, pos := "law.go:77", after := #[], guard := none }) (v := ?c1v6) rfl (by kernel_rfl) (by kernel_rfl) (by kernel_rfl) (fun _ _ _ h => h) (Or.inl ⟨by rfl, ?c1y6⟩) (by assumption) ?c1r6
                    case c1y6 => (intro w hSw; (try dsimp only at hSw); go_simp; try (with_reducible rfl))
                    case c1r6 =>
                    try simp only [Act.put, List.setIfInBounds_toArray, List.set_cons_zero, List.set_cons_succ]
                    refine wpAnyH_take (i := 7) (oi := { dst := some 105, op := Go.Op.load 22 (Go.Operand.tmp 104), type := 22, pos := "law.go:77", after := #[{ on := 6, ground := Go.Ground.data }], guard := none }) (v := (.slice (some ⟨b, o, none⟩) nU c3)) rfl (by kernel_rfl) (by kernel_rfl) (by kernel_rfl) (fun _ _ _ h => h) (Or.inl ⟨by rfl, ?c1y7⟩) (by assumption) ?c1r7
                    case c1y7 => (intro w hSw; (try dsimp only at hSw); go_simp; try (simp [hSw.2.1]))
                    case c1r7 =>
                    try simp only [Act.put, List.setIfInBounds_toArray, List.set_cons_zero, List.set_cons_succ]
                    refine wpAnyH_take (i := 8) (oi := { dst := some 106, op := Go.Op.move (Go.Operand.tmp 9), type := 3, pos := "law.go:77", after := #[], guard := none }) (v := ?c1v8) rfl (by kernel_rfl) (by kernel_rfl) (by kernel_rfl) (fun _ _ _ h => h) (Or.inl ⟨by rfl, ?c1y8⟩) (by assumption) ?c1r8
                    case c1y8 => (intro w hSw; (try dsimp only at hSw); go_simp; try (with_reducible rfl))
                    case c1r8 =>
                    try simp only [Act.put, List.setIfInBounds_toArray, List.set_cons_zero, List.set_cons_succ]
                    refine wpAnyH_take (i := 9) (oi := { dst := some 107, op := Go.Op.indexAddr 22 (Go.Operand.tmp 105) (Go.Operand.tmp 106), type := 0, pos := "law.go:77", after := #[{ on := 7, ground := Go.Ground.data }, { on := 8, ground := Go.Ground.data }], guard := none }) (v := ?c1v9) rfl (by kernel_rfl) (by kernel_rfl) (by kernel_rfl) (fun _ _ _ h => h) (Or.inl ⟨by rfl, ?c1y9⟩) (by assumption) ?c1r9
                    case c1y9 => (intro w hSw; (try dsimp only at hSw); go_simp; try (with_reducible rfl))
                    case c1r9 =>
                    try simp only [Act.put, List.setIfInBounds_toArray, List.set_cons_zero, List.set_cons_succ]
                    refine wpAnyH_take (i := 10) (oi := { dst := some 108, op := Go.Op.fieldAddr 49 (Go.Operand.tmp 107) 0, type := 0, pos := "law.go:77", after := #[{ on := 9, ground := Go.Ground.data }], guard := none }) (v := ?c1v10) rfl (by kernel_rfl) (by kernel_rfl) (by kernel_rfl) (fun _ _ _ h => h) (Or.inl ⟨by rfl, ?c1y10⟩) (by assumption) ?c1r10
                    case c1y10 => (intro w hSw; (try dsimp only at hSw); go_simp; try (with_reducible rfl))
                    case c1r10 =>
                    try simp only [Act.put, List.setIfInBounds_toArray, List.set_cons_zero, List.set_cons_succ]
                    refine wpAnyH_take (i := 11) (oi := { dst := some 109, op := Go.Op.load 46 (Go.Operand.tmp 108), type := 46, pos := "law.go:77", after := #[{ on := 10, ground := Go.Ground.data }], guard := none }) (v := (.agg O.toArray)) rfl (by kernel_rfl) (by kernel_rfl) (by kernel_rfl) (fun _ _ _ h => h) (yieldsIf_load_mid (by rfl) 46 (.tmp 108) rfl b (o + j * 36) rfl O _ (fun w' h => h.2.2.2.2.2) Tryd.underlying46 rfl HOS.out) (by assumption) ?_
                    try simp only [Act.put, List.setIfInBounds_toArray, List.set_cons_zero, List.set_cons_succ]
                    refine wpAnyH_take (i := 12) (oi := { dst := some 110, op := Go.Op.fieldAddr 26 (Go.Operand.tmp 4) 1, type := 0, pos := "law.go:77", after := #[], guard := none }) (v := ?c1v12) rfl (by kernel_rfl) (by kernel_rfl) (by kernel_rfl) (fun _ _ _ h => h) (Or.inl ⟨by rfl, ?c1y12⟩) (by assumption) ?c1r12
                    case c1y12 => (intro w hSw; (try dsimp only at hSw); go_simp; try (with_reducible rfl))
                    case c1r12 =>
                    try simp only [Act.put, List.setIfInBounds_toArray, List.set_cons_zero, List.set_cons_succ]
                    refine wpAnyH_take (i := 13) (oi := { dst := some 111, op := Go.Op.load 22 (Go.Operand.tmp 110), type := 22, pos := "law.go:77", after := #[{ on := 12, ground := Go.Ground.data }], guard := none }) (v := (.slice (some ⟨b, o, none⟩) nU c3)) rfl (by kernel_rfl) (by kernel_rfl) (by kernel_rfl) (fun _ _ _ h => h) (Or.inl ⟨by rfl, ?c1y13⟩) (by assumption) ?c1r13
                    case c1y13 => (intro w hSw; (try dsimp only at hSw); go_simp; try (simp [hSw.2.1]))
                    case c1r13 =>
                    try simp only [Act.put, List.setIfInBounds_toArray, List.set_cons_zero, List.set_cons_succ]
                    refine wpAnyH_take (i := 14) (oi := { dst := some 112, op := Go.Op.move (Go.Operand.tmp 9), type := 3, pos := "law.go:77", after := #[], guard := none }) (v := ?c1v14) rfl (by kernel_rfl) (by kernel_rfl) (by kernel_rfl) (fun _ _ _ h => h) (Or.inl ⟨by rfl, ?c1y14⟩) (by assumption) ?c1r14
                    case c1y14 => (intro w hSw; (try dsimp only at hSw); go_simp; try (with_reducible rfl))
                    case c1r14 =>
                    try simp only [Act.put, List.setIfInBounds_toArray, List.set_cons_zero, List.set_cons_succ]
                    refine wpAnyH_take (i := 15) (oi := { dst := some 113, op := Go.Op.indexAddr 22 (Go.Operand.tmp 111) (Go.Operand.tmp 112), type := 0, pos := "law.go:77", after := #[{ on := 13, ground := Go.Ground.data }, { on := 14, ground := Go.Ground.data }], guard := none }) (v := ?c1v15) rfl (by kernel_rfl) (by kernel_rfl) (by kernel_rfl) (fun _ _ _ h => h) (Or.inl ⟨by rfl, ?c1y15⟩) (by assumption) ?c1r15
                    case c1y15 => (intro w hSw; (try dsimp only at hSw); go_simp; try (with_reducible rfl))
                    case c1r15 =>
                    try simp only [Act.put, List.setIfInBounds_toArray, List.set_cons_zero, List.set_cons_succ]
                    refine wpAnyH_take (i := 16) (oi := { dst := some 114, op := Go.Op.fieldAddr 49 (Go.Operand.tmp 113) 2, type := 0, pos := "law.go:77", after := #[{ on := 15, ground := Go.Ground.data }], guard := none }) (v := ?c1v16) rfl (by kernel_rfl) (by kernel_rfl) (by kernel_rfl) (fun _ _ _ h => h) (Or.inl ⟨by rfl, ?c1y16⟩) (by assumption) ?c1r16
                    case c1y16 => (intro w hSw; (try dsimp only at hSw); go_simp; try (with_reducible rfl))
                    case c1r16 =>
                    try simp only [Act.put, List.setIfInBounds_toArray, List.set_cons_zero, List.set_cons_succ]
                    refine wpAnyH_take (i := 17) (oi := { dst := some 115, op := Go.Op.load 24 (Go.Operand.tmp 114), type := 24, pos := "law.go:77", after := #[{ on := 16, ground := Go.Ground.data }], guard := none }) (v := (.int .u32 zq)) rfl (by kernel_rfl) (by kernel_rfl) (by kernel_rfl) (fun _ _ _ h => h) (Or.inl ⟨by rfl, ?c1y17⟩) (by assumption) ?c1r17
                    case c1y17 => (intro w hSw; (try dsimp only at hSw); go_simp; try (simp [hSw.2.2.2.2.1]))
                    case c1r17 =>
                    try simp only [Act.put, List.setIfInBounds_toArray, List.set_cons_zero, List.set_cons_succ]
                    refine wpAnyH_take (i := 18) (oi := { dst := some 116, op := Go.Op.indexAddr 22 (Go.Operand.tmp 99) (Go.Operand.tmp 100), type := 0, pos := "law.go:77", after := #[{ on := 1, ground := Go.Ground.data }, { on := 2, ground := Go.Ground.data }, { on := 0, ground := Go.Ground.phase }, { on := 1, ground := Go.Ground.phase }, { on := 2, ground := Go.Ground.phase }, { on := 3, ground := Go.Ground.textOnly Go.Departure.lateStores }, { on := 4, ground := Go.Ground.textOnly Go.Departure.lateStores }, { on := 5, ground := Go.Ground.textOnly Go.Departure.lateStores }, { on := 6, ground := Go.Ground.phase }, { on := 7, ground := Go.Ground.phase }, { on := 8, ground := Go.Ground.phase }, { on := 9, ground := Go.Ground.phase }, { on := 10, ground := Go.Ground.phase }, { on := 11, ground := Go.Ground.phase }, { on := 12, ground := Go.Ground.textOnly Go.Departure.lateStores }, { on := 13, ground := Go.Ground.textOnly Go.Departure.lateStores }, { on := 14, ground := Go.Ground.textOnly Go.Departure.lateStores }, { on := 15, ground := Go.Ground.textOnly Go.Departure.lateStoresUnsure }, { on := 16, ground := Go.Ground.textOnly Go.Departure.lateStoresUnsure }, { on := 17, ground := Go.Ground.phase }], guard := none }) (v := ?c1v18) rfl (by kernel_rfl) (by kernel_rfl) (by kernel_rfl) (fun _ _ _ h => h) (Or.inl ⟨by rfl, ?c1y18⟩) (by assumption) ?c1r18
                    case c1y18 => (intro w hSw; (try dsimp only at hSw); go_simp; try (with_reducible rfl))
                    case c1r18 =>
                    try simp only [Act.put, List.setIfInBounds_toArray, List.set_cons_zero, List.set_cons_succ]
                    refine wpAnyH_take (i := 19) (oi := { dst := some 117, op := Go.Op.fieldAddr 49 (Go.Operand.tmp 116) 0, type := 0, pos := "law.go:77", after := #[{ on := 18, ground := Go.Ground.data }, { on := 0, ground := Go.Ground.phase }, { on := 1, ground := Go.Ground.phase }, { on := 2, ground := Go.Ground.phase }, { on := 3, ground := Go.Ground.textOnly Go.Departure.lateStores }, { on := 4, ground := Go.Ground.textOnly Go.Departure.lateStores }, { on := 5, ground := Go.Ground.textOnly Go.Departure.lateStores }, { on := 6, ground := Go.Ground.phase }, { on := 7, ground := Go.Ground.phase }, { on := 8, ground := Go.Ground.phase }, { on := 9, ground := Go.Ground.phase }, { on := 10, ground := Go.Ground.phase }, { on := 11, ground := Go.Ground.phase }, { on := 12, ground := Go.Ground.textOnly Go.Departure.lateStores }, { on := 13, ground := Go.Ground.textOnly Go.Departure.lateStores }, { on := 14, ground := Go.Ground.textOnly Go.Departure.lateStores }, { on := 15, ground := Go.Ground.textOnly Go.Departure.lateStoresUnsure }, { on := 16, ground := Go.Ground.textOnly Go.Departure.lateStoresUnsure }, { on := 17, ground := Go.Ground.phase }], guard := none }) (v := ?c1v19) rfl (by kernel_rfl) (by kernel_rfl) (by kernel_rfl) (fun _ _ _ h => h) (Or.inl ⟨by rfl, ?c1y19⟩) (by assumption) ?c1r19
                    case c1y19 => (intro w hSw; (try dsimp only at hSw); go_simp; try (with_reducible rfl))
                    case c1r19 =>
                    try simp only [Act.put, List.setIfInBounds_toArray, List.set_cons_zero, List.set_cons_succ]
                    refine wpAnyH_ready (rs := [20]) (by kernel_rfl) (by simp) ?_
                    refine AllReadyH.cons (o := { dst := none, op := Go.Op.store 46 (Go.Operand.tmp 117) (Go.Operand.tmp 109), type := 0, pos := "law.go:77", after := #[{ on := 19, ground := Go.Ground.data }, { on := 11, ground := Go.Ground.data }, { on := 0, ground := Go.Ground.phase }, { on := 1, ground := Go.Ground.phase }, { on := 2, ground := Go.Ground.phase }, { on := 3, ground := Go.Ground.textOnly Go.Departure.lateStores }, { on := 4, ground := Go.Ground.textOnly Go.Departure.lateStores }, { on := 5, ground := Go.Ground.textOnly Go.Departure.lateStores }, { on := 6, ground := Go.Ground.phase }, { on := 7, ground := Go.Ground.phase }, { on := 8, ground := Go.Ground.phase }, { on := 9, ground := Go.Ground.phase }, { on := 10, ground := Go.Ground.phase }, { on := 11, ground := Go.Ground.phase }, { on := 12, ground := Go.Ground.textOnly Go.Departure.lateStores }, { on := 13, ground := Go.Ground.textOnly Go.Departure.lateStores }, { on := 14, ground := Go.Ground.textOnly Go.Departure.lateStores }, { on := 15, ground := Go.Ground.textOnly Go.Departure.lateStoresUnsure }, { on := 16, ground := Go.Ground.textOnly Go.Departure.lateStoresUnsure }, { on := 17, ground := Go.Ground.phase }], guard := none }) rfl (fun K hK => ?_) (AllReadyH.nil)
                    refine wp_store_mid 46 (.tmp 117) (.tmp 109) rfl g (j * 36) O.toArray rfl rfl (by rw [List.size_toArray, HOL.out]; exact PA.out.there HLC.out hlt (by decide)) (by rw [List.size_toArray]; exact HOS.out) HO1.out ?_
                    change K _ (World.setCells _ g (j * 36) O)
                    have hP9 := PA.out.putPr HLC.out HXC.out HQ.out
                    rw [← HOE.out] at hP9
                    have SSC := Lib.hid (SSC.out.pr HXC.out qv HNE.out HAL.out)
                    obtain ⟨xc9, hxc9⟩ : ∃ z, z = xPr xc2 qv := ⟨_, rfl⟩
                    rw [← hxc9] at hP9 SSC
                    obtain ⟨XC9, hXC9⟩ : ∃ z, z = XC2.set j xc9 := ⟨_, rfl⟩
                    rw [← hXC9] at hP9 SSC
                    have HXC := Lib.hid (show XC9[j]? = some xc9 by rw [hXC9, List.getElem?_set_self (by rw [HLC.out]; exact hlt)])
                    have HLC := Lib.hid (show XC9.length = nX by rw [hXC9, List.length_set]; exact HLC.out)
                    have PA := Lib.hid hP9
                    clear hP9 hxc9 hXC9
                    refine hK.out _ _ ?_ (fun hHeld => ?_)
                    · exact HSB.out _ _ PA.out
                    clear hK K
                    try simp only [Act.put]
                    refine wpAnyH_take (i := 21) (oi := { dst := some 118, op := Go.Op.indexAddr 22 (Go.Operand.tmp 102) (Go.Operand.tmp 103), type := 0, pos := "law.go:77", after := #[{ on := 4, ground := Go.Ground.data }, { on := 5, ground := Go.Ground.data }, { on := 0, ground := Go.Ground.phase }, { on := 1, ground := Go.Ground.phase }, { on := 2, ground := Go.Ground.phase }, { on := 3, ground := Go.Ground.phase }, { on := 4, ground := Go.Ground.phase }, { on := 5, ground := Go.Ground.phase }, { on := 6, ground := Go.Ground.phase }, { on := 7, ground := Go.Ground.phase }, { on := 8, ground := Go.Ground.phase }, { on := 9, ground := Go.Ground.phase }, { on := 10, ground := Go.Ground.phase }, { on := 11, ground := Go.Ground.phase }, { on := 12, ground := Go.Ground.phase }, { on := 13, ground := Go.Ground.phase }, { on := 14, ground := Go.Ground.phase }, { on := 15, ground := Go.Ground.phase }, { on := 16, ground := Go.Ground.phase }, { on := 17, ground := Go.Ground.phase }, { on := 18, ground := Go.Ground.phase }, { on := 19, ground := Go.Ground.phase }, { on := 20, ground := Go.Ground.phase }], guard := none }) (v := ?c1_20v21) rfl (by kernel_rfl) (by kernel_rfl) (by kernel_rfl) (fun _ _ _ h => h) (Or.inl ⟨by rfl, ?c1_20y21⟩) (by assumption) ?c1_20r21
                    case c1_20y21 => (intro w hSw; (try dsimp only at hSw); go_simp; try (with_reducible rfl))
                    case c1_20r21 =>
                    try simp only [Act.put, List.setIfInBounds_toArray, List.set_cons_zero, List.set_cons_succ]
                    refine wpAnyH_take (i := 22) (oi := { dst := some 119, op := Go.Op.fieldAddr 49 (Go.Operand.tmp 118) 2, type := 0, pos := "law.go:77", after := #[{ on := 21, ground := Go.Ground.data }, { on := 0, ground := Go.Ground.phase }, { on := 1, ground := Go.Ground.phase }, { on := 2, ground := Go.Ground.phase }, { on := 3, ground := Go.Ground.phase }, { on := 4, ground := Go.Ground.phase }, { on := 5, ground := Go.Ground.phase }, { on := 6, ground := Go.Ground.phase }, { on := 7, ground := Go.Ground.phase }, { on := 8, ground := Go.Ground.phase }, { on := 9, ground := Go.Ground.phase }, { on := 10, ground := Go.Ground.phase }, { on := 11, ground := Go.Ground.phase }, { on := 12, ground := Go.Ground.phase }, { on := 13, ground := Go.Ground.phase }, { on := 14, ground := Go.Ground.phase }, { on := 15, ground := Go.Ground.phase }, { on := 16, ground := Go.Ground.phase }, { on := 17, ground := Go.Ground.phase }, { on := 18, ground := Go.Ground.phase }, { on := 19, ground := Go.Ground.phase }, { on := 20, ground := Go.Ground.phase }], guard := none }) (v := ?c1_20v22) rfl (by kernel_rfl) (by kernel_rfl) (by kernel_rfl) (fun _ _ _ h => h) (Or.inl ⟨by rfl, ?c1_20y22⟩) (by assumption) ?c1_20r22
                    case c1_20y22 => (intro w hSw; (try dsimp only at hSw); go_simp; try (with_reducible rfl))
                    case c1_20r22 =>
                    try simp only [Act.put, List.setIfInBounds_toArray, List.set_cons_zero, List.set_cons_succ]
                    refine wpAnyH_ready (rs := [23]) (by kernel_rfl) (by simp) ?_
                    refine AllReadyH.cons (o := { dst := none, op := Go.Op.store 24 (Go.Operand.tmp 119) (Go.Operand.tmp 115), type := 0, pos := "law.go:77", after := #[{ on := 22, ground := Go.Ground.data }, { on := 17, ground := Go.Ground.data }, { on := 20, ground := Go.Ground.chain }, { on := 0, ground := Go.Ground.phase }, { on := 1, ground := Go.Ground.phase }, { on := 2, ground := Go.Ground.phase }, { on := 3, ground := Go.Ground.phase }, { on := 4, ground := Go.Ground.phase }, { on := 5, ground := Go.Ground.phase }, { on := 6, ground := Go.Ground.phase }, { on := 7, ground := Go.Ground.phase }, { on := 8, ground := Go.Ground.phase }, { on := 9, ground := Go.Ground.phase }, { on := 10, ground := Go.Ground.phase }, { on := 11, ground := Go.Ground.phase }, { on := 12, ground := Go.Ground.phase }, { on := 13, ground := Go.Ground.phase }, { on := 14, ground := Go.Ground.phase }, { on := 15, ground := Go.Ground.phase }, { on := 16, ground := Go.Ground.phase }, { on := 17, ground := Go.Ground.phase }, { on := 18, ground := Go.Ground.phase }, { on := 19, ground := Go.Ground.phase }, { on := 20, ground := Go.Ground.phase }], guard := none }) rfl (fun K hK => ?_) (AllReadyH.nil)
                    obtain ⟨old, h1, h2⟩ := PA.out.can HLC.out hlt (show 34 < 36 by decide)
                    refine wp_store_one 24 (.tmp 119) (.tmp 115) rfl (b := g) (o := j * 36 + 34) (v := (.int .u32 zq)) rfl rfl rfl rfl size_u32 h1 h2 ?_
                    clear h1 h2
                    have hP10 := PA.out.putSq HLC.out HXC.out HQ.out
                    rw [HQZ.out] at hP10
                    have SSC := Lib.hid (SSC.out.sq HXC.out qv HNE.out HSQ.out)
                    obtain ⟨xc10, hxc10⟩ : ∃ z, z = xSq xc9 qv := ⟨_, rfl⟩
                    rw [← hxc10] at hP10 SSC
                    obtain ⟨XC10, hXC10⟩ : ∃ z, z = XC9.set j xc10 := ⟨_, rfl⟩
                    rw [← hXC10] at hP10 SSC
                    have HXC := Lib.hid (show XC10[j]? = some xc10 by rw [hXC10, List.getElem?_set_self (by rw [HLC.out]; exact hlt)])
                    have HLC := Lib.hid (show XC10.length = nX by rw [hXC10, List.length_set]; exact HLC.out)
                    have PA := Lib.hid hP10
                    clear hP10 hxc10 hXC10
                    refine hK.out _ _ ?_ (fun hHeld => ?_)
                    · exact HSB.out _ _ PA.out
                    clear hK K
                    try simp only [Act.put]
                    refine wpAnyH_done (by kernel_rfl) ?_ _
                    obtain ⟨wC, hwC⟩ : ∃ z, z = (wA.drew.setCells g (j * 36) O).setCell ⟨g, j * 36 + 34, none⟩ (.int .u32 zq) := ⟨_, rfl⟩
                    rw [← hwC] at PA ⊢
                    clear hwC
                    go_wp2_with fail
                    exact ⟨⟨j + 1, XC10, _, rfl, hlt, by first | rfl | (rw [wrap_small2 (by omega) (by omega)]; rfl), PA, HLC, SSC⟩, meas_n hlt⟩
                  · as_aux_lemma =>
                    have da : decide (128 ≤ k) = false := decide_eq_false hal
                    go_wp2_with fail
                    exact ⟨⟨j + 1, XC2, _, rfl, hlt, by first | rfl | (rw [wrap_small2 (by omega) (by omega)]; rfl), PA, HLC, SSC⟩, meas_n hlt⟩
            · as_aux_lemma =>
              have dju : decide ((j : Int) < (nU : Int)) = false := decide_eq_false (by omega)
              go_wp2_with fail
              exact ⟨⟨j + 1, XC0, _, rfl, hlt, by first | rfl | (rw [wrap_small2 (by omega) (by omega)]; rfl), PA, HLC, SSC⟩, meas_n hlt⟩
          · have dj : decide ((j : Int) < (nX : Int)) = false := decide_eq_false (by omega)
            go_wp2_with fail
            go_meet
            exact ⟨XC0, PA, HLC, SSC⟩
    case rest =>
      obtain ⟨XX, PA, HLC, SSC⟩ := hcut
      obtain ⟨w9, rfl⟩ : ∃ z : World, z = wc := ⟨_, rfl⟩
      clear HXA HL7 HSS
      have cw1 := (HW5.out _ _ PA.out).2
      go_upto_if 123 with fail
      clear cw1
      go_cut [] (fun wx => ∃ vI XX2, Hid (XAt w3 wx G7 t.ver t.lock vI OV XX2 YC) ∧ Hid (XX2.length ≤ 10) ∧ Hid (SS I k t.ins (XX2.map (·.p))))
      case first =>
        as_aux_lemma =>
          have cw1 := (HW5.out _ _ PA.out).2
          by_cases hal : 128 ≤ k
          · have da : decide (128 ≤ k) = true := decide_eq_true hal
            have HAL := Lib.hid (show aloneF k = true from da)
            go_upto_region 19 with fail
            clear cw1
            have cx1 := PA.out.t.cell (i := 1) (z := .slice (some ⟨g, 0, none⟩) nX c) rfl
            have cu1 := HU4.out _ _ PA.out
            have HOW := Lib.hid (show w9.ownsRow w3.heap.size 49 36 (.slice (some ⟨g, 0, none⟩) nX c) nX (XX.flatMap inC) by have q := PA.out.ins; unfold InsO at q; rw [HLC.out] at q; exact q)
            have HDL := Lib.hid (show (XU.flatMap inC).length = nU * 36 by rw [flat_len inC 36 XU (fun x hx => inC_length (HU3.out.ins.each x hx).ok), ← HNU.out])
            have HDA := Lib.hid (show nU ≠ 0 → ∃ b o, A3 = some ⟨b, o, none⟩ ∧ w9.rangeAt b o (XU.flatMap inC) from fun h0 => by
              obtain ⟨b, o, e, hb, hr⟩ := HU3.out.ins.src (by rw [← HNU.out]) h0
              exact ⟨b, o, e, fun q v hv => (PA.out.bel.cell (p := ⟨b, _, none⟩) hb).trans (hr q v hv)⟩)
            have HD1 := Lib.hid (one_of_ins HU3.out.ins.each)
            obtain ⟨DU, hDU⟩ : ∃ z, z = XU.flatMap inC := ⟨_, rfl⟩
            rw [← hDU] at HDL HDA HD1
            have HDU := Lib.hid hDU
            clear hDU
            go_wp2_with (first
              | (at_builtin; refine wpList_append_tins rfl (.tmp 125) (.tmp 127) rfl w3.heap.size _ nX _ rfl HOW.out A3 nU c3 DU rfl HDL.out HDA.out HD1.out (by omega) PA.out.bel.size ?_; intro v1 w10 hown1 hg1; obtain ⟨A9, c9, rfl⟩ := own_form hown1; have hown2 := hown1; rw [HDU.out] at hown2; have PB := Lib.hid (PA.out.app (by rw [HLC.out]; exact hown2) hg1 HNU.out.symm (fun x hx => ⟨HU3.out.ins.each x hx, (HBX.out.2.2.1 x hx).sc⟩)); have HCB := Lib.hid (show ∃ old, w10.cell? ⟨G7, 1, none⟩ = some old ∧ w10.frozen? ⟨G7, 1, none⟩ = false from by
                have hr := (Turns.refl (fun q => (Value.slice (some ⟨g, 0, none⟩) nX c).ownBlock = some q) w9).grown hg1 (fun q hq _ => hq)
                have hne : ¬ (Value.slice (some ⟨g, 0, none⟩) nX c).ownBlock = some G7 := fun e => by
                  have e : g = G7 := by simpa [Value.ownBlock] using e
                  have hx := HOW.out
                  rcases hx.2 with ⟨q, _⟩ | ⟨g', cap, cur, q, _, hg', _⟩
                  · cases q
                  · injection q with q _ _
                    injection q with q
                    injection q with q
                    have hr : w9.heap[G7]? = _ := PA.out.t
                    rw [← q, e, hr] at hg'
                    injection hg' with hg'
                    injection hg' with _ hg'
                    exact absurd hg' (by decide)
                have hR := PA.out.t.turns hr hne
                exact ⟨_, hR.cell (i := 1) rfl, hR.free 1⟩); obtain ⟨old1, hc1, hc2⟩ := HCB.out; clear hown2 hown1 hg1)
              | (refine wpList_store_one rfl 22 (.tmp 129) (.tmp 128) rfl (b := G7) (o := 1) rfl rfl rfl rfl size_tins hc1 hc2 ?_))
            go_meet
            exact ⟨_, XX ++ XU, PB, Lib.hid (by rw [List.length_append, HLC.out, ← HNU.out]; omega), Lib.hid (by rw [List.map_append]; exact SSC.out.app HAL.out _)⟩
            all_goals (exfalso; omega)
          · have da : decide (128 ≤ k) = false := decide_eq_false hal
            go_wp2_with fail
            go_meet
            exact ⟨_, XX, PA, Lib.hid (by rw [HLC.out]; omega), SSC⟩
      case rest =>
        obtain ⟨vI, XX2, PB, HL2, SS2⟩ := hcut
        obtain ⟨w10, rfl⟩ : ∃ z : World, z = wc := ⟨_, rfl⟩
        have FA := Lib.hid (FX.of PB.out HLO7.out)
        have HYL := Lib.hid (show YC.length ≤ 5 by rw [HLY7.out]; omega)
        have HOS0 := Lib.hid (show OS I k t.outs (YC.map (·.p)) by rw [HY7.out]; exact OS.refl _ _ _)
        clear PA HLC SSC PB
        have HKK : ∀ (W : World) (vO : Value) (YY : List OutV), FX w3 W G7 t.ver t.lock vI vO XX2 YY → W.cell? ⟨G5, 0, none⟩ = some (.int .i64 (I : Int)) ∧ W.cell? ⟨G5, 1, none⟩ = some (.int .u8 k) ∧ W.cell? ⟨G4, 2, none⟩ = some (.slice A4 nV c4) ∧ W.cell? ⟨G5, 2, none⟩ = some (.slice As nS cs) ∧ W.cell? ⟨G5, 3, none⟩ = some (.int .i64 val) := fun W vO YY h => by
          have q := HFR.out.r5.below h.bel HFR.out.r5.lt
          have q4 := HFR.out.r4.below h.bel HFR.out.r4.lt
          exact ⟨q.cell W0.out, q.cell W1.out, q4.cell F2.out, q.cell W2.out, q.cell W3.out⟩
        have HK := Lib.hid HKK
        clear HKK HW5 HU4
        go_upto_if 131 with fail
        go_cut [] (fun wx => ∃ vO YY, Hid (FX w3 wx G7 t.ver t.lock vI vO XX2 YY) ∧ Hid (YY.length ≤ 5) ∧ Hid (OS I k t.outs (YY.map (·.p))) ∧ Hid (chosenF k = 3 → YY.map (·.p) = t.outs))
        case first =>
          as_aux_lemma =>
            rcases HKO.out with ⟨d2, hc⟩ | ⟨d2, d3, hc⟩ | ⟨d2, d3, hc⟩
            · go_upto_region 21 with fail
              have cu2 := (HK.out _ _ _ FA.out).2.2.1
              have hR := FA.out.t
              have hc1 := hR.cell (i := 2) (z := OV) rfl
              have hc2 := hR.free 2
              have PB := Lib.hid (FA.out.putO (FA.out.old HU3.out.outs) HBX.out.2.2.2)
              have HE2 := Lib.hid (show ko = 2 from by simpa using d2)
              clear hR
              go_wp2_with (first
                | (refine wpList_store_one rfl 23 (.tmp 134) (.tmp 133) rfl (b := G7) (o := 2) rfl rfl rfl rfl size_touts hc1 hc2 ?_))
              go_meet
              have h2 : chosenF k = 2 := by unfold chosenF; rw [if_pos (by rw [← HKE.out]; exact HE2.out)]
              exact ⟨_, YU, PB, Lib.hid (by rw [← HNV.out]; omega), Lib.hid ⟨fun q => by rw [h2] at q; exact absurd q (by decide), fun q => by rw [h2] at q; exact absurd q (by decide)⟩, Lib.hid (fun q => by rw [h2] at q; exact absurd q (by decide))⟩
            · go_wp2_with fail
              go_meet
              exact ⟨_, YC, FA, HYL, HOS0, Lib.hid (fun _ => HY7.out)⟩
            · go_wp2_with fail
              go_meet
              exact ⟨_, YC, FA, HYL, HOS0, Lib.hid (fun _ => HY7.out)⟩
        case rest =>
          obtain ⟨vO, YY, FB, HYL2, OSB, HYE⟩ := hcut
          obtain ⟨w11, rfl⟩ : ∃ z : World, z = wc := ⟨_, rfl⟩
          clear FA HYL HOS0
          have hOB := FB.out.ko w11 (Turns.refl _ _)
          obtain ⟨A5, c5, hof5, hc5a, hc5b⟩ := hOB.row.form
          obtain ⟨nW, hnW⟩ : ∃ z, z = YY.length := ⟨_, rfl⟩
          rw [← hnW] at hof5 hc5a
          subst hof5
          have HNW := Lib.hid hnW
          have hn5 : (nW : Int) ≤ 5 := by have := HYL2.out; omega
          clear hnW hOB
          go_upto_region 22 with fail
          go_cut [144] (fun s wx => ∃ bb : Bool, s = .bool bb ∧ Hid (bb = true → chosenF k = 3 ∧ I < nW) ∧ wx = w11)
          case first =>
            as_aux_lemma =>
              have ck0 := (HK.out _ _ _ FB.out).1
              have cx2 := FB.out.t.cell (i := 2) (z := .slice A5 nW c5) rfl
              rcases HKO.out with ⟨d2, hc⟩ | ⟨d2, d3, hc⟩ | ⟨d2, d3, hc⟩
              · have e2 : ko = 2 := by simpa using d2
                have d3 : (ko == 3) = false := by rw [e2]; rfl
                clear e2
                go_wp2_with fail
                go_meet
                exact ⟨false, rfl, Lib.hid (fun q => absurd q (by decide)), rfl⟩
              · have h3 : ko = 3 := by simpa using d3
                have hc3 : chosenF k = 3 := by unfold chosenF; rw [← HKE.out, h3, if_neg (by decide), if_pos rfl]
                have HC3 := Lib.hid hc3
                clear hc3 h3
                by_cases hIw : I < nW
                · have dI : decide ((I : Int) < (nW : Int)) = true := decide_eq_true (by omega)
                  go_wp2_with fail
                  go_meet
                  exact ⟨true, rfl, Lib.hid (fun _ => ⟨HC3.out, hIw⟩), rfl⟩
                · have dI : decide ((I : Int) < (nW : Int)) = false := decide_eq_false (by omega)
                  go_wp2_with fail
                  go_meet
                  exact ⟨false, rfl, Lib.hid (fun q => absurd q (by decide)), rfl⟩
              · go_wp2_with fail
                go_meet
                exact ⟨false, rfl, Lib.hid (fun q => absurd q (by decide)), rfl⟩
          case rest =>
            obtain ⟨bb, rfl, HBB, hwc⟩ := hcut
            have hwc2 := hwc.symm
            subst hwc2
            clear hwc
            go_upto_if 144 with fail
            go_cut [] (fun wx => ∃ vO YY, Hid (FX w3 wx G7 t.ver t.lock vI vO XX2 YY) ∧ Hid (YY.length ≤ 10) ∧ Hid (OS I k t.outs (YY.map (·.p))))
            case first =>
              as_aux_lemma =>
                cases bb
                · go_wp2_with fail
                  go_meet
                  exact ⟨_, YY, FB, Lib.hid (by have := HYL2.out; omega), OSB⟩
                · obtain ⟨hk3, hIW⟩ := HBB.out rfl
                  have hFD : FX w3 w11.drew G7 t.ver t.lock vI (.slice A5 nW c5) XX2 YY := FB.out.below (Below.refl _ w11).drew
                  obtain ⟨b5, o5, D1, D2, hA5, hD1, hD2, hl1, hl2, ho1, ho2, hr1, hr2⟩ := hFD.src HNW.out hIW HU3.out.outs HNV.out
                  subst hA5
                  have HK3 := Lib.hid hk3
                  have HIW := Lib.hid hIW
                  have HD1L := Lib.hid hl1
                  have HD2L := Lib.hid hl2
                  have HD1O := Lib.hid ho1
                  have HD2O := Lib.hid ho2
                  have HR1 := Lib.hid hr1
                  have HR2 := Lib.hid hr2
                  have hIi : (I : Int) < (nW : Int) := by omega
                  have hI5 : (I : Int) + 1 ≤ (c5 : Int) := by omega
                  have hI0 : (0 : Int) ≤ (I : Int) + 1 := by omega
                  have hI6 : IntKind.i64.wrap ((I : Int) + 1) = (I : Int) + 1 := by rw [IntKind.wrap_i64]; omega
                  have hI7 : ((I : Int) + 1).toNat = I + 1 := by omega
                  have HFD := Lib.hid hFD
                  have HS5 := Lib.hid (show ∀ W, Below w11.drew.heap.size w11.drew W → (W.cell? ⟨G5, 0, none⟩ = some (.int .i64 (I : Int)) ∧ W.cell? ⟨G4, 2, none⟩ = some (.slice A4 nV c4)) from fun W hW => by
                    have a := HK.out _ _ _ (HFD.out.below hW)
                    exact ⟨a.1, a.2.2.1⟩)
                  have HC5 := Lib.hid (show ∀ W, Below w11.drew.heap.size w11.drew W → W.cell? ⟨G7, 2, none⟩ = some (.slice (some ⟨b5, o5, none⟩) nW c5) from fun W hW => (HFD.out.below hW).t.cell (i := 2) rfl)
                  have BX := Lib.hid (show Below w11.drew.heap.size w11.drew w11.drew from Below.refl _ _)
                  have HDE1 := Lib.hid hD1
                  have HDE2 := Lib.hid hD2
                  clear hk3 hIW hD1 hD2 hFD hl1 hl2 ho1 ho2 hr1 hr2
                  go_upto_region 23 with fail
                  refine wp_region_held_drew (S := (fun w' => w'.cell? ⟨G5, 0, none⟩ = some (.int .i64 (I : Int)) ∧ w'.cell? ⟨G4, 2, none⟩ = some (.slice A4 nV c4))) (by kernel_rfl) ?_ (fun hHeld => ?_)
                  · exact HS5.out _ BX.out
                  refine wpAnyH_take (i := 1) (oi := { dst := some 146, op := Go.Op.fieldAddr 26 (Go.Operand.tmp 7) 2, type := 0, pos := "law.go:88", after := #[], guard := none }) (v := ?ov1) rfl (by kernel_rfl) (by kernel_rfl) (by kernel_rfl) (fun _ _ _ h => h) (Or.inl ⟨by rfl, ?oy1⟩) (by assumption) ?or1
                  case oy1 => (intro w hSw; (try dsimp only at hSw); go_simp; try (with_reducible rfl))
                  case or1 =>
                  try simp only [Act.put, List.setIfInBounds_toArray, List.set_cons_zero, List.set_cons_succ]
                  refine wpAnyH_take (i := 3) (oi := { dst := some 148, op := Go.Op.fieldAddr 29 (Go.Operand.tmp 5) 0, type := 0, pos := "law.go:88", after := #[], guard := none }) (v := ?ov3) rfl (by kernel_rfl) (by kernel_rfl) (by kernel_rfl) (fun _ _ _ h => h) (Or.inl ⟨by rfl, ?oy3⟩) (by assumption) ?or3
                  case oy3 => (intro w hSw; (try dsimp only at hSw); go_simp; try (with_reducible rfl))
                  case or3 =>
                  try simp only [Act.put, List.setIfInBounds_toArray, List.set_cons_zero, List.set_cons_succ]
                  refine wpAnyH_take (i := 4) (oi := { dst := some 149, op := Go.Op.load 3 (Go.Operand.tmp 148), type := 3, pos := "law.go:88", after := #[{ on := 3, ground := Go.Ground.data }], guard := none }) (v := (.int .i64 (I : Int))) rfl (by kernel_rfl) (by kernel_rfl) (by kernel_rfl) (fun _ _ _ h => h) (Or.inl ⟨by rfl, ?oy4⟩) (by assumption) ?or4
                  case oy4 => (intro w hSw; (try dsimp only at hSw); go_simp; try (simp [hSw.1]))
                  case or4 =>
                  try simp only [Act.put, List.setIfInBounds_toArray, List.set_cons_zero, List.set_cons_succ]
                  refine wpAnyH_take (i := 5) (oi := { dst := some 150, op := Go.Op.binOp Go.BinOp.add 3 (Go.Operand.tmp 149) (Go.Operand.const (Go.Value.int Go.IntKind.i64 1)) 3, type := 3, pos := "law.go:88", after := #[{ on := 4, ground := Go.Ground.data }], guard := none }) (v := ?ov5) rfl (by kernel_rfl) (by kernel_rfl) (by kernel_rfl) (fun _ _ _ h => h) (Or.inl ⟨by rfl, ?oy5⟩) (by assumption) ?or5
                  case oy5 => (intro w hSw; (try dsimp only at hSw); go_simp; try (with_reducible rfl))
                  case or5 =>
                  try simp only [Act.put, List.setIfInBounds_toArray, List.set_cons_zero, List.set_cons_succ]
                  refine wpAnyH_take (i := 8) (oi := { dst := some 153, op := Go.Op.fieldAddr 26 (Go.Operand.tmp 4) 2, type := 0, pos := "law.go:88", after := #[], guard := none }) (v := ?ov8) rfl (by kernel_rfl) (by kernel_rfl) (by kernel_rfl) (fun _ _ _ h => h) (Or.inl ⟨by rfl, ?oy8⟩) (by assumption) ?or8
                  case oy8 => (intro w hSw; (try dsimp only at hSw); go_simp; try (with_reducible rfl))
                  case or8 =>
                  try simp only [Act.put, List.setIfInBounds_toArray, List.set_cons_zero, List.set_cons_succ]
                  refine wpAnyH_take (i := 9) (oi := { dst := some 154, op := Go.Op.load 23 (Go.Operand.tmp 153), type := 23, pos := "law.go:88", after := #[{ on := 8, ground := Go.Ground.data }], guard := none }) (v := (.slice A4 nV c4)) rfl (by kernel_rfl) (by kernel_rfl) (by kernel_rfl) (fun _ _ _ h => h) (Or.inl ⟨by rfl, ?oy9⟩) (by assumption) ?or9
                  case oy9 => (intro w hSw; (try dsimp only at hSw); go_simp; try (simp [hSw.2]))
                  case or9 =>
                  try simp only [Act.put, List.setIfInBounds_toArray, List.set_cons_zero, List.set_cons_succ]
                  refine wpAnyH_ready (rs := [0, 2]) (by kernel_rfl) (by simp) ?_
                  refine AllReadyH.cons (o := { dst := some 145, op := Go.Op.buildSlice 23 0 #[], type := 23, pos := "law.go:88", after := #[], guard := none }) rfl (fun K hK => ?_) (AllReadyH.cons (o := { dst := some 147, op := Go.Op.load 23 (Go.Operand.tmp 146), type := 23, pos := "law.go:88", after := #[{ on := 1, ground := Go.Ground.data }], guard := none }) rfl (fun K hK => ?_) (AllReadyH.nil))
                  · skip
                    refine op_zero_touts rfl ?_
                    have O1 := Lib.hid (World.ownsRow_made (base := w11.drew.heap.size) (e := 54) (size := 2) w11.drew #[] 0 (Nat.le_refl _) (by unfold maxLen; omega) rfl)
                    have BX := Lib.hid (show Below w11.drew.heap.size w11.drew (w11.drew.alloc (.cells #[] 54)) from (Below.refl _ _).alloc (Nat.le_refl _) _)
                    refine hK.out _ _ ?_ (fun hHeld => ?_)
                    · exact HS5.out _ BX.out
                    clear hK K
                    try simp only [Act.put, List.setIfInBounds_toArray, List.set_cons_zero, List.set_cons_succ]
                    refine wpAnyH_ready (rs := [2]) (by kernel_rfl) (by simp) ?_
                    refine AllReadyH.cons (o := { dst := some 147, op := Go.Op.load 23 (Go.Operand.tmp 146), type := 23, pos := "law.go:88", after := #[{ on := 1, ground := Go.Ground.data }], guard := none }) rfl (fun K hK => ?_) (AllReadyH.nil)
                    refine wp_load_one (.tmp 146) rfl rfl (HC5.out _ BX.out) ?_
                    refine hK.out _ _ ?_ (fun hHeld => ?_)
                    · exact HS5.out _ BX.out
                    clear hK K
                    try simp only [Act.put, List.setIfInBounds_toArray, List.set_cons_zero, List.set_cons_succ]
                    refine wpAnyH_take (i := 6) (oi := { dst := some 151, op := Go.Op.slice 23 (Go.Operand.tmp 147) none (some (Go.Operand.tmp 150)) none, type := 23, pos := "law.go:88", after := #[{ on := 2, ground := Go.Ground.data }, { on := 5, ground := Go.Ground.data }], guard := none }) (v := (.slice (some ⟨b5, o5, none⟩) (I + 1) c5)) rfl (by kernel_rfl) (by kernel_rfl) (by kernel_rfl) (fun _ _ _ h => h) (Or.inl ⟨by rfl, ?o_0_2y6⟩) (by assumption) ?o_0_2r6
                    case o_0_2y6 => (intro w hSw; (try dsimp only at hSw); go_simp; try (simp only [hI6]; rw [if_pos ⟨hI0, hI5⟩, hI7]))
                    case o_0_2r6 =>
                    try simp only [Act.put, List.setIfInBounds_toArray, List.set_cons_zero, List.set_cons_succ]
                    refine wpAnyH_ready (rs := [7]) (by kernel_rfl) (by simp) ?_
                    refine AllReadyH.cons (o := { dst := some 152, op := Go.Op.call { callee := Go.Callee.builtin Go.Builtin.append, args := #[Go.Operand.tmp 145, Go.Operand.tmp 151], argTypes := #[23, 23] }, type := 23, pos := "law.go:88", after := #[{ on := 0, ground := Go.Ground.data }, { on := 6, ground := Go.Ground.data }], guard := none }) rfl (fun K hK => ?_) (AllReadyH.nil)
                    refine op_append_touts (.tmp 145) (.tmp 151) rfl w11.drew.heap.size _ 0 [] rfl O1.out (some ⟨b5, o5, none⟩) (I + 1) c5 D1 rfl HD1L.out (HR1.out _ BX.out) HD1O.out (by omega) BX.out.size ?_
                    intro v2 x2 hown2 hg2
                    obtain ⟨A9, c9, rfl⟩ := own_form hown2
                    have BX := Lib.hid (BX.out.grown hg2 BX.out.size (fun q hq => (O1.out.lt q hq).1))
                    have O2 := Lib.hid hown2
                    clear hown2 hg2
                    refine hK.out _ _ ?_ (fun hHeld => ?_)
                    · exact HS5.out _ BX.out
                    clear hK K
                    try simp only [Act.put, List.setIfInBounds_toArray, List.set_cons_zero, List.set_cons_succ]
                    refine wpAnyH_ready (rs := [10]) (by kernel_rfl) (by simp) ?_
                    refine AllReadyH.cons (o := { dst := some 155, op := Go.Op.call { callee := Go.Callee.builtin Go.Builtin.append, args := #[Go.Operand.tmp 152, Go.Operand.tmp 154], argTypes := #[23, 23] }, type := 23, pos := "law.go:88", after := #[{ on := 7, ground := Go.Ground.data }, { on := 9, ground := Go.Ground.data }, { on := 7, ground := Go.Ground.chain }], guard := none }) rfl (fun K hK => ?_) (AllReadyH.nil)
                    refine op_append_touts (.tmp 152) (.tmp 154) rfl w11.drew.heap.size _ (0 + (I + 1)) ([] ++ D1) rfl O2.out A4 nV c4 D2 rfl HD2L.out (HR2.out _ BX.out) HD2O.out (by omega) BX.out.size ?_
                    intro v3 x3 hown3 hg3
                    obtain ⟨Aa, ca, rfl⟩ := own_form hown3
                    have BX := Lib.hid (BX.out.grown hg3 BX.out.size (fun q hq => (O2.out.lt q hq).1))
                    have O3 := Lib.hid (show x3.ownsRow w11.drew.heap.size 54 2 (.slice Aa (0 + (I + 1) + nV) ca) (0 + (I + 1) + nV) (D1 ++ D2) from hown3)
                    have BX10 := Lib.hid BX.out
                    have FC := Lib.hid (HFD.out.below BX.out)
                    have HSC := Lib.hid (show x3.cell? ⟨G7, 2, none⟩ = some (.slice (some ⟨b5, o5, none⟩) nW c5) ∧ x3.frozen? ⟨G7, 2, none⟩ = false from ⟨FC.out.t.cell (i := 2) rfl, FC.out.t.free 2⟩)
                    clear hown3 hg3
                    refine hK.out _ _ ?_ (fun hHeld => ?_)
                    · exact HS5.out _ BX.out
                    clear hK K
                    try simp only [Act.put, List.setIfInBounds_toArray, List.set_cons_zero, List.set_cons_succ]
                    refine wpAnyH_take (i := 11) (oi := { dst := some 156, op := Go.Op.fieldAddr 26 (Go.Operand.tmp 7) 2, type := 0, pos := "law.go:88", after := #[{ on := 0, ground := Go.Ground.phase }, { on := 1, ground := Go.Ground.phase }, { on := 2, ground := Go.Ground.phase }, { on := 3, ground := Go.Ground.phase }, { on := 4, ground := Go.Ground.phase }, { on := 5, ground := Go.Ground.phase }, { on := 6, ground := Go.Ground.phase }, { on := 7, ground := Go.Ground.phase }, { on := 8, ground := Go.Ground.phase }, { on := 9, ground := Go.Ground.phase }, { on := 10, ground := Go.Ground.phase }], guard := none }) (v := ?o_0_2_7_10v11) rfl (by kernel_rfl) (by kernel_rfl) (by kernel_rfl) (fun _ _ _ h => h) (Or.inl ⟨by rfl, ?o_0_2_7_10y11⟩) (by assumption) ?o_0_2_7_10r11
                    case o_0_2_7_10y11 => (intro w hSw; (try dsimp only at hSw); go_simp; try (with_reducible rfl))
                    case o_0_2_7_10r11 =>
                    try simp only [Act.put, List.setIfInBounds_toArray, List.set_cons_zero, List.set_cons_succ]
                    refine wpAnyH_ready (rs := [12]) (by kernel_rfl) (by simp) ?_
                    refine AllReadyH.cons (o := { dst := none, op := Go.Op.store 23 (Go.Operand.tmp 156) (Go.Operand.tmp 155), type := 0, pos := "law.go:88", after := #[{ on := 11, ground := Go.Ground.data }, { on := 10, ground := Go.Ground.data }, { on := 10, ground := Go.Ground.chain }, { on := 0, ground := Go.Ground.phase }, { on := 1, ground := Go.Ground.phase }, { on := 2, ground := Go.Ground.phase }, { on := 3, ground := Go.Ground.phase }, { on := 4, ground := Go.Ground.phase }, { on := 5, ground := Go.Ground.phase }, { on := 6, ground := Go.Ground.phase }, { on := 7, ground := Go.Ground.phase }, { on := 8, ground := Go.Ground.phase }, { on := 9, ground := Go.Ground.phase }, { on := 10, ground := Go.Ground.phase }], guard := none }) rfl (fun K hK => ?_) (AllReadyH.nil)
                    refine wp_store_one 23 (.tmp 156) (.tmp 155) rfl (b := G7) (o := 2) (v := .slice Aa (0 + (I + 1) + nV) ca) rfl rfl rfl rfl size_touts (HSC.out.1) (HSC.out.2) ?_
                    have FE := Lib.hid (HFD.out.mix (k := 0 + (I + 1) + nV) BX10.out (by rw [← HNW.out]; exact HIW.out) HU3.out.outs HBX.out.2.2.2 (by rw [← HNV.out]; omega) (by rw [← HDE1.out, ← HDE2.out]; exact O3.out))
                    have HSE := Lib.hid (show _ ∧ _ from ⟨(HK.out _ _ _ FE.out).1, (HK.out _ _ _ FE.out).2.2.1⟩)
                    rw [show 0 + (I + 1) + nV = I + 1 + nV by omega] at FE
                    refine hK.out _ _ ?_ (fun hHeld => ?_)
                    · exact HSE.out
                    clear hK K
                    try simp only [Act.put]
                    refine wpAnyH_done (by kernel_rfl) ?_ _
                    go_wp2_with fail
                    go_meet
                    exact ⟨_, YY.take (I + 1) ++ YU, FE, Lib.hid (by rw [List.length_append, List.length_take, ← HNV.out]; omega), Lib.hid (by rw [List.map_append, List.map_take]; exact OS.mix HK3.out (by rw [List.length_map, ← HNW.out]; exact HIW.out) (HYE.out HK3.out))⟩
                  · skip
                    refine wp_load_one (.tmp 146) rfl rfl (HC5.out _ BX.out) ?_
                    refine hK.out _ _ ?_ (fun hHeld => ?_)
                    · exact HS5.out _ BX.out
                    clear hK K
                    try simp only [Act.put, List.setIfInBounds_toArray, List.set_cons_zero, List.set_cons_succ]
                    refine wpAnyH_take (i := 6) (oi := { dst := some 151, op := Go.Op.slice 23 (Go.Operand.tmp 147) none (some (Go.Operand.tmp 150)) none, type := 23, pos := "law.go:88", after := #[{ on := 2, ground := Go.Ground.data }, { on := 5, ground := Go.Ground.data }], guard := none }) (v := (.slice (some ⟨b5, o5, none⟩) (I + 1) c5)) rfl (by kernel_rfl) (by kernel_rfl) (by kernel_rfl) (fun _ _ _ h => h) (Or.inl ⟨by rfl, ?o_2y6⟩) (by assumption) ?o_2r6
                    case o_2y6 => (intro w hSw; (try dsimp only at hSw); go_simp; try (simp only [hI6]; rw [if_pos ⟨hI0, hI5⟩, hI7]))
                    case o_2r6 =>
                    try simp only [Act.put, List.setIfInBounds_toArray, List.set_cons_zero, List.set_cons_succ]
                    refine wpAnyH_ready (rs := [0]) (by kernel_rfl) (by simp) ?_
                    refine AllReadyH.cons (o := { dst := some 145, op := Go.Op.buildSlice 23 0 #[], type := 23, pos := "law.go:88", after := #[], guard := none }) rfl (fun K hK => ?_) (AllReadyH.nil)
                    refine op_zero_touts rfl ?_
                    have O1 := Lib.hid (World.ownsRow_made (base := w11.drew.heap.size) (e := 54) (size := 2) w11.drew #[] 0 (Nat.le_refl _) (by unfold maxLen; omega) rfl)
                    have BX := Lib.hid (show Below w11.drew.heap.size w11.drew (w11.drew.alloc (.cells #[] 54)) from (Below.refl _ _).alloc (Nat.le_refl _) _)
                    refine hK.out _ _ ?_ (fun hHeld => ?_)
                    · exact HS5.out _ BX.out
                    clear hK K
                    try simp only [Act.put, List.setIfInBounds_toArray, List.set_cons_zero, List.set_cons_succ]
                    refine wpAnyH_ready (rs := [7]) (by kernel_rfl) (by simp) ?_
                    refine AllReadyH.cons (o := { dst := some 152, op := Go.Op.call { callee := Go.Callee.builtin Go.Builtin.append, args := #[Go.Operand.tmp 145, Go.Operand.tmp 151], argTypes := #[23, 23] }, type := 23, pos := "law.go:88", after := #[{ on := 0, ground := Go.Ground.data }, { on := 6, ground := Go.Ground.data }], guard := none }) rfl (fun K hK => ?_) (AllReadyH.nil)
                    refine op_append_touts (.tmp 145) (.tmp 151) rfl w11.drew.heap.size _ 0 [] rfl O1.out (some ⟨b5, o5, none⟩) (I + 1) c5 D1 rfl HD1L.out (HR1.out _ BX.out) HD1O.out (by omega) BX.out.size ?_
                    intro v2 x2 hown2 hg2
                    obtain ⟨A9, c9, rfl⟩ := own_form hown2
                    have BX := Lib.hid (BX.out.grown hg2 BX.out.size (fun q hq => (O1.out.lt q hq).1))
                    have O2 := Lib.hid hown2
                    clear hown2 hg2
                    refine hK.out _ _ ?_ (fun hHeld => ?_)
                    · exact HS5.out _ BX.out
                    clear hK K
                    try simp only [Act.put, List.setIfInBounds_toArray, List.set_cons_zero, List.set_cons_succ]
                    refine wpAnyH_ready (rs := [10]) (by kernel_rfl) (by simp) ?_
                    refine AllReadyH.cons (o := { dst := some 155, op := Go.Op.call { callee := Go.Callee.builtin Go.Builtin.append, args := #[Go.Operand.tmp 152, Go.Operand.tmp 154], argTypes := #[23, 23] }, type := 23, pos := "law.go:88", after := #[{ on := 7, ground := Go.Ground.data }, { on := 9, ground := Go.Ground.data }, { on := 7, ground := Go.Ground.chain }], guard := none }) rfl (fun K hK => ?_) (AllReadyH.nil)
                    refine op_append_touts (.tmp 152) (.tmp 154) rfl w11.drew.heap.size _ (0 + (I + 1)) ([] ++ D1) rfl O2.out A4 nV c4 D2 rfl HD2L.out (HR2.out _ BX.out) HD2O.out (by omega) BX.out.size ?_
                    intro v3 x3 hown3 hg3
                    obtain ⟨Aa, ca, rfl⟩ := own_form hown3
                    have BX := Lib.hid (BX.out.grown hg3 BX.out.size (fun q hq => (O2.out.lt q hq).1))
                    have O3 := Lib.hid (show x3.ownsRow w11.drew.heap.size 54 2 (.slice Aa (0 + (I + 1) + nV) ca) (0 + (I + 1) + nV) (D1 ++ D2) from hown3)
                    have BX10 := Lib.hid BX.out
                    have FC := Lib.hid (HFD.out.below BX.out)
                    have HSC := Lib.hid (show x3.cell? ⟨G7, 2, none⟩ = some (.slice (some ⟨b5, o5, none⟩) nW c5) ∧ x3.frozen? ⟨G7, 2, none⟩ = false from ⟨FC.out.t.cell (i := 2) rfl, FC.out.t.free 2⟩)
                    clear hown3 hg3
                    refine hK.out _ _ ?_ (fun hHeld => ?_)
                    · exact HS5.out _ BX.out
                    clear hK K
                    try simp only [Act.put, List.setIfInBounds_toArray, List.set_cons_zero, List.set_cons_succ]
                    refine wpAnyH_take (i := 11) (oi := { dst := some 156, op := Go.Op.fieldAddr 26 (Go.Operand.tmp 7) 2, type := 0, pos := "law.go:88", after := #[{ on := 0, ground := Go.Ground.phase }, { on := 1, ground := Go.Ground.phase }, { on := 2, ground := Go.Ground.phase }, { on := 3, ground := Go.Ground.phase }, { on := 4, ground := Go.Ground.phase }, { on := 5, ground := Go.Ground.phase }, { on := 6, ground := Go.Ground.phase }, { on := 7, ground := Go.Ground.phase }, { on := 8, ground := Go.Ground.phase }, { on := 9, ground := Go.Ground.phase }, { on := 10, ground := Go.Ground.phase }], guard := none }) (v := ?o_2_0_7_10v11) rfl (by kernel_rfl) (by kernel_rfl) (by kernel_rfl) (fun _ _ _ h => h) (Or.inl ⟨by rfl, ?o_2_0_7_10y11⟩) (by assumption) ?o_2_0_7_10r11
                    case o_2_0_7_10y11 => (intro w hSw; (try dsimp only at hSw); go_simp; try (with_reducible rfl))
                    case o_2_0_7_10r11 =>
                    try simp only [Act.put, List.setIfInBounds_toArray, List.set_cons_zero, List.set_cons_succ]
                    refine wpAnyH_ready (rs := [12]) (by kernel_rfl) (by simp) ?_
                    refine AllReadyH.cons (o := { dst := none, op := Go.Op.store 23 (Go.Operand.tmp 156) (Go.Operand.tmp 155), type := 0, pos := "law.go:88", after := #[{ on := 11, ground := Go.Ground.data }, { on := 10, ground := Go.Ground.data }, { on := 10, ground := Go.Ground.chain }, { on := 0, ground := Go.Ground.phase }, { on := 1, ground := Go.Ground.phase }, { on := 2, ground := Go.Ground.phase }, { on := 3, ground := Go.Ground.phase }, { on := 4, ground := Go.Ground.phase }, { on := 5, ground := Go.Ground.phase }, { on := 6, ground := Go.Ground.phase }, { on := 7, ground := Go.Ground.phase }, { on := 8, ground := Go.Ground.phase }, { on := 9, ground := Go.Ground.phase }, { on := 10, ground := Go.Ground.phase }], guard := none }) rfl (fun K hK => ?_) (AllReadyH.nil)
                    refine wp_store_one 23 (.tmp 156) (.tmp 155) rfl (b := G7) (o := 2) (v := .slice Aa (0 + (I + 1) + nV) ca) rfl rfl rfl rfl size_touts (HSC.out.1) (HSC.out.2) ?_
                    have FE := Lib.hid (HFD.out.mix (k := 0 + (I + 1) + nV) BX10.out (by rw [← HNW.out]; exact HIW.out) HU3.out.outs HBX.out.2.2.2 (by rw [← HNV.out]; omega) (by rw [← HDE1.out, ← HDE2.out]; exact O3.out))
                    have HSE := Lib.hid (show _ ∧ _ from ⟨(HK.out _ _ _ FE.out).1, (HK.out _ _ _ FE.out).2.2.1⟩)
                    rw [show 0 + (I + 1) + nV = I + 1 + nV by omega] at FE
                    refine hK.out _ _ ?_ (fun hHeld => ?_)
                    · exact HSE.out
                    clear hK K
                    try simp only [Act.put]
                    refine wpAnyH_done (by kernel_rfl) ?_ _
                    go_wp2_with fail
                    go_meet
                    exact ⟨_, YY.take (I + 1) ++ YU, FE, Lib.hid (by rw [List.length_append, List.length_take, ← HNV.out]; omega), Lib.hid (by rw [List.map_append, List.map_take]; exact OS.mix HK3.out (by rw [List.length_map, ← HNW.out]; exact HIW.out) (HYE.out HK3.out))⟩
            case rest =>
              obtain ⟨vE, YE, FE, HYL3, OSE⟩ := hcut
              obtain ⟨w12, rfl⟩ : ∃ z : World, z = wc := ⟨_, rfl⟩
              as_aux_lemma =>
                clear FB HYL2 OSB HYE HBB
                have hI6 := FE.out.ki w12 (Turns.refl _ _)
                have hO6 := FE.out.ko w12 (Turns.refl _ _)
                obtain ⟨xT, hxT⟩ : ∃ z : TxP, z = ⟨t.ver, XX2.map (·.p), YE.map (·.p), t.lock⟩ := ⟨_, rfl⟩
                have hx : TxR w12 w12.heap.size xT vI vE XX2 YE := by rw [hxT]; exact ⟨⟨HT3.out.ok.v0, HT3.out.ok.v1, HT3.out.ok.l0, HT3.out.ok.l1⟩, hI6, hO6, rfl, rfl⟩
                have hxf : xT.fit := by rw [hxT]; exact fit10 hI6 hO6 FE.out.lI FE.out.lO (by have := HL2.out; omega) (by have := HYL3.out; omega)
                have ht12 : TxR w12 w12.heap.size t (.slice A1 nX c1) (.slice A2 nY c2) X Y := (HT3.out.below FE.out.bel).more FE.out.bel.size
                have htf : t.fit := by
                  have q := fit10 (ver := t.ver) (lk := t.lock) HT3.out.ins HT3.out.outs (fun x hx => (HBX.out.1 x hx).sc) HBX.out.2.1 (by rw [← HNX.out]; omega) (by rw [← HNY.out]; omega)
                  rw [HT3.out.ei, HT3.out.eo] at q
                  exact q
                have htn : t.ins.length = nX := by rw [← HT3.out.nins]; exact HNX.out.symm
                have hto : t.outs.length = nY := by rw [← HT3.out.nouts]; exact HNY.out.symm
                have hle : ∀ sc' : List UInt8, legD xT (I : Int) sc' k = legD t (I : Int) sc' k := fun sc' => legD_free (by rw [hxT]; exact SS2.out) (by rw [hxT]; exact OSE.out) (by rw [hxT]) (by rw [hxT]) (by have := HIX.out; omega) sc'
                have hwe : ∀ sc' : List UInt8, witD xT (I : Int) sc' val k = witD t (I : Int) sc' val k := fun sc' => witD_free (by rw [hxT]; exact SS2.out) (by rw [hxT]; exact OSE.out) (by rw [hxT]) (by rw [hxT]) (by have := HIX.out; omega) sc' val
                have hxo : xT.outs.length ≤ 10 := by rw [hxT]; show (YE.map (·.p)).length ≤ 10; rw [List.length_map]; exact HYL3.out
                have hto2 : t.outs.length ≤ 10 := by omega
                obtain ⟨XL, hXL⟩ : ∃ z, z = txC xT vI vE := ⟨_, rfl⟩
                have hxl : VRow w12 G7 26 XL := by rw [hXL, hxT]; exact FE.out.t
                have FIN := Lib.hid (HFR.out.bel.trans (FE.out.bel.mono HFR.out.bel.size))
                have hro : Roots w12 := HRO.out.below FIN.out
                have SXL := Lib.hid (show (Tryd.prog.info? 26).map (·.size) = some XL.length by rw [hXL]; exact size_tx)
                have SFT := Lib.hid (show (Tryd.prog.info? 26).map (·.size) = some FT.length by rw [HFTE.out]; exact size_tx)
                have HSB := Lib.hid (show ∀ W, Below w12.heap.size w12 W → VRow W G7 26 XL ∧ VRow W G3 26 FT ∧ VRow W G5 29 WC from fun W hW => by
                  have q3 := HFR.out.r3.below FE.out.bel HFR.out.r3.lt
                  have q5 := HFR.out.r5.below FE.out.bel HFR.out.r5.lt
                  exact ⟨hxl.below hW hxl.lt, q3.below hW q3.lt, q5.below hW q5.lt⟩)
                have cw2 := (HK.out _ _ _ FE.out).2.2.2.1
                have HSS := Lib.hid (HSH.out w12 FIN.out)
                have HXT := Lib.hid hx
                have HXF := Lib.hid hxf
                have HT12 := Lib.hid ht12
                have HTF := Lib.hid htf
                have HLE := Lib.hid hle
                have HWE := Lib.hid hwe
                have HXO := Lib.hid hxo
                have HTO := Lib.hid hto2
                have HXL := Lib.hid hXL
                have HRO12 := Lib.hid hro
                clear hI6 hO6 hx hxf ht12 htf htn hto hle hwe hxo hto2 hXL hxl hro hxT
                go_wp2_with fail
                refine HSS.out.mono ?_
                rintro e w13 ⟨A6, n6, c6, sc', rfl, hn6, hn6b, hby, rfl⟩
                clear cw2
                have HBY := Lib.hid (show ∀ W, Below w12.heap.size w12 W → Byt W w12.heap.size (.slice A6 n6 c6) sc' from fun W hW => (hby.more (Nat.le_trans HB.out FIN.out.size)).below hW)
                have hs1 : sc'.length ≤ 1000 := by omega
                have HS1 := Lib.hid hs1
                obtain ⟨V1, hV1⟩ : ∃ V : Array Value, Value.agg V = digV (legD t (I : Int) sc' k) := ⟨_, rfl⟩
                obtain ⟨V2, hV2⟩ : ∃ V : Array Value, Value.agg V = digV (witD t (I : Int) sc' val k) := ⟨_, rfl⟩
                have K1 := Lib.hid (show ∀ W, Below w12.heap.size w12 W → Calls Tryd.prog 12 #[.agg XL.toArray, .int .i64 (I : Int), .slice A6 n6 c6, .int .u8 k] W fun e w' => e = .returned (.agg V1) ∧ Below W.heap.size W w' from fun W hW => by
                  have q := legacyA_any w12.heap.size _ _ _ _ _ _ (I : Int) sc' k W (HXT.out.below hW) (HBY.out W hW) hW.size HXF.out HS1.out hk0 hk1 HXO.out (HRO12.out.below hW)
                  rw [HLE.out, ← hV1, ← HXL.out] at q
                  exact q)
                have K2 := Lib.hid (show ∀ W, Below w12.heap.size w12 W → Calls Tryd.prog 12 #[.agg FT.toArray, .int .i64 (I : Int), .slice A6 n6 c6, .int .u8 k] W fun e w' => e = .returned (.agg V1) ∧ Below W.heap.size W w' from fun W hW => by
                  have q := legacyA_any w12.heap.size _ _ _ _ _ _ (I : Int) sc' k W (HT12.out.below hW) (HBY.out W hW) hW.size HTF.out HS1.out hk0 hk1 HTO.out (HRO12.out.below hW)
                  rw [← hV1, ← HFTE.out] at q
                  exact q)
                have K3 := Lib.hid (show ∀ W, Below w12.heap.size w12 W → Calls Tryd.prog 18 #[.agg XL.toArray, .int .i64 (I : Int), .slice A6 n6 c6, .int .i64 val, .int .u8 k] W fun e w' => e = .returned (.agg V2) ∧ Below W.heap.size W w' from fun W hW => by
                  have q := witnessA_any w12.heap.size _ _ _ _ _ _ (I : Int) sc' val k W (HXT.out.below hW) (HBY.out W hW) hW.size HXF.out HS1.out hv0 hv1 hk0 hk1 (HRO12.out.below hW)
                  rw [HWE.out, ← hV2, ← HXL.out] at q
                  exact q)
                have K4 := Lib.hid (show ∀ W, Below w12.heap.size w12 W → Calls Tryd.prog 18 #[.agg FT.toArray, .int .i64 (I : Int), .slice A6 n6 c6, .int .i64 val, .int .u8 k] W fun e w' => e = .returned (.agg V2) ∧ Below W.heap.size W w' from fun W hW => by
                  have q := witnessA_any w12.heap.size _ _ _ _ _ _ (I : Int) sc' val k W (HT12.out.below hW) (HBY.out W hW) hW.size HTF.out HS1.out hv0 hv1 hk0 hk1 (HRO12.out.below hW)
                  rw [← hV2, ← HFTE.out] at q
                  exact q)
                have heq1 := fun W => eq_32 _ _ (legD_len t (I : Int) sc' k) (legD_len t (I : Int) sc' k) W
                have heq2 := fun W => eq_32 _ _ (witD_len t (I : Int) sc' val k) (witD_len t (I : Int) sc' val k) W
                simp only [beq_self_eq_true, ← hV1] at heq1
                simp only [beq_self_eq_true, ← hV2] at heq2
                have HS0 := Lib.hid (HSB.out _ (Below.refl _ w12).drew)
                have BX := Lib.hid (show Below w12.heap.size w12 w12.drew from (Below.refl _ w12).drew)
                clear hV1 hV2 hby hn6 hn6b hs1
                go_upto_region 25 with fail
                refine wp_region_held_drew (S := (fun w' => VRow w' G7 26 XL ∧ VRow w' G3 26 FT ∧ VRow w' G5 29 WC)) (by kernel_rfl) ?_ (fun hHeld => ?_)
                · exact HS0.out
                refine wpAnyH_take (i := 0) (oi := { dst := some 160, op := Go.Op.load 26 (Go.Operand.tmp 7), type := 26, pos := "law.go:91", after := #[], guard := none }) (v := (.agg XL.toArray)) rfl (by kernel_rfl) (by kernel_rfl) (by kernel_rfl) (fun _ _ _ h => h) (yieldsIf_load_mid (by rfl) 26 (.tmp 7) rfl G7 0 rfl XL _ (fun w' h => vrow_r0 h.1) Tryd.underlying26 rfl SXL.out) (by assumption) ?_
                try simp only [Act.put, List.setIfInBounds_toArray, List.set_cons_zero, List.set_cons_succ]
                refine wpAnyH_take (i := 1) (oi := { dst := some 161, op := Go.Op.fieldAddr 29 (Go.Operand.tmp 5) 0, type := 0, pos := "law.go:91", after := #[], guard := none }) (v := ?zv1) rfl (by kernel_rfl) (by kernel_rfl) (by kernel_rfl) (fun _ _ _ h => h) (Or.inl ⟨by rfl, ?zy1⟩) (by assumption) ?zr1
                case zy1 => (intro w hSw; (try dsimp only at hSw); go_simp; try (with_reducible rfl))
                case zr1 =>
                try simp only [Act.put, List.setIfInBounds_toArray, List.set_cons_zero, List.set_cons_succ]
                refine wpAnyH_take (i := 2) (oi := { dst := some 162, op := Go.Op.load 3 (Go.Operand.tmp 161), type := 3, pos := "law.go:91", after := #[{ on := 1, ground := Go.Ground.data }], guard := none }) (v := (.int .i64 (I : Int))) rfl (by kernel_rfl) (by kernel_rfl) (by kernel_rfl) (fun _ _ _ h => h) (Or.inl ⟨by rfl, ?zy2⟩) (by assumption) ?zr2
                case zy2 => (intro w hSw; (try dsimp only at hSw); go_simp; try (simp [VRow.cell hSw.2.2 W0.out]))
                case zr2 =>
                try simp only [Act.put, List.setIfInBounds_toArray, List.set_cons_zero, List.set_cons_succ]
                refine wpAnyH_take (i := 3) (oi := { dst := some 163, op := Go.Op.move (Go.Operand.tmp 10), type := 27, pos := "law.go:91", after := #[], guard := none }) (v := ?zv3) rfl (by kernel_rfl) (by kernel_rfl) (by kernel_rfl) (fun _ _ _ h => h) (Or.inl ⟨by rfl, ?zy3⟩) (by assumption) ?zr3
                case zy3 => (intro w hSw; (try dsimp only at hSw); go_simp; try (with_reducible rfl))
                case zr3 =>
                try simp only [Act.put, List.setIfInBounds_toArray, List.set_cons_zero, List.set_cons_succ]
                refine wpAnyH_take (i := 4) (oi := { dst := some 164, op := Go.Op.fieldAddr 29 (Go.Operand.tmp 5) 1, type := 0, pos := "law.go:91", after := #[], guard := none }) (v := ?zv4) rfl (by kernel_rfl) (by kernel_rfl) (by kernel_rfl) (fun _ _ _ h => h) (Or.inl ⟨by rfl, ?zy4⟩) (by assumption) ?zr4
                case zy4 => (intro w hSw; (try dsimp only at hSw); go_simp; try (with_reducible rfl))
                case zr4 =>
                try simp only [Act.put, List.setIfInBounds_toArray, List.set_cons_zero, List.set_cons_succ]
                refine wpAnyH_take (i := 5) (oi := { dst := some 165, op := Go.Op.load 5 (Go.Operand.tmp 164), type := 5, pos := "law.go:91", after := #[{ on := 4, ground := Go.Ground.data }], guard := none }) (v := (.int .u8 k)) rfl (by kernel_rfl) (by kernel_rfl) (by kernel_rfl) (fun _ _ _ h => h) (Or.inl ⟨by rfl, ?zy5⟩) (by assumption) ?zr5
                case zy5 => (intro w hSw; (try dsimp only at hSw); go_simp; try (simp [VRow.cell hSw.2.2 W1.out]))
                case zr5 =>
                try simp only [Act.put, List.setIfInBounds_toArray, List.set_cons_zero, List.set_cons_succ]
                refine wpAnyH_take (i := 7) (oi := { dst := some 167, op := Go.Op.load 26 (Go.Operand.tmp 3), type := 26, pos := "law.go:91", after := #[], guard := none }) (v := (.agg FT.toArray)) rfl (by kernel_rfl) (by kernel_rfl) (by kernel_rfl) (fun _ _ _ h => h) (yieldsIf_load_mid (by rfl) 26 (.tmp 3) rfl G3 0 rfl FT _ (fun w' h => vrow_r0 h.2.1) Tryd.underlying26 rfl SFT.out) (by assumption) ?_
                try simp only [Act.put, List.setIfInBounds_toArray, List.set_cons_zero, List.set_cons_succ]
                refine wpAnyH_take (i := 8) (oi := { dst := some 168, op := Go.Op.fieldAddr 29 (Go.Operand.tmp 5) 0, type := 0, pos := "law.go:91", after := #[], guard := none }) (v := ?zv8) rfl (by kernel_rfl) (by kernel_rfl) (by kernel_rfl) (fun _ _ _ h => h) (Or.inl ⟨by rfl, ?zy8⟩) (by assumption) ?zr8
                case zy8 => (intro w hSw; (try dsimp only at hSw); go_simp; try (with_reducible rfl))
                case zr8 =>
                try simp only [Act.put, List.setIfInBounds_toArray, List.set_cons_zero, List.set_cons_succ]
                refine wpAnyH_take (i := 9) (oi := { dst := some 169, op := Go.Op.load 3 (Go.Operand.tmp 168), type := 3, pos := "law.go:91", after := #[{ on := 8, ground := Go.Ground.data }], guard := none }) (v := (.int .i64 (I : Int))) rfl (by kernel_rfl) (by kernel_rfl) (by kernel_rfl) (fun _ _ _ h => h) (Or.inl ⟨by rfl, ?zy9⟩) (by assumption) ?zr9
                case zy9 => (intro w hSw; (try dsimp only at hSw); go_simp; try (simp [VRow.cell hSw.2.2 W0.out]))
                case zr9 =>
                try simp only [Act.put, List.setIfInBounds_toArray, List.set_cons_zero, List.set_cons_succ]
                refine wpAnyH_take (i := 10) (oi := { dst := some 170, op := Go.Op.move (Go.Operand.tmp 10), type := 27, pos := "law.go:91", after := #[], guard := none }) (v := ?zv10) rfl (by kernel_rfl) (by kernel_rfl) (by kernel_rfl) (fun _ _ _ h => h) (Or.inl ⟨by rfl, ?zy10⟩) (by assumption) ?zr10
                case zy10 => (intro w hSw; (try dsimp only at hSw); go_simp; try (with_reducible rfl))
                case zr10 =>
                try simp only [Act.put, List.setIfInBounds_toArray, List.set_cons_zero, List.set_cons_succ]
                refine wpAnyH_take (i := 11) (oi := { dst := some 171, op := Go.Op.fieldAddr 29 (Go.Operand.tmp 5) 1, type := 0, pos := "law.go:91", after := #[], guard := none }) (v := ?zv11) rfl (by kernel_rfl) (by kernel_rfl) (by kernel_rfl) (fun _ _ _ h => h) (Or.inl ⟨by rfl, ?zy11⟩) (by assumption) ?zr11
                case zy11 => (intro w hSw; (try dsimp only at hSw); go_simp; try (with_reducible rfl))
                case zr11 =>
                try simp only [Act.put, List.setIfInBounds_toArray, List.set_cons_zero, List.set_cons_succ]
                refine wpAnyH_take (i := 12) (oi := { dst := some 172, op := Go.Op.load 5 (Go.Operand.tmp 171), type := 5, pos := "law.go:91", after := #[{ on := 11, ground := Go.Ground.data }], guard := none }) (v := (.int .u8 k)) rfl (by kernel_rfl) (by kernel_rfl) (by kernel_rfl) (fun _ _ _ h => h) (Or.inl ⟨by rfl, ?zy12⟩) (by assumption) ?zr12
                case zy12 => (intro w hSw; (try dsimp only at hSw); go_simp; try (simp [VRow.cell hSw.2.2 W1.out]))
                case zr12 =>
                try simp only [Act.put, List.setIfInBounds_toArray, List.set_cons_zero, List.set_cons_succ]
                refine wpAnyH_ready (rs := [6]) (by kernel_rfl) (by simp) ?_
                refine AllReadyH.cons (o := { dst := some 166, op := Go.Op.call { callee := Go.Callee.value (Go.Operand.func 12), args := #[Go.Operand.tmp 160, Go.Operand.tmp 162, Go.Operand.tmp 163, Go.Operand.tmp 165], argTypes := #[26, 3, 27, 5] }, type := 36, pos := "law.go:91", after := #[{ on := 0, ground := Go.Ground.data }, { on := 2, ground := Go.Ground.data }, { on := 3, ground := Go.Ground.data }, { on := 5, ground := Go.Ground.data }], guard := none }) rfl (fun K hK => ?_) (AllReadyH.nil)
                go_simp
                refine (K1.out _ BX.out).mono ?_
                rintro e w14 ⟨rfl, hb⟩
                have BX := Lib.hid (BX.out.trans (hb.mono BX.out.size))
                clear hb
                refine hK.out _ _ ?_ (fun hHeld => ?_)
                · exact HSB.out _ BX.out
                clear hK K
                try simp only [Act.put, List.setIfInBounds_toArray, List.set_cons_zero, List.set_cons_succ]
                refine wpAnyH_ready (rs := [13]) (by kernel_rfl) (by simp) ?_
                refine AllReadyH.cons (o := { dst := some 173, op := Go.Op.call { callee := Go.Callee.value (Go.Operand.func 12), args := #[Go.Operand.tmp 167, Go.Operand.tmp 169, Go.Operand.tmp 170, Go.Operand.tmp 172], argTypes := #[26, 3, 27, 5] }, type := 36, pos := "law.go:91", after := #[{ on := 7, ground := Go.Ground.data }, { on := 9, ground := Go.Ground.data }, { on := 10, ground := Go.Ground.data }, { on := 12, ground := Go.Ground.data }, { on := 6, ground := Go.Ground.chain }], guard := none }) rfl (fun K hK => ?_) (AllReadyH.nil)
                go_simp
                refine (K2.out _ BX.out).mono ?_
                rintro e w14 ⟨rfl, hb⟩
                have BX := Lib.hid (BX.out.trans (hb.mono BX.out.size))
                clear hb
                refine hK.out _ _ ?_ (fun hHeld => ?_)
                · exact HSB.out _ BX.out
                clear hK K
                try simp only [Act.put, List.setIfInBounds_toArray, List.set_cons_zero, List.set_cons_succ]
                refine wpAnyH_take (i := 14) (oi := { dst := some 174, op := Go.Op.binOp Go.BinOp.eql 36 (Go.Operand.tmp 166) (Go.Operand.tmp 173) 36, type := 4, pos := "law.go:91", after := #[{ on := 6, ground := Go.Ground.data }, { on := 13, ground := Go.Ground.data }], guard := none }) (v := (.bool true)) rfl (by kernel_rfl) (by kernel_rfl) (by kernel_rfl) (fun _ _ _ h => h) (Or.inl ⟨by rfl, ?z_6_13y14⟩) (by assumption) ?z_6_13r14
                case z_6_13y14 => (intro w hSw; (try dsimp only at hSw); go_simp; try (with_reducible rfl))
                case z_6_13r14 =>
                try simp only [Act.put, List.setIfInBounds_toArray, List.set_cons_zero, List.set_cons_succ]
                refine wpAnyH_take (i := 15) (oi := { dst := some 175, op := Go.Op.move (Go.Operand.tmp 174), type := 4, pos := "law.go:91", after := #[{ on := 14, ground := Go.Ground.data }, { on := 13, ground := Go.Ground.chain }], guard := none }) (v := ?z_6_13v15) rfl (by kernel_rfl) (by kernel_rfl) (by kernel_rfl) (fun _ _ _ h => h) (Or.inl ⟨by rfl, ?z_6_13y15⟩) (by assumption) ?z_6_13r15
                case z_6_13y15 => (intro w hSw; (try dsimp only at hSw); go_simp; try (with_reducible rfl))
                case z_6_13r15 =>
                try simp only [Act.put, List.setIfInBounds_toArray, List.set_cons_zero, List.set_cons_succ]
                refine wpAnyH_take (i := 16) (oi := { dst := some 176, op := Go.Op.load 26 (Go.Operand.tmp 7), type := 26, pos := "law.go:91", after := #[{ on := 15, ground := Go.Ground.guard }], guard := some (15, true) }) (v := (.agg XL.toArray)) rfl (by kernel_rfl) (by kernel_rfl) (by kernel_rfl) (fun _ _ _ h => h) (yieldsIf_load_mid (by rfl) 26 (.tmp 7) rfl G7 0 rfl XL _ (fun w' h => vrow_r0 h.1) Tryd.underlying26 rfl SXL.out) (by assumption) ?_
                try simp only [Act.put, List.setIfInBounds_toArray, List.set_cons_zero, List.set_cons_succ]
                refine wpAnyH_take (i := 17) (oi := { dst := some 177, op := Go.Op.fieldAddr 29 (Go.Operand.tmp 5) 0, type := 0, pos := "law.go:91", after := #[{ on := 15, ground := Go.Ground.guard }], guard := some (15, true) }) (v := ?z_6_13v17) rfl (by kernel_rfl) (by kernel_rfl) (by kernel_rfl) (fun _ _ _ h => h) (Or.inl ⟨by rfl, ?z_6_13y17⟩) (by assumption) ?z_6_13r17
                case z_6_13y17 => (intro w hSw; (try dsimp only at hSw); go_simp; try (with_reducible rfl))
                case z_6_13r17 =>
                try simp only [Act.put, List.setIfInBounds_toArray, List.set_cons_zero, List.set_cons_succ]
                refine wpAnyH_take (i := 18) (oi := { dst := some 178, op := Go.Op.load 3 (Go.Operand.tmp 177), type := 3, pos := "law.go:91", after := #[{ on := 17, ground := Go.Ground.data }, { on := 15, ground := Go.Ground.guard }], guard := some (15, true) }) (v := (.int .i64 (I : Int))) rfl (by kernel_rfl) (by kernel_rfl) (by kernel_rfl) (fun _ _ _ h => h) (Or.inl ⟨by rfl, ?z_6_13y18⟩) (by assumption) ?z_6_13r18
                case z_6_13y18 => (intro w hSw; (try dsimp only at hSw); go_simp; try (simp [VRow.cell hSw.2.2 W0.out]))
                case z_6_13r18 =>
                try simp only [Act.put, List.setIfInBounds_toArray, List.set_cons_zero, List.set_cons_succ]
                refine wpAnyH_take (i := 19) (oi := { dst := some 179, op := Go.Op.move (Go.Operand.tmp 10), type := 27, pos := "law.go:91", after := #[{ on := 15, ground := Go.Ground.guard }], guard := some (15, true) }) (v := ?z_6_13v19) rfl (by kernel_rfl) (by kernel_rfl) (by kernel_rfl) (fun _ _ _ h => h) (Or.inl ⟨by rfl, ?z_6_13y19⟩) (by assumption) ?z_6_13r19
                case z_6_13y19 => (intro w hSw; (try dsimp only at hSw); go_simp; try (with_reducible rfl))
                case z_6_13r19 =>
                try simp only [Act.put, List.setIfInBounds_toArray, List.set_cons_zero, List.set_cons_succ]
                refine wpAnyH_take (i := 20) (oi := { dst := some 180, op := Go.Op.fieldAddr 29 (Go.Operand.tmp 5) 3, type := 0, pos := "law.go:91", after := #[{ on := 15, ground := Go.Ground.guard }], guard := some (15, true) }) (v := ?z_6_13v20) rfl (by kernel_rfl) (by kernel_rfl) (by kernel_rfl) (fun _ _ _ h => h) (Or.inl ⟨by rfl, ?z_6_13y20⟩) (by assumption) ?z_6_13r20
                case z_6_13y20 => (intro w hSw; (try dsimp only at hSw); go_simp; try (with_reducible rfl))
                case z_6_13r20 =>
                try simp only [Act.put, List.setIfInBounds_toArray, List.set_cons_zero, List.set_cons_succ]
                refine wpAnyH_take (i := 21) (oi := { dst := some 181, op := Go.Op.load 2 (Go.Operand.tmp 180), type := 2, pos := "law.go:91", after := #[{ on := 20, ground := Go.Ground.data }, { on := 15, ground := Go.Ground.guard }], guard := some (15, true) }) (v := (.int .i64 val)) rfl (by kernel_rfl) (by kernel_rfl) (by kernel_rfl) (fun _ _ _ h => h) (Or.inl ⟨by rfl, ?z_6_13y21⟩) (by assumption) ?z_6_13r21
                case z_6_13y21 => (intro w hSw; (try dsimp only at hSw); go_simp; try (simp [VRow.cell hSw.2.2 W3.out]))
                case z_6_13r21 =>
                try simp only [Act.put, List.setIfInBounds_toArray, List.set_cons_zero, List.set_cons_succ]
                refine wpAnyH_take (i := 22) (oi := { dst := some 182, op := Go.Op.fieldAddr 29 (Go.Operand.tmp 5) 1, type := 0, pos := "law.go:91", after := #[{ on := 15, ground := Go.Ground.guard }], guard := some (15, true) }) (v := ?z_6_13v22) rfl (by kernel_rfl) (by kernel_rfl) (by kernel_rfl) (fun _ _ _ h => h) (Or.inl ⟨by rfl, ?z_6_13y22⟩) (by assumption) ?z_6_13r22
                case z_6_13y22 => (intro w hSw; (try dsimp only at hSw); go_simp; try (with_reducible rfl))
                case z_6_13r22 =>
                try simp only [Act.put, List.setIfInBounds_toArray, List.set_cons_zero, List.set_cons_succ]
                refine wpAnyH_take (i := 23) (oi := { dst := some 183, op := Go.Op.load 5 (Go.Operand.tmp 182), type := 5, pos := "law.go:91", after := #[{ on := 22, ground := Go.Ground.data }, { on := 15, ground := Go.Ground.guard }], guard := some (15, true) }) (v := (.int .u8 k)) rfl (by kernel_rfl) (by kernel_rfl) (by kernel_rfl) (fun _ _ _ h => h) (Or.inl ⟨by rfl, ?z_6_13y23⟩) (by assumption) ?z_6_13r23
                case z_6_13y23 => (intro w hSw; (try dsimp only at hSw); go_simp; try (simp [VRow.cell hSw.2.2 W1.out]))
                case z_6_13r23 =>
                try simp only [Act.put, List.setIfInBounds_toArray, List.set_cons_zero, List.set_cons_succ]
                refine wpAnyH_take (i := 25) (oi := { dst := some 185, op := Go.Op.load 26 (Go.Operand.tmp 3), type := 26, pos := "law.go:91", after := #[{ on := 15, ground := Go.Ground.guard }], guard := some (15, true) }) (v := (.agg FT.toArray)) rfl (by kernel_rfl) (by kernel_rfl) (by kernel_rfl) (fun _ _ _ h => h) (yieldsIf_load_mid (by rfl) 26 (.tmp 3) rfl G3 0 rfl FT _ (fun w' h => vrow_r0 h.2.1) Tryd.underlying26 rfl SFT.out) (by assumption) ?_
                try simp only [Act.put, List.setIfInBounds_toArray, List.set_cons_zero, List.set_cons_succ]
                refine wpAnyH_take (i := 26) (oi := { dst := some 186, op := Go.Op.fieldAddr 29 (Go.Operand.tmp 5) 0, type := 0, pos := "law.go:91", after := #[{ on := 15, ground := Go.Ground.guard }], guard := some (15, true) }) (v := ?z_6_13v26) rfl (by kernel_rfl) (by kernel_rfl) (by kernel_rfl) (fun _ _ _ h => h) (Or.inl ⟨by rfl, ?z_6_13y26⟩) (by assumption) ?z_6_13r26
                case z_6_13y26 => (intro w hSw; (try dsimp only at hSw); go_simp; try (with_reducible rfl))
                case z_6_13r26 =>
                try simp only [Act.put, List.setIfInBounds_toArray, List.set_cons_zero, List.set_cons_succ]
                refine wpAnyH_take (i := 27) (oi := { dst := some 187, op := Go.Op.load 3 (Go.Operand.tmp 186), type := 3, pos := "law.go:91", after := #[{ on := 26, ground := Go.Ground.data }, { on := 15, ground := Go.Ground.guard }], guard := some (15, true) }) (v := (.int .i64 (I : Int))) rfl (by kernel_rfl) (by kernel_rfl) (by kernel_rfl) (fun _ _ _ h => h) (Or.inl ⟨by rfl, ?z_6_13y27⟩) (by assumption) ?z_6_13r27
                case z_6_13y27 => (intro w hSw; (try dsimp only at hSw); go_simp; try (simp [VRow.cell hSw.2.2 W0.out]))
                case z_6_13r27 =>
                try simp only [Act.put, List.setIfInBounds_toArray, List.set_cons_zero, List.set_cons_succ]
                refine wpAnyH_take (i := 28) (oi := { dst := some 188, op := Go.Op.move (Go.Operand.tmp 10), type := 27, pos := "law.go:91", after := #[{ on := 15, ground := Go.Ground.guard }], guard := some (15, true) }) (v := ?z_6_13v28) rfl (by kernel_rfl) (by kernel_rfl) (by kernel_rfl) (fun _ _ _ h => h) (Or.inl ⟨by rfl, ?z_6_13y28⟩) (by assumption) ?z_6_13r28
                case z_6_13y28 => (intro w hSw; (try dsimp only at hSw); go_simp; try (with_reducible rfl))
                case z_6_13r28 =>
                try simp only [Act.put, List.setIfInBounds_toArray, List.set_cons_zero, List.set_cons_succ]
                refine wpAnyH_take (i := 29) (oi := { dst := some 189, op := Go.Op.fieldAddr 29 (Go.Operand.tmp 5) 3, type := 0, pos := "law.go:91", after := #[{ on := 15, ground := Go.Ground.guard }], guard := some (15, true) }) (v := ?z_6_13v29) rfl (by kernel_rfl) (by kernel_rfl) (by kernel_rfl) (fun _ _ _ h => h) (Or.inl ⟨by rfl, ?z_6_13y29⟩) (by assumption) ?z_6_13r29
                case z_6_13y29 => (intro w hSw; (try dsimp only at hSw); go_simp; try (with_reducible rfl))
                case z_6_13r29 =>
                try simp only [Act.put, List.setIfInBounds_toArray, List.set_cons_zero, List.set_cons_succ]
                refine wpAnyH_take (i := 30) (oi := { dst := some 190, op := Go.Op.load 2 (Go.Operand.tmp 189), type := 2, pos := "law.go:91", after := #[{ on := 29, ground := Go.Ground.data }, { on := 15, ground := Go.Ground.guard }], guard := some (15, true) }) (v := (.int .i64 val)) rfl (by kernel_rfl) (by kernel_rfl) (by kernel_rfl) (fun _ _ _ h => h) (Or.inl ⟨by rfl, ?z_6_13y30⟩) (by assumption) ?z_6_13r30
                case z_6_13y30 => (intro w hSw; (try dsimp only at hSw); go_simp; try (simp [VRow.cell hSw.2.2 W3.out]))
                case z_6_13r30 =>
                try simp only [Act.put, List.setIfInBounds_toArray, List.set_cons_zero, List.set_cons_succ]
                refine wpAnyH_take (i := 31) (oi := { dst := some 191, op := Go.Op.fieldAddr 29 (Go.Operand.tmp 5) 1, type := 0, pos := "law.go:91", after := #[{ on := 15, ground := Go.Ground.guard }], guard := some (15, true) }) (v := ?z_6_13v31) rfl (by kernel_rfl) (by kernel_rfl) (by kernel_rfl) (fun _ _ _ h => h) (Or.inl ⟨by rfl, ?z_6_13y31⟩) (by assumption) ?z_6_13r31
                case z_6_13y31 => (intro w hSw; (try dsimp only at hSw); go_simp; try (with_reducible rfl))
                case z_6_13r31 =>
                try simp only [Act.put, List.setIfInBounds_toArray, List.set_cons_zero, List.set_cons_succ]
                refine wpAnyH_take (i := 32) (oi := { dst := some 192, op := Go.Op.load 5 (Go.Operand.tmp 191), type := 5, pos := "law.go:91", after := #[{ on := 31, ground := Go.Ground.data }, { on := 15, ground := Go.Ground.guard }], guard := some (15, true) }) (v := (.int .u8 k)) rfl (by kernel_rfl) (by kernel_rfl) (by kernel_rfl) (fun _ _ _ h => h) (Or.inl ⟨by rfl, ?z_6_13y32⟩) (by assumption) ?z_6_13r32
                case z_6_13y32 => (intro w hSw; (try dsimp only at hSw); go_simp; try (simp [VRow.cell hSw.2.2 W1.out]))
                case z_6_13r32 =>
                try simp only [Act.put, List.setIfInBounds_toArray, List.set_cons_zero, List.set_cons_succ]
                refine wpAnyH_ready (rs := [24]) (by kernel_rfl) (by simp) ?_
                refine AllReadyH.cons (o := { dst := some 184, op := Go.Op.call { callee := Go.Callee.value (Go.Operand.func 18), args := #[Go.Operand.tmp 176, Go.Operand.tmp 178, Go.Operand.tmp 179, Go.Operand.tmp 181, Go.Operand.tmp 183], argTypes := #[26, 3, 27, 2, 5] }, type := 36, pos := "law.go:91", after := #[{ on := 16, ground := Go.Ground.data }, { on := 18, ground := Go.Ground.data }, { on := 19, ground := Go.Ground.data }, { on := 21, ground := Go.Ground.data }, { on := 23, ground := Go.Ground.data }, { on := 15, ground := Go.Ground.chain }, { on := 15, ground := Go.Ground.guard }], guard := some (15, true) }) rfl (fun K hK => ?_) (AllReadyH.nil)
                go_simp
                refine (K3.out _ BX.out).mono ?_
                rintro e w14 ⟨rfl, hb⟩
                have BX := Lib.hid (BX.out.trans (hb.mono BX.out.size))
                clear hb
                refine hK.out _ _ ?_ (fun hHeld => ?_)
                · exact HSB.out _ BX.out
                clear hK K
                try simp only [Act.put, List.setIfInBounds_toArray, List.set_cons_zero, List.set_cons_succ]
                refine wpAnyH_ready (rs := [33]) (by kernel_rfl) (by simp) ?_
                refine AllReadyH.cons (o := { dst := some 193, op := Go.Op.call { callee := Go.Callee.value (Go.Operand.func 18), args := #[Go.Operand.tmp 185, Go.Operand.tmp 187, Go.Operand.tmp 188, Go.Operand.tmp 190, Go.Operand.tmp 192], argTypes := #[26, 3, 27, 2, 5] }, type := 36, pos := "law.go:91", after := #[{ on := 25, ground := Go.Ground.data }, { on := 27, ground := Go.Ground.data }, { on := 28, ground := Go.Ground.data }, { on := 30, ground := Go.Ground.data }, { on := 32, ground := Go.Ground.data }, { on := 24, ground := Go.Ground.chain }, { on := 15, ground := Go.Ground.guard }], guard := some (15, true) }) rfl (fun K hK => ?_) (AllReadyH.nil)
                go_simp
                refine (K4.out _ BX.out).mono ?_
                rintro e w14 ⟨rfl, hb⟩
                have BX := Lib.hid (BX.out.trans (hb.mono BX.out.size))
                clear hb
                refine hK.out _ _ ?_ (fun hHeld => ?_)
                · exact HSB.out _ BX.out
                clear hK K
                try simp only [Act.put, List.setIfInBounds_toArray, List.set_cons_zero, List.set_cons_succ]
                refine wpAnyH_take (i := 34) (oi := { dst := some 194, op := Go.Op.binOp Go.BinOp.eql 36 (Go.Operand.tmp 184) (Go.Operand.tmp 193) 36, type := 4, pos := "law.go:91", after := #[{ on := 24, ground := Go.Ground.data }, { on := 33, ground := Go.Ground.data }, { on := 15, ground := Go.Ground.guard }], guard := some (15, true) }) (v := (.bool true)) rfl (by kernel_rfl) (by kernel_rfl) (by kernel_rfl) (fun _ _ _ h => h) (Or.inl ⟨by rfl, ?z_6_13_24_33y34⟩) (by assumption) ?z_6_13_24_33r34
                case z_6_13_24_33y34 => (intro w hSw; (try dsimp only at hSw); go_simp; try (with_reducible rfl))
                case z_6_13_24_33r34 =>
                try simp only [Act.put, List.setIfInBounds_toArray, List.set_cons_zero, List.set_cons_succ]
                refine wpAnyH_take (i := 35) (oi := { dst := some 195, op := Go.Op.pick (Go.Operand.tmp 175) (Go.Operand.tmp 194) (Go.Operand.const (Go.Value.bool false)), type := 4, pos := "law.go:91", after := #[{ on := 15, ground := Go.Ground.data }, { on := 34, ground := Go.Ground.data }], guard := none }) (v := (.bool true)) rfl (by kernel_rfl) (by kernel_rfl) (by kernel_rfl) (fun _ _ _ h => h) (Or.inl ⟨by rfl, ?z_6_13_24_33y35⟩) (by assumption) ?z_6_13_24_33r35
                case z_6_13_24_33y35 => (intro w hSw; (try dsimp only at hSw); go_simp; try (with_reducible rfl))
                case z_6_13_24_33r35 =>
                try simp only [Act.put, List.setIfInBounds_toArray, List.set_cons_zero, List.set_cons_succ]
                refine wpAnyH_take (i := 36) (oi := { dst := some 6, op := Go.Op.assign (Go.Operand.tmp 195), type := 4, pos := "law.go:91", after := #[{ on := 35, ground := Go.Ground.data }, { on := 33, ground := Go.Ground.chain }, { on := 0, ground := Go.Ground.phase }, { on := 1, ground := Go.Ground.phase }, { on := 2, ground := Go.Ground.phase }, { on := 3, ground := Go.Ground.phase }, { on := 4, ground := Go.Ground.phase }, { on := 5, ground := Go.Ground.phase }, { on := 6, ground := Go.Ground.phase }, { on := 7, ground := Go.Ground.phase }, { on := 8, ground := Go.Ground.phase }, { on := 9, ground := Go.Ground.phase }, { on := 10, ground := Go.Ground.phase }, { on := 11, ground := Go.Ground.phase }, { on := 12, ground := Go.Ground.phase }, { on := 13, ground := Go.Ground.phase }, { on := 14, ground := Go.Ground.phase }, { on := 15, ground := Go.Ground.phase }, { on := 16, ground := Go.Ground.phase }, { on := 17, ground := Go.Ground.phase }, { on := 18, ground := Go.Ground.phase }, { on := 19, ground := Go.Ground.phase }, { on := 20, ground := Go.Ground.phase }, { on := 21, ground := Go.Ground.phase }, { on := 22, ground := Go.Ground.phase }, { on := 23, ground := Go.Ground.phase }, { on := 24, ground := Go.Ground.phase }, { on := 25, ground := Go.Ground.phase }, { on := 26, ground := Go.Ground.phase }, { on := 27, ground := Go.Ground.phase }, { on := 28, ground := Go.Ground.phase }, { on := 29, ground := Go.Ground.phase }, { on := 30, ground := Go.Ground.phase }, { on := 31, ground := Go.Ground.phase }, { on := 32, ground := Go.Ground.phase }, { on := 33, ground := Go.Ground.phase }, { on := 34, ground := Go.Ground.phase }, { on := 35, ground := Go.Ground.phase }], guard := none }) (v := ?z_6_13_24_33v36) rfl (by kernel_rfl) (by kernel_rfl) (by kernel_rfl) (fun _ _ _ h => h) (Or.inl ⟨by rfl, ?z_6_13_24_33y36⟩) (by assumption) ?z_6_13_24_33r36
                case z_6_13_24_33y36 => (intro w hSw; (try dsimp only at hSw); go_simp; try (with_reducible rfl))
                case z_6_13_24_33r36 =>
                try simp only [Act.put, List.setIfInBounds_toArray, List.set_cons_zero, List.set_cons_succ]
                refine wpAnyH_done (by kernel_rfl) ?_ _
                go_wp2_with fail
                go_ret
                exact ⟨rfl, FIN.out.trans (BX.out.mono FIN.out.size)⟩
end Go.Proofs.YthelmclpmalofaaDoor
