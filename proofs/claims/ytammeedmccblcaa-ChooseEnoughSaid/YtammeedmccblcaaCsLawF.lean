/-
  The law ChooseLargest. Conditions: the coins' numbers are int64 (they came so).
-/
import Derived.Test.YtammeedmccblcaaCsLawB
import Derived.Test.YtammeedmccblcaaCsLawC
import Derived.Test.YtammeedmccblcaaCsLawD
import Derived.Test.YtammeedmccblcaaCsLawE
namespace Go.Proofs.Ytammeedmccblcaa.Cs
open Go.RowKit

theorem ints_more {k : IntKind} {w : World} {B B' : Nat} {v : Value} {xs : List Int} (h : Ints k w B v xs) (hB : B ≤ B') : Ints k w B' v xs := by
  obtain ⟨A, c, hv, h1, h2, h4, h3⟩ := h
  exact ⟨A, c, hv, h1, h2, h4, fun hn => by obtain ⟨b, o, e, hb, hr⟩ := h3 hn; exact ⟨b, o, e, by omega, hr⟩⟩
theorem rng2 {w : World} {b o : Nat} {x y : Value} (h0 : w.cell? ⟨b, o, none⟩ = some x) (h1 : w.cell? ⟨b, o + 1, none⟩ = some y) : w.rangeAt b o [x, y] := fun j v hv => by
  rcases j with _ | _ | j
  · obtain rfl : x = v := by simpa using hv
    exact h0
  · obtain rfl : y = v := by simpa using hv
    exact h1
  · simp at hv
set_option maxRecDepth 100000 in
set_option maxHeartbeats 6400000 in
theorem largest_law (B : Nat) (v : Value) (l : List (Int × Int)) (need extra rate tries seed : Int) (w : World) (hX : CrR w B v l) (hB : B ≤ w.heap.size) (hc : CoinsOk l) :
    Calls Try.prog 3 #[v, .agg (tkC need extra rate tries seed).toArray] w fun r w' => r = .returned (.bool true) ∧ Below w.heap.size w w' := by
  have hlen : (l.take 14).length ≤ 14 := by rw [List.length_take]; omega
  have hcl : CoinsOk (l.take 14) := fun c h => hc c (List.mem_of_mem_take h)
  have hfew := fun W (hb : Below w.heap.size w W) => few_any B v l need extra rate tries seed W (RowR.below hX (hb.mono hB)) (Nat.le_trans hB hb.size)
  obtain ⟨A, c, rfl, _, _⟩ := RowR.form hX
  obtain ⟨l', hl'⟩ : ∃ z, z = l.take 14 := ⟨_, rfl⟩
  obtain ⟨t', ht'⟩ : ∃ z, z = fewT tries := ⟨_, rfl⟩
  simp only [← hl', ← ht'] at hfew hlen hcl
  have hown := fun (v : Value) (W : World) (hX : CrR W B v l') (hB : B ≤ W.heap.size) => own_any B v l' need extra rate t' seed W hX hB hlen
  have hlg := fun (B : Nat) (v : Value) (W : World) (hX : CrR W B v l') (hB : B ≤ W.heap.size) => Largest_any B v l' need extra rate t' seed W hX hB (by omega) hcl
  have hrl := fun (v : Value) (W : World) (hX : CrR W B v l') (hB : B ≤ W.heap.size) => rlargest_any B v l' need extra rate t' seed W hX hB (by omega) hcl
  obtain ⟨R, hR⟩ : ∃ z, z = LargestF need rate l' := ⟨_, rfl⟩
  simp only [← hR] at hlg hrl
  obtain ⟨TN, hTN⟩ : ∃ z, z = tkC need extra rate t' seed := ⟨_, rfl⟩
  obtain ⟨TK, hTK⟩ : ∃ z, z = tkC need extra rate tries seed := ⟨_, rfl⟩
  simp only [← hTN, ← hTK] at hfew hown hlg hrl
  have hTN1 : TN.toArray.all (·.oneCell') = true := by rw [hTN]; exact rtsk_one need extra rate t' seed
  have hTNl : TN.length = 5 := by rw [hTN]; rfl
  have hTKl : TK.length = 5 := by rw [hTK]; rfl
  have hTN2 : TN[2]? = some (.int .i64 rate) := by rw [hTN]; rfl
  have hz : ∀ W, (zeroValue 30).run Try.prog W = .ok (.agg #[.int .i64 0, .int .i64 0, .int .i64 0, .int .i64 0, .int .u64 0]) W := fun W => by kernel_rfl
  have HFEW := Lib.hid hfew
  have HOWN := Lib.hid hown
  have HLG := Lib.hid hlg
  have HRL := Lib.hid hrl
  have HB := Lib.hid hB
  have HCL := Lib.hid hcl
  have HLEN := Lib.hid hlen
  have HTK := Lib.hid hTK
  have HN1 := Lib.hid hTN1
  have HNL := Lib.hid (show (Try.prog.info? 25).map (·.size) = some TN.length by rw [hTNl]; exact rtsk5)
  have HNT := Lib.hid (show (Try.prog.info? 30).map (·.size) = some TN.length by rw [hTNl]; exact tsk5)
  have HKL := Lib.hid (show (Try.prog.info? 25).map (·.size) = some TK.length by rw [hTKl]; exact rtsk5)
  have HLL := Lib.hid (show TK.length = TN.length by rw [hTKl, hTNl])
  have HL5 := Lib.hid (show [Value.int .i64 0, .int .i64 0, .int .i64 0, .int .i64 0, .int .u64 0].length = TN.length by rw [hTNl]; rfl)
  have HN2 := Lib.hid hTN2
  clear hfew hown hlg hrl hB hcl hlen hTK hTN1 hTNl hTKl hTN hTN2 hX hc hl' ht' hR
  unfold tkC at HTK ⊢
  go_enter Try.func3, Try.ntmps3
  go_upto_region 1 with fail
  obtain ⟨W1, hW1⟩ : ∃ z, z = w.alloc (.cells TK.toArray 25) := ⟨_, rfl⟩
  have hv1 : VRow W1 w.heap.size 25 TK := by rw [hW1]; exact VRow.new w _ TK
  have hb1 : Below w.heap.size w W1 := by rw [hW1]; exact (Below.refl _ _).alloc (Nat.le_refl _) _
  change Code.wp _ _ _ _ (w.alloc (.cells [Value.int .i64 need, .int .i64 extra, .int .i64 rate, .int .i64 tries, .int .u64 seed].toArray 25))
  rw [← HTK.out, ← hW1]
  obtain ⟨GT, hGT⟩ : ∃ z, z = w.heap.size := ⟨_, rfl⟩
  rw [← hGT] at hv1
  rw [← hGT]
  have HGT := Lib.hid hGT
  have HV1 := Lib.hid hv1
  have HB1 := Lib.hid hb1
  clear hv1 hb1 hW1 hGT HTK
  go_upto_region 3 with (first
    | (go_at_call 7; refine (awake_any _).mono ?_; rintro e w2 ⟨rfl, hb2⟩))
  have VT2 := Lib.hid (HV1.out.below hb2 HV1.out.lt)
  have B2 := Lib.hid (HB1.out.trans (hb2.mono HB1.out.size))
  clear hb2 HV1 HB1
  go_upto_region 4 with (first
    | (refine wpList_load_vrow rfl 25 (.tmp 3) rfl rfl VT2.out Try.underlying25 HKL.out ?_)
    | (go_at_call 8; refine (HFEW.out _ B2.out).mono ?_; rintro e w3 ⟨v', rfl, hv', hb3⟩; obtain ⟨A', c', rfl, _, _⟩ := RowR.form hv'; have VT3 := VT2.out.below hb3 VT2.out.lt)
    | (refine wpList_store_vrow rfl 25 (.tmp 3) (.tmp 19) rfl (us := TN) rfl rfl VT3 HNL.out HLL.out HN1.out ?_))
  try dsimp only [Act.put]
  obtain ⟨W4, hW4⟩ : ∃ z, z = w3.setRow GT TN.toArray := ⟨_, rfl⟩
  have V4 := Lib.hid (show VRow W4 GT 25 TN by rw [hW4]; exact VT3.setRow TN)
  have b34 : Below w.heap.size w3 W4 := by rw [hW4]; exact below_setRow (Below.refl _ _) (by have := HGT.out; omega) _
  have B4 := Lib.hid ((B2.out.trans (hb3.mono B2.out.size)).trans b34)
  have R4 := Lib.hid (RowR.below hv' (b34.mono HB.out))
  change Code.wp _ _ _ _ (w3.setRow GT TN.toArray)
  rw [← hW4]
  clear hW4 b34 hb3 VT3 VT2 B2 hv' HKL HLL
  have HB4 := Lib.hid (Nat.le_trans HB.out B4.out.size)
  have HZ := Lib.hid hz
  go_upto_region 5 with (first
    | (refine wpList_load_vrow rfl 25 (.tmp 3) rfl rfl V4.out Try.underlying25 HNL.out ?_)
    | (go_at_call 9; refine (HOWN.out _ _ R4.out HB4.out).mono ?_; rintro e w5 ⟨u, rfl, hu, hb5⟩; obtain ⟨Au, cu, rfl, _, _⟩ := RowR.form hu)
    | (refine wpList_store_vrow rfl 30 (.tmp 6) (.tmp 25) rfl (us := TN) rfl rfl (VRow.new w5 30 [Value.int .i64 0, .int .i64 0, .int .i64 0, .int .i64 0, .int .u64 0]) HNT.out HL5.out HN1.out ?_))
  try dsimp only [Act.put]
  obtain ⟨nX, hnX⟩ : ∃ z, z = l'.length := ⟨_, rfl⟩
  have b57 : Below w5.heap.size w5 ((w5.alloc (.cells #[.int .i64 0, .int .i64 0, .int .i64 0, .int .i64 0, .int .u64 0] 30)).setRow w5.heap.size TN.toArray) := below_setRow ((Below.refl _ _).alloc (Nat.le_refl _) _) (Nat.le_refl _) _
  have v7 : VRow ((w5.alloc (.cells #[.int .i64 0, .int .i64 0, .int .i64 0, .int .i64 0, .int .u64 0] 30)).setRow w5.heap.size TN.toArray) w5.heap.size 30 TN := (VRow.new w5 30 [Value.int .i64 0, .int .i64 0, .int .i64 0, .int .i64 0, .int .u64 0]).setRow TN
  obtain ⟨W7, hW7⟩ : ∃ z, z = (w5.alloc (.cells #[.int .i64 0, .int .i64 0, .int .i64 0, .int .i64 0, .int .u64 0] 30)).setRow w5.heap.size TN.toArray := ⟨_, rfl⟩
  rw [← hW7] at b57 v7
  change Code.wp _ _ _ _ ((w5.alloc (.cells #[.int .i64 0, .int .i64 0, .int .i64 0, .int .i64 0, .int .u64 0] 30)).setRow w5.heap.size TN.toArray)
  rw [← hW7]
  have b47 : Below W4.heap.size W4 W7 := hb5.trans (b57.mono hb5.size)
  have VT := Lib.hid (V4.out.below b47 V4.out.lt)
  have BW := Lib.hid (B4.out.trans (b47.mono B4.out.size))
  have RX := Lib.hid (show CrR W7 B (.slice A' l'.length c') l' from RowR.below R4.out (b47.mono HB4.out))
  have UX := Lib.hid (show CrR W7 w5.heap.size (.slice Au l'.length cu) l' from RowR.below hu b57)
  have H57 := Lib.hid b57.size
  have HB7 := Lib.hid (Nat.le_trans HB.out BW.out.size)
  obtain ⟨G6, hG6⟩ : ∃ z, z = w5.heap.size := ⟨_, rfl⟩
  rw [← hG6] at v7 UX H57 ⊢
  have V6 := Lib.hid v7
  have HNX := Lib.hid hnX
  rw [← hnX] at UX RX ⊢
  have hl := HLEN.out
  rw [← hnX] at hl
  have HL := Lib.hid hl
  clear b57 v7 hW7 b47 hb5 hu hG6 hnX V4 R4 B4 HB4 HOWN HFEW hz hl
  go_wp2_with fail
  go_loopw [7, 28] (fun q i wr => ∃ (j : Nat), j ≤ nX ∧ i = .int .i64 (j : Int) ∧ Hid (Below W7.heap.size W7 wr)) (fun _ i _ => nX - (intOf i).toNat)
  case atStart => exact ⟨0, Nat.zero_le _, rfl, Lib.hid (Below.refl _ _)⟩
  case round =>
    obtain ⟨j, hj, rfl, HBW⟩ := hrel
    obtain ⟨w8, rfl⟩ : ∃ z : World, z = wr := ⟨_, rfl⟩
    have hl := HL.out
    by_cases hlt : j < nX
    · as_aux_lemma =>
      have dj : decide ((j : Int) < (nX : Int)) = true := decide_eq_true (by omega)
      obtain ⟨x, hx⟩ : ∃ x, l'[j]? = some x := ⟨_, List.getElem?_eq_getElem (by rw [← HNX.out]; exact hlt)⟩
      have hrx : CrR w8 B (.slice A' nX c') l' := RowR.below RX.out (HBW.out.mono HB7.out)
      have hux : CrR w8 G6 (.slice Au nX cu) l' := RowR.below UX.out (HBW.out.mono H57.out)
      obtain ⟨b1, o1, k1, e1, _, _, q1, h1, h1'⟩ := hrx.at hx
      obtain ⟨b2, o2, k2, e2, _, _, q2, h2, h2'⟩ := hux.at hx
      obtain ⟨hx0, hx1, hx2, hx3⟩ := HCL.out x (List.mem_of_getElem? hx)
      injection e1 with e1 f1 g1
      injection e2 with e2 f2 g2
      subst e1 e2
      clear f1 g1 f2 g2 hx hrx hux
      obtain ⟨x0, x1⟩ := x
      simp only at h1 h1' h2 h2' hx0 hx1 hx2 hx3
      have v8 := VT.out.below HBW.out VT.out.lt
      have r2 := rng2 h2 h2'
      have r1 := rng2 h1 h1'
      have l1 : b1 < w8.heap.size := by have := HBW.out.size; have := HB7.out; omega
      have l2 : b2 < w8.heap.size := by have := HBW.out.size; have := H57.out; omega
      have hkeep : ∀ W, Below w8.heap.size w8 W → VRow W GT 25 TN ∧ W.rangeAt b2 (o2 + j * 2) [.int .i64 x0, .int .i64 x1] ∧ W.rangeAt b1 (o1 + j * 2) [.int .i64 x0, .int .i64 x1] := fun W h =>
        ⟨v8.below h v8.lt, fun q z hz => (h.cell (p := ⟨b2, _, none⟩) l2).trans (r2 q z hz), fun q z hz => (h.cell (p := ⟨b1, _, none⟩) l1).trans (r1 q z hz)⟩
      have HS0 := Lib.hid (hkeep w8.drew (Below.refl _ _).drew)
      have HSB := Lib.hid hkeep
      have BX := Lib.hid (show Below w8.heap.size w8 w8.drew from (Below.refl _ _).drew)
      have hwa := fun W => worth_any rate x0 x1 W hx0 hx1 hx2 hx3
      have hwb := fun W => rworth_any rate x0 x1 W hx0 hx1 hx2 hx3
      obtain ⟨WF, hWF⟩ : ∃ z, z = worthF rate x0 x1 := ⟨_, rfl⟩
      simp only [← hWF] at hwa hwb
      have K1 := Lib.hid hwa
      have K2 := Lib.hid hwb
      clear hwa hwb hWF hkeep r1 r2 v8 h1 h1' h2 h2' hx0 hx1 hx2 hx3 l1 l2 q1 q2
      go_wp2_with fail
      refine wp_region_held_drew (S := (fun w' => VRow w' GT 25 TN ∧ w'.rangeAt b2 (o2 + j * 2) [.int .i64 x0, .int .i64 x1] ∧ w'.rangeAt b1 (o1 + j * 2) [.int .i64 x0, .int .i64 x1])) (by kernel_rfl) ?_ (fun hHeld => ?_)
      · exact HS0.out
      refine wpAnyH_take (i := 0) (oi := { dst := some 31, op := Go.Op.move (Go.Operand.tmp 5), type := 29, pos := "law.go:70", after := #[], guard := none }) (v := ?av0) rfl (by kernel_rfl) (by kernel_rfl) (by kernel_rfl) (fun _ _ _ h => h) (Or.inl ⟨by rfl, ?ay0⟩) (by assumption) ?ar0
      case ay0 => (intro w hSw; (try dsimp only at hSw); go_simp; try (with_reducible rfl))
      case ar0 =>
      try simp only [Act.put, List.setIfInBounds_toArray, List.set_cons_zero, List.set_cons_succ]
      refine wpAnyH_take (i := 1) (oi := { dst := some 32, op := Go.Op.move (Go.Operand.tmp 7), type := 3, pos := "law.go:70", after := #[], guard := none }) (v := ?av1) rfl (by kernel_rfl) (by kernel_rfl) (by kernel_rfl) (fun _ _ _ h => h) (Or.inl ⟨by rfl, ?ay1⟩) (by assumption) ?ar1
      case ay1 => (intro w hSw; (try dsimp only at hSw); go_simp; try (with_reducible rfl))
      case ar1 =>
      try simp only [Act.put, List.setIfInBounds_toArray, List.set_cons_zero, List.set_cons_succ]
      refine wpAnyH_take (i := 2) (oi := { dst := some 33, op := Go.Op.indexAddr 29 (Go.Operand.tmp 31) (Go.Operand.tmp 32), type := 0, pos := "law.go:70", after := #[{ on := 0, ground := Go.Ground.data }, { on := 1, ground := Go.Ground.data }], guard := none }) (v := ?av2) rfl (by kernel_rfl) (by kernel_rfl) (by kernel_rfl) (fun _ _ _ h => h) (Or.inl ⟨by rfl, ?ay2⟩) (by assumption) ?ar2
      case ay2 => (intro w hSw; (try dsimp only at hSw); go_simp; try (with_reducible rfl))
      case ar2 =>
      try simp only [Act.put, List.setIfInBounds_toArray, List.set_cons_zero, List.set_cons_succ]
      refine wpAnyH_take (i := 3) (oi := { dst := some 34, op := Go.Op.load 35 (Go.Operand.tmp 33), type := 35, pos := "law.go:70", after := #[{ on := 2, ground := Go.Ground.data }], guard := none }) (v := (.agg #[.int .i64 x0, .int .i64 x1])) rfl (by kernel_rfl) (by kernel_rfl) (by kernel_rfl) (fun _ _ _ h => h) (yieldsIf_load_mid (by rfl) 35 (.tmp 33) rfl b2 (o2 + j * 2) rfl [.int .i64 x0, .int .i64 x1] _ (fun w' h => h.2.1) Try.underlying35 rfl (by kernel_rfl)) (by assumption) ?_
      try simp only [Act.put, List.setIfInBounds_toArray, List.set_cons_zero, List.set_cons_succ]
      refine wpAnyH_take (i := 4) (oi := { dst := some 35, op := Go.Op.fieldAddr 25 (Go.Operand.tmp 3) 2, type := 0, pos := "law.go:70", after := #[], guard := none }) (v := ?av4) rfl (by kernel_rfl) (by kernel_rfl) (by kernel_rfl) (fun _ _ _ h => h) (Or.inl ⟨by rfl, ?ay4⟩) (by assumption) ?ar4
      case ay4 => (intro w hSw; (try dsimp only at hSw); go_simp; try (with_reducible rfl))
      case ar4 =>
      try simp only [Act.put, List.setIfInBounds_toArray, List.set_cons_zero, List.set_cons_succ]
      refine wpAnyH_take (i := 5) (oi := { dst := some 36, op := Go.Op.load 2 (Go.Operand.tmp 35), type := 2, pos := "law.go:70", after := #[{ on := 4, ground := Go.Ground.data }], guard := none }) (v := (.int .i64 rate)) rfl (by kernel_rfl) (by kernel_rfl) (by kernel_rfl) (fun _ _ _ h => h) (yieldsIf_load1 (by rfl) 2 (.tmp 35) rfl rfl (fun w => by kernel_rfl) (fun w h => h.1.cell HN2.out)) (by assumption) ?_
      try simp only [Act.put, List.setIfInBounds_toArray, List.set_cons_zero, List.set_cons_succ]
      refine wpAnyH_take (i := 7) (oi := { dst := some 38, op := Go.Op.move (Go.Operand.tmp 0), type := 22, pos := "law.go:70", after := #[], guard := none }) (v := ?av7) rfl (by kernel_rfl) (by kernel_rfl) (by kernel_rfl) (fun _ _ _ h => h) (Or.inl ⟨by rfl, ?ay7⟩) (by assumption) ?ar7
      case ay7 => (intro w hSw; (try dsimp only at hSw); go_simp; try (with_reducible rfl))
      case ar7 =>
      try simp only [Act.put, List.setIfInBounds_toArray, List.set_cons_zero, List.set_cons_succ]
      refine wpAnyH_take (i := 8) (oi := { dst := some 39, op := Go.Op.move (Go.Operand.tmp 7), type := 3, pos := "law.go:70", after := #[], guard := none }) (v := ?av8) rfl (by kernel_rfl) (by kernel_rfl) (by kernel_rfl) (fun _ _ _ h => h) (Or.inl ⟨by rfl, ?ay8⟩) (by assumption) ?ar8
      case ay8 => (intro w hSw; (try dsimp only at hSw); go_simp; try (with_reducible rfl))
      case ar8 =>
      try simp only [Act.put, List.setIfInBounds_toArray, List.set_cons_zero, List.set_cons_succ]
      refine wpAnyH_take (i := 9) (oi := { dst := some 40, op := Go.Op.indexAddr 22 (Go.Operand.tmp 38) (Go.Operand.tmp 39), type := 0, pos := "law.go:70", after := #[{ on := 7, ground := Go.Ground.data }, { on := 8, ground := Go.Ground.data }], guard := none }) (v := ?av9) rfl (by kernel_rfl) (by kernel_rfl) (by kernel_rfl) (fun _ _ _ h => h) (Or.inl ⟨by rfl, ?ay9⟩) (by assumption) ?ar9
      case ay9 => (intro w hSw; (try dsimp only at hSw); go_simp; try (with_reducible rfl))
      case ar9 =>
      try simp only [Act.put, List.setIfInBounds_toArray, List.set_cons_zero, List.set_cons_succ]
      refine wpAnyH_take (i := 10) (oi := { dst := some 41, op := Go.Op.load 37 (Go.Operand.tmp 40), type := 37, pos := "law.go:70", after := #[{ on := 9, ground := Go.Ground.data }], guard := none }) (v := (.agg #[.int .i64 x0, .int .i64 x1])) rfl (by kernel_rfl) (by kernel_rfl) (by kernel_rfl) (fun _ _ _ h => h) (yieldsIf_load_mid (by rfl) 37 (.tmp 40) rfl b1 (o1 + j * 2) rfl [.int .i64 x0, .int .i64 x1] _ (fun w' h => h.2.2) Try.underlying37 rfl (by kernel_rfl)) (by assumption) ?_
      try simp only [Act.put, List.setIfInBounds_toArray, List.set_cons_zero, List.set_cons_succ]
      refine wpAnyH_take (i := 11) (oi := { dst := some 42, op := Go.Op.fieldAddr 25 (Go.Operand.tmp 3) 2, type := 0, pos := "law.go:70", after := #[], guard := none }) (v := ?av11) rfl (by kernel_rfl) (by kernel_rfl) (by kernel_rfl) (fun _ _ _ h => h) (Or.inl ⟨by rfl, ?ay11⟩) (by assumption) ?ar11
      case ay11 => (intro w hSw; (try dsimp only at hSw); go_simp; try (with_reducible rfl))
      case ar11 =>
      try simp only [Act.put, List.setIfInBounds_toArray, List.set_cons_zero, List.set_cons_succ]
      refine wpAnyH_take (i := 12) (oi := { dst := some 43, op := Go.Op.load 2 (Go.Operand.tmp 42), type := 2, pos := "law.go:70", after := #[{ on := 11, ground := Go.Ground.data }], guard := none }) (v := (.int .i64 rate)) rfl (by kernel_rfl) (by kernel_rfl) (by kernel_rfl) (fun _ _ _ h => h) (yieldsIf_load1 (by rfl) 2 (.tmp 42) rfl rfl (fun w => by kernel_rfl) (fun w h => h.1.cell HN2.out)) (by assumption) ?_
      try simp only [Act.put, List.setIfInBounds_toArray, List.set_cons_zero, List.set_cons_succ]
      refine wpAnyH_ready (rs := [6]) (by kernel_rfl) (by simp) ?_
      refine AllReadyH.cons (o := { dst := some 37, op := Go.Op.call { callee := Go.Callee.value (Go.Operand.func 10), args := #[Go.Operand.tmp 34, Go.Operand.tmp 36], argTypes := #[35, 2] }, type := 2, pos := "law.go:70", after := #[{ on := 3, ground := Go.Ground.data }, { on := 5, ground := Go.Ground.data }], guard := none }) rfl (fun K hK => ?_) (AllReadyH.nil)
      go_simp
      refine (K1.out _).mono ?_
      rintro e w9 ⟨rfl, hb⟩
      have BX := Lib.hid (BX.out.trans (hb.mono BX.out.size))
      clear hb
      refine hK.out _ _ ?_ (fun hHeld => ?_)
      · exact HSB.out _ BX.out
      clear hK K
      try simp only [Act.put, List.setIfInBounds_toArray, List.set_cons_zero, List.set_cons_succ]
      refine wpAnyH_ready (rs := [13]) (by kernel_rfl) (by simp) ?_
      refine AllReadyH.cons (o := { dst := some 44, op := Go.Op.call { callee := Go.Callee.value (Go.Operand.func 11), args := #[Go.Operand.tmp 41, Go.Operand.tmp 43], argTypes := #[37, 2] }, type := 2, pos := "law.go:70", after := #[{ on := 10, ground := Go.Ground.data }, { on := 12, ground := Go.Ground.data }, { on := 6, ground := Go.Ground.chain }], guard := none }) rfl (fun K hK => ?_) (AllReadyH.nil)
      go_simp
      refine (K2.out _).mono ?_
      rintro e w9 ⟨rfl, hb⟩
      have BX := Lib.hid (BX.out.trans (hb.mono BX.out.size))
      clear hb
      refine hK.out _ _ ?_ (fun hHeld => ?_)
      · exact HSB.out _ BX.out
      clear hK K
      try simp only [Act.put, List.setIfInBounds_toArray, List.set_cons_zero, List.set_cons_succ]
      refine wpAnyH_take (i := 14) (oi := { dst := some 45, op := Go.Op.binOp Go.BinOp.neq 2 (Go.Operand.tmp 37) (Go.Operand.tmp 44) 2, type := 4, pos := "law.go:70", after := #[{ on := 6, ground := Go.Ground.data }, { on := 13, ground := Go.Ground.data }], guard := none }) (v := (.bool false)) rfl (by kernel_rfl) (by kernel_rfl) (by kernel_rfl) (fun _ _ _ h => h) (Or.inl ⟨by rfl, ?a_6_13y14⟩) (by assumption) ?a_6_13r14
      case a_6_13y14 => (intro w hSw; (try dsimp only at hSw); go_simp; try (simp))
      case a_6_13r14 =>
      try simp only [Act.put, List.setIfInBounds_toArray, List.set_cons_zero, List.set_cons_succ]
      refine wpAnyH_done (by kernel_rfl) ?_ _
      go_wp2_with fail
      exact ⟨⟨j + 1, hlt, by first | rfl | exact next (by omega), Lib.hid (HBW.out.trans (BX.out.mono HBW.out.size))⟩, by first | exact meas hlt (by omega) | (show nX - ((j : Int) + 1).toNat < nX - (j : Int).toNat; omega)⟩
    · as_aux_lemma =>
      have dj : decide ((j : Int) < (nX : Int)) = false := decide_eq_false (by omega)
      have hrx : CrR w8 B (.slice A' nX c') l' := RowR.below RX.out (HBW.out.mono HB7.out)
      have hux : CrR w8 G6 (.slice Au nX cu) l' := RowR.below UX.out (HBW.out.mono H57.out)
      have v8 := VT.out.below HBW.out VT.out.lt
      have v6 := V6.out.below HBW.out V6.out.lt
      have hB8 : B ≤ w8.heap.size := Nat.le_trans HB7.out HBW.out.size
      have hG8 : G6 ≤ w8.heap.size := Nat.le_trans H57.out HBW.out.size
      go_wp2_with (first
        | (refine wpList_load_vrow rfl 30 (.tmp 6) rfl rfl v6 Try.underlying30 HNT.out ?_)
        | (go_at_call 12; refine (HLG.out _ _ _ hux hG8).mono ?_; rintro e w9 ⟨p1, rfl, hp1, hb9⟩; have v9 := v8.below hb9 v8.lt)
        | (refine wpList_load_vrow rfl 25 (.tmp 3) rfl rfl v9 Try.underlying25 HNL.out ?_)
        | (go_at_call 13; refine (HRL.out _ _ (RowR.below hrx (hb9.mono hB8)) (Nat.le_trans hB8 hb9.size)).mono ?_; rintro e w10 ⟨p2, rfl, hp2, hb10⟩)
        | (go_at_call 14; refine (same_any w10.heap.size p1 p2 _ _ w10 (ints_more (Ints.below hp1 hb10) hb10.size) hp2 (Nat.le_refl _)).mono ?_; rintro e w11 ⟨rfl, hb11⟩)
        | (go_at_call 15; refine (kept_any w8.heap.size _ _ l' w11 (RowR.more (RowR.below (RowR.below (RowR.below hux (hb9.mono hG8)) (hb10.mono (Nat.le_trans hG8 hb9.size))) (hb11.mono (Nat.le_trans hG8 (Nat.le_trans hb9.size hb10.size)))) hG8) (RowR.more (RowR.below (RowR.below (RowR.below hrx (hb9.mono hB8)) (hb10.mono (Nat.le_trans hB8 hb9.size))) (hb11.mono (Nat.le_trans hB8 (Nat.le_trans hb9.size hb10.size)))) hB8) (Nat.le_trans hb9.size (Nat.le_trans hb10.size hb11.size))).mono ?_; rintro e w12 ⟨rfl, hb12⟩))
      go_ret
      exact ⟨rfl, BW.out.trans ((HBW.out.trans ((hb9.trans ((hb10.trans ((hb11.trans (hb12.mono hb11.size)).mono hb10.size)).mono hb9.size)).mono HBW.out.size)).mono BW.out.size)⟩
end Go.Proofs.Ytammeedmccblcaa.Cs
