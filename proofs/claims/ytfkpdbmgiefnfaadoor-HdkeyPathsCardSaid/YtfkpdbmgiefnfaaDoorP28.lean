/-
  Texts joined: HkLawM, HkOpen, HkNum. Conditions: those of each.
-/
import Derived.Test.YtfkpdbmgiefnfaaDoorP21
import Derived.Test.YtfkpdbmgiefnfaaDoorP27
import Derived.Test.YtfkpdbmgiefnfaaDoorRows
import Derived.Test.YtfkpdbmgiefnfaaDoorCards
import Derived.Test.YtfkpdbmgiefnfaaDoorTie
import Derived.SevenTiedAt
import Derived.ChangeSame
import Derived.JoinedOf
import Derived.JoinedAt
import Derived.LaidMore
import Derived.LaidHandle
import Derived.Stop.Joined
import Derived.Deep.Slices
import Derived.Deep.Fields
import Derived.ProofKit
import Derived.OpenShut
import Derived.ChangeOld
import Derived.SizedLaws
import Derived.ChangeMaps5
import Derived.Lib.LaidTab
/-
  HdkeyMasters, walked: it returns true. Conditions: the roots, curve.order and the powers of ten are laid.
-/
namespace Go.Proofs.YtfkpdbmgiefnfaaDoor.Hk
open Go.RowKit

theorem byt_first {w : World} {B c n : Nat} {A : Option Addr} {xs : List UInt8} (h : Byt w B (.slice A n c) xs) {k : Nat} (hk : k ≤ xs.length) : Byt w B (.slice A k c) (xs.take k) := by
  obtain ⟨A', c', e, h1, h2, h3, h4⟩ := h
  injection e with e1 e2 e3
  subst e1 e3
  have hl : (xs.take k).length = k := by rw [List.length_take]; omega
  refine ⟨_, _, by rw [hl], by omega, h2, fun hA => ?_, fun hne => ?_⟩
  · obtain ⟨rfl, hc⟩ := h3 hA
    exact ⟨by simp, hc⟩
  · obtain ⟨b, o, e, hb, hc⟩ := h4 (by rintro rfl; simp at hne)
    refine ⟨b, o, e, hb, fun j u hu => hc j u ?_⟩
    rw [List.getElem?_take] at hu
    split at hu
    · exact hu
    · cases hu

theorem vrow_all {w : World} {g : Nat} {t : TypeId} {vs : List Value} (h : VRow w g t vs) : w.rangeAt g 0 vs := fun j v hv => by
  rw [Nat.zero_add]
  exact h.cell hv
theorem masterC_key (seed : List UInt8) : ∃ c d : List UInt8, c.length = 32 ∧ d.length = 33 ∧ masterC seed = keyC c d := by
  unfold masterC
  split
  · exact ⟨_, _, lastH_length seed, by rw [List.length_cons, firstH_length], rfl⟩
  · exact ⟨List.replicate 32 0, List.replicate 33 0, by simp, by simp, rfl⟩

set_option maxRecDepth 100000 in
set_option maxHeartbeats 12800000 in
theorem masters_law (B : Nat) (v : Value) (xs : List UInt8) (w : World) (hr : Roots w) (ho : OrdIs w) (ht : Lib.TabIs Tryd.prog w "internal/strconv.uint64pow10" .u64 Lib.pow10Tab) (hx : Byt w B v xs) (hB : B ≤ w.heap.size) :
    Calls Tryd.prog 3 #[v] w fun e w' => e = .returned (.bool true) ∧ Below w.heap.size w w' := by
  obtain ⟨A, c, rfl⟩ := hx.form
  have AW := Lib.hid (awake_any w hr ho ht)
  have HX := Lib.hid hx
  have HR := Lib.hid hr
  have HO := Lib.hid ho
  have HBB := Lib.hid hB
  have z1 := zero_key
  have z2 := zero_rkey
  have ZL := Lib.hid (show zeroC.length = 71 from rfl)
  obtain ⟨ZC, hZC⟩ : ∃ l, l = zeroC := ⟨_, rfl⟩
  rw [← hZC] at z1 z2 ZL
  clear hx hr ho ht hB hZC
  by_cases h100 : 100 < xs.length
  · have d1 : decide (100 < (xs.length : Int)) = true := decide_eq_true (by omega)
    obtain ⟨ks, hks⟩ : ∃ ks, ks = xs.take 100 := ⟨_, rfl⟩
    have hkl : ks.length = 100 := by rw [hks, List.length_take]; omega
    have bk : Byt w B (.slice A 100 c) ks := by rw [hks]; exact byt_first HX.out (by omega)
    have BK := Lib.hid bk
    have KL := Lib.hid hkl
    have hb1 : (100 : Int) ≤ (c : Int) := by
      obtain ⟨_, _, e, h1, _⟩ := bk
      obtain ⟨_, _, e3⟩ := Value.slice.inj e
      omega
    clear hks hkl bk
    go_enter Tryd.func3, Tryd.ntmps3
    go_wp2_with fail
    refine AW.out.mono ?_
    rintro e w1 ⟨rfl, hb1⟩
    go_wp2_with fail
    refine (spare_any B (.slice A 100 c) ks w1 (BK.out.below (hb1.mono HBB.out)) (by have := hb1.size; have := HBB.out; omega) (by have := KL.out; omega)).mono ?_
    rintro e w2 ⟨rfl, hrow, hb2⟩
    have hin := hrow.byt (n := ks.length) (c := ks.length + 9) (by rw [tinted_length]; omega) (by omega) (by have := KL.out; unfold maxLen; omega)
    have htk : (tinted ks).take ks.length = ks := by unfold tinted; rw [List.take_left']; rfl
    rw [htk] at hin
    have hall := hrow.byt (n := ks.length + 9) (c := ks.length + 9) (by rw [tinted_length]; omega) (by omega) (by have := KL.out; unfold maxLen; omega)
    rw [List.take_of_length_le (by rw [tinted_length]; omega)] at hall
    have hlt2 := hrow.lt
    have c2 := hb1.trans (hb2.mono hb1.size)
    have or2 := BK.out.below (c2.mono HBB.out)
    have MS := Lib.hid (master_any _ _ ks w2 hin (by omega) (HR.out.below c2) (HO.out.below c2 HO.out.1))
    have RM := fun W (hW : Byt W B (.slice A 100 c) ks) (hW2 : B ≤ W.heap.size) => rmaster_any B (.slice A 100 c) ks W hW hW2
    obtain ⟨kc, kd, hkc, hkd, hKK⟩ := masterC_key ks
    have TD := fun W => told_any kc kd W hkc hkd
    have EQ := fun W => eq_key kc kd hkc hkd W
    have kl := keyC_length hkc hkd
    have k1 := keyC_one kc kd
    rw [← hKK] at TD EQ kl k1
    obtain ⟨KC, hKC⟩ : ∃ l, l = masterC ks := ⟨_, rfl⟩
    obtain ⟨me, hme⟩ : ∃ l, l = masterE ks := ⟨_, rfl⟩
    rw [← hKC] at TD EQ kl k1 MS RM
    rw [← hme] at MS RM
    have IK := Lib.hid (show (Tryd.prog.info? 31).map (·.size) = some KC.length by rw [kl]; exact info_key)
    have IR := Lib.hid (show (Tryd.prog.info? 35).map (·.size) = some KC.length by rw [kl]; exact info_rkey)
    have LK := Lib.hid (show ZC.length = KC.length by rw [kl, ZL.out])
    have OK := Lib.hid k1
    have RMH := Lib.hid RM
    have TDH := Lib.hid TD
    have WH2 := Lib.hid hall
    have OR2 := Lib.hid or2
    have C2 := Lib.hid c2
    have HLT2 := Lib.hid hlt2
    clear hrow hb2 hin htk hall c2 or2 RM TD hkc hkd hKK kl k1 hKC hme hb1 hlt2 AW
    go_wp2_with fail
    refine MS.out.mono ?_
    rintro e w3 ⟨rfl, hb3⟩
    have v3 := VRow.new w3 31 ZC
    have v4 := v3.setRow KC
    have b4 : Below w2.heap.size w2 ((w3.alloc (.cells ZC.toArray 31)).setRow w3.heap.size KC.toArray) := below_setRow (hb3.alloc hb3.size _) hb3.size _
    have V3 := Lib.hid v3
    have hs3 := hb3.size
    clear hb3 v3 MS
    go_upto_region 7 with (refine wpList_store_vrow rfl 31 (.tmp 5) (.tmp 24) rfl (g := w3.heap.size) (t := 31) (vs := ZC) (us := KC) rfl rfl V3.out IK.out LK.out OK.out ?_)
    change Code.wp _ _ _ _ ((w3.alloc (.cells ZC.toArray 31)).setRow w3.heap.size KC.toArray)
    obtain ⟨w4, hw4⟩ : ∃ z, z = (w3.alloc (.cells ZC.toArray 31)).setRow w3.heap.size KC.toArray := ⟨_, rfl⟩
    rw [← hw4] at v4 b4 ⊢
    obtain ⟨G5, hG5⟩ : ∃ g, g = w3.heap.size := ⟨_, rfl⟩
    rw [← hG5] at v4 ⊢
    have hB2 : B ≤ w2.heap.size := by have := C2.out.size; have := HBB.out; omega
    have or4 := OR2.out.below (b4.mono hB2)
    have wh4 := WH2.out.below (b4.mono (by have := HLT2.out; omega))
    have c4 := C2.out.trans (b4.mono C2.out.size)
    have RM4 := Lib.hid (RMH.out w4 or4 (by have := b4.size; omega))
    have V4 := Lib.hid v4
    have OR4 := Lib.hid or4
    have WH4 := Lib.hid wh4
    have C4 := Lib.hid c4
    have hs4 := b4.size
    clear hw4 hG5 v4 b4 or4 wh4 c4 V3 OR2 WH2 C2 RMH hs3
    try dsimp only [Act.put]
    go_wp2_with fail
    refine RM4.out.mono ?_
    rintro e w5 ⟨rfl, hb5⟩
    have v5 := V4.out.below hb5 V4.out.lt
    have u5 := VRow.new w5 35 ZC
    have u6 := u5.setRow KC
    have b6 : Below w4.heap.size w4 ((w5.alloc (.cells ZC.toArray 35)).setRow w5.heap.size KC.toArray) := below_setRow (hb5.alloc hb5.size _) hb5.size _
    have U5 := Lib.hid u5
    clear hb5 v5 u5 RM4
    go_upto_region 8 with (refine wpList_store_vrow rfl 35 (.tmp 7) (.tmp 29) rfl (g := w5.heap.size) (t := 35) (vs := ZC) (us := KC) rfl rfl U5.out IR.out LK.out OK.out ?_)
    change Code.wp _ _ _ _ ((w5.alloc (.cells ZC.toArray 35)).setRow w5.heap.size KC.toArray)
    obtain ⟨w6, hw6⟩ : ∃ z, z = (w5.alloc (.cells ZC.toArray 35)).setRow w5.heap.size KC.toArray := ⟨_, rfl⟩
    rw [← hw6] at u6 b6 ⊢
    obtain ⟨G7, hG7⟩ : ∃ g, g = w5.heap.size := ⟨_, rfl⟩
    rw [← hG7] at u6 ⊢
    have hB4 : B ≤ w4.heap.size := by omega
    have V6 := Lib.hid (V4.out.below b6 V4.out.lt)
    have U6 := Lib.hid u6
    have OR6 := Lib.hid (OR4.out.below (b6.mono hB4))
    have WH6 := Lib.hid (WH4.out.below (b6.mono (by have := HLT2.out; omega)))
    have C6 := Lib.hid (C4.out.trans (b6.mono C4.out.size))
    have IK1 := Lib.hid (show (Tryd.prog.info? 31).map (·.size) = some KC.length from IK.out)
    have hs6 := b6.size
    have hK6 : w2.heap.size ≤ w6.heap.size := by omega
    have HK6 := Lib.hid hK6
    have HB6 := Lib.hid (show B ≤ w6.heap.size by omega)
    clear hw6 hG7 u6 b6 U5 V4 OR4 WH4 C4 hs4 hs6 hK6 hB2 hB4
    try dsimp only [Act.put]
    have TD6 := Lib.hid (TDH.out w6.drew)
    clear TDH
    go_wp2_with fail
    refine wp_region_held_drew (S := (fun w' => VRow w' G5 31 KC ∧ VRow w' G7 35 KC)) (by kernel_rfl) ?_ (fun hHeld => ?_)
    · exact ⟨V6.out, U6.out⟩
    refine wpAnyH_take (i := 0) (oi := { dst := some 31, op := Go.Op.load 31 (Go.Operand.tmp 5), type := 31, pos := "law.go:37", after := #[], guard := none }) (v := (.agg KC.toArray)) rfl (by kernel_rfl) (by kernel_rfl) (by kernel_rfl) (fun _ _ _ h => h) (yieldsIf_load_mid (by rfl) 31 (.tmp 5) rfl G5 0 rfl KC _ (fun w' h => vrow_all h.1) Tryd.underlying31 rfl IK.out) (by assumption) ?_
    try simp only [Act.put, List.setIfInBounds_toArray, List.set_cons_zero, List.set_cons_succ]
    refine wpAnyH_take (i := 2) (oi := { dst := some 33, op := Go.Op.load 35 (Go.Operand.tmp 7), type := 35, pos := "law.go:37", after := #[], guard := none }) (v := (.agg KC.toArray)) rfl (by kernel_rfl) (by kernel_rfl) (by kernel_rfl) (fun _ _ _ h => h) (yieldsIf_load_mid (by rfl) 35 (.tmp 7) rfl G7 0 rfl KC _ (fun w' h => vrow_all h.2) Tryd.underlying35 rfl IR.out) (by assumption) ?_
    try simp only [Act.put, List.setIfInBounds_toArray, List.set_cons_zero, List.set_cons_succ]
    refine wpAnyH_ready (rs := [1]) (by kernel_rfl) (by simp) ?_
    refine AllReadyH.cons (o := { dst := some 32, op := Go.Op.call { callee := Go.Callee.value (Go.Operand.func 9), args := #[Go.Operand.tmp 31], argTypes := #[31] }, type := 35, pos := "law.go:37", after := #[{ on := 0, ground := Go.Ground.data }], guard := none }) rfl (fun K hK => ?_) (AllReadyH.nil)
    go_simp
    refine TD6.out.mono ?_
    rintro e w7 ⟨rfl, hb7⟩
    have HV7 := Lib.hid (show VRow w7 G5 31 KC from VRow.below (w := w6.drew) V6.out hb7 V6.out.lt)
    have HU7 := Lib.hid (show VRow w7 G7 35 KC from VRow.below (w := w6.drew) U6.out hb7 U6.out.lt)
    have wh7 : Byt w7 w2.heap.size (.slice (some ⟨w1.heap.size, 0, none⟩) (ks.length + 9) (ks.length + 9)) (tinted ks) := Byt.below (w := w6.drew) WH6.out (hb7.mono HK6.out)
    have or7 : Byt w7 B (.slice A 100 c) ks := Byt.below (w := w6.drew) OR6.out (hb7.mono HB6.out)
    have c7 := C6.out.drew.trans (hb7.mono C6.out.drew.size)
    have KP := Lib.hid (kept_yes _ B _ _ ks w7 wh7 or7 (by have := KL.out; omega))
    have C7 := Lib.hid c7
    clear hb7 wh7 or7 c7
    refine hK.out _ _ ?_ (fun hHeld => ?_)
    · exact ⟨HV7.out, HU7.out⟩
    clear hK K
    try simp only [Act.put, List.setIfInBounds_toArray, List.set_cons_zero, List.set_cons_succ]
    refine wpAnyH_take (i := 3) (oi := { dst := some 34, op := Go.Op.binOp Go.BinOp.eql 35 (Go.Operand.tmp 32) (Go.Operand.tmp 33) 35, type := 4, pos := "law.go:37", after := #[{ on := 1, ground := Go.Ground.data }, { on := 2, ground := Go.Ground.data }], guard := none }) (v := (.bool true)) rfl (by kernel_rfl) (by kernel_rfl) (by kernel_rfl) (fun _ _ _ h => h) (Or.inl ⟨by rfl, ?a_1y3⟩) (by assumption) ?a_1r3
    case a_1y3 => (intro w hSw; (try dsimp only at hSw); go_simp; try (with_reducible rfl))
    case a_1r3 =>
    try simp only [Act.put, List.setIfInBounds_toArray, List.set_cons_zero, List.set_cons_succ]
    refine wpAnyH_take (i := 4) (oi := { dst := some 35, op := Go.Op.move (Go.Operand.tmp 34), type := 4, pos := "law.go:37", after := #[{ on := 3, ground := Go.Ground.data }, { on := 1, ground := Go.Ground.chain }], guard := none }) (v := ?a_1v4) rfl (by kernel_rfl) (by kernel_rfl) (by kernel_rfl) (fun _ _ _ h => h) (Or.inl ⟨by rfl, ?a_1y4⟩) (by assumption) ?a_1r4
    case a_1y4 => (intro w hSw; (try dsimp only at hSw); go_simp; try (with_reducible rfl))
    case a_1r4 =>
    try simp only [Act.put, List.setIfInBounds_toArray, List.set_cons_zero, List.set_cons_succ]
    refine wpAnyH_take (i := 5) (oi := { dst := some 36, op := Go.Op.move (Go.Operand.tmp 6), type := 32, pos := "law.go:37", after := #[{ on := 4, ground := Go.Ground.guard }], guard := some (4, true) }) (v := ?a_1v5) rfl (by kernel_rfl) (by kernel_rfl) (by kernel_rfl) (fun _ _ _ h => h) (Or.inl ⟨by rfl, ?a_1y5⟩) (by assumption) ?a_1r5
    case a_1y5 => (intro w hSw; (try dsimp only at hSw); go_simp; try (with_reducible rfl))
    case a_1r5 =>
    try simp only [Act.put, List.setIfInBounds_toArray, List.set_cons_zero, List.set_cons_succ]
    refine wpAnyH_take (i := 6) (oi := { dst := some 37, op := Go.Op.move (Go.Operand.tmp 8), type := 3, pos := "law.go:37", after := #[{ on := 4, ground := Go.Ground.guard }], guard := some (4, true) }) (v := ?a_1v6) rfl (by kernel_rfl) (by kernel_rfl) (by kernel_rfl) (fun _ _ _ h => h) (Or.inl ⟨by rfl, ?a_1y6⟩) (by assumption) ?a_1r6
    case a_1y6 => (intro w hSw; (try dsimp only at hSw); go_simp; try (with_reducible rfl))
    case a_1r6 =>
    try simp only [Act.put, List.setIfInBounds_toArray, List.set_cons_zero, List.set_cons_succ]
    refine wpAnyH_take (i := 7) (oi := { dst := some 38, op := Go.Op.binOp Go.BinOp.eql 3 (Go.Operand.tmp 36) (Go.Operand.tmp 37) 3, type := 4, pos := "law.go:37", after := #[{ on := 5, ground := Go.Ground.data }, { on := 6, ground := Go.Ground.data }, { on := 4, ground := Go.Ground.guard }], guard := some (4, true) }) (v := (.bool true)) rfl (by kernel_rfl) (by kernel_rfl) (by kernel_rfl) (fun _ _ _ h => h) (Or.inl ⟨by rfl, ?a_1y7⟩) (by assumption) ?a_1r7
    case a_1y7 => (intro w hSw; (try dsimp only at hSw); go_simp; try (simp))
    case a_1r7 =>
    try simp only [Act.put, List.setIfInBounds_toArray, List.set_cons_zero, List.set_cons_succ]
    refine wpAnyH_take (i := 8) (oi := { dst := some 39, op := Go.Op.pick (Go.Operand.tmp 35) (Go.Operand.tmp 38) (Go.Operand.const (Go.Value.bool false)), type := 4, pos := "law.go:37", after := #[{ on := 4, ground := Go.Ground.data }, { on := 7, ground := Go.Ground.data }], guard := none }) (v := ?a_1v8) rfl (by kernel_rfl) (by kernel_rfl) (by kernel_rfl) (fun _ _ _ h => h) (Or.inl ⟨by rfl, ?a_1y8⟩) (by assumption) ?a_1r8
    case a_1y8 => (intro w hSw; (try dsimp only at hSw); go_simp; try (with_reducible rfl))
    case a_1r8 =>
    try simp only [Act.put, List.setIfInBounds_toArray, List.set_cons_zero, List.set_cons_succ]
    refine wpAnyH_take (i := 9) (oi := { dst := some 40, op := Go.Op.move (Go.Operand.tmp 39), type := 4, pos := "law.go:37", after := #[{ on := 8, ground := Go.Ground.data }, { on := 4, ground := Go.Ground.chain }], guard := none }) (v := ?a_1v9) rfl (by kernel_rfl) (by kernel_rfl) (by kernel_rfl) (fun _ _ _ h => h) (Or.inl ⟨by rfl, ?a_1y9⟩) (by assumption) ?a_1r9
    case a_1y9 => (intro w hSw; (try dsimp only at hSw); go_simp; try (with_reducible rfl))
    case a_1r9 =>
    try simp only [Act.put, List.setIfInBounds_toArray, List.set_cons_zero, List.set_cons_succ]
    refine wpAnyH_take (i := 10) (oi := { dst := some 41, op := Go.Op.move (Go.Operand.tmp 4), type := 22, pos := "law.go:37", after := #[{ on := 9, ground := Go.Ground.guard }], guard := some (9, true) }) (v := ?a_1v10) rfl (by kernel_rfl) (by kernel_rfl) (by kernel_rfl) (fun _ _ _ h => h) (Or.inl ⟨by rfl, ?a_1y10⟩) (by assumption) ?a_1r10
    case a_1y10 => (intro w hSw; (try dsimp only at hSw); go_simp; try (with_reducible rfl))
    case a_1r10 =>
    try simp only [Act.put, List.setIfInBounds_toArray, List.set_cons_zero, List.set_cons_succ]
    refine wpAnyH_take (i := 11) (oi := { dst := some 42, op := Go.Op.move (Go.Operand.tmp 0), type := 22, pos := "law.go:37", after := #[{ on := 9, ground := Go.Ground.guard }], guard := some (9, true) }) (v := ?a_1v11) rfl (by kernel_rfl) (by kernel_rfl) (by kernel_rfl) (fun _ _ _ h => h) (Or.inl ⟨by rfl, ?a_1y11⟩) (by assumption) ?a_1r11
    case a_1y11 => (intro w hSw; (try dsimp only at hSw); go_simp; try (with_reducible rfl))
    case a_1r11 =>
    try simp only [Act.put, List.setIfInBounds_toArray, List.set_cons_zero, List.set_cons_succ]
    refine wpAnyH_ready (rs := [12]) (by kernel_rfl) (by simp) ?_
    refine AllReadyH.cons (o := { dst := some 43, op := Go.Op.call { callee := Go.Callee.value (Go.Operand.func 10), args := #[Go.Operand.tmp 41, Go.Operand.tmp 42], argTypes := #[22, 22] }, type := 4, pos := "law.go:37", after := #[{ on := 10, ground := Go.Ground.data }, { on := 11, ground := Go.Ground.data }, { on := 9, ground := Go.Ground.chain }, { on := 9, ground := Go.Ground.guard }], guard := some (9, true) }) rfl (fun K hK => ?_) (AllReadyH.nil)
    go_simp
    refine KP.out.mono ?_
    rintro e w8 ⟨rfl, k8, rfl⟩
    refine hK.out _ _ ?_ (fun hHeld => ?_)
    · exact ⟨HV7.out, HU7.out⟩
    clear hK K
    try simp only [Act.put, List.setIfInBounds_toArray, List.set_cons_zero, List.set_cons_succ]
    refine wpAnyH_take (i := 13) (oi := { dst := some 44, op := Go.Op.pick (Go.Operand.tmp 40) (Go.Operand.tmp 43) (Go.Operand.const (Go.Value.bool false)), type := 4, pos := "law.go:37", after := #[{ on := 9, ground := Go.Ground.data }, { on := 12, ground := Go.Ground.data }], guard := none }) (v := ?a_1_12v13) rfl (by kernel_rfl) (by kernel_rfl) (by kernel_rfl) (fun _ _ _ h => h) (Or.inl ⟨by rfl, ?a_1_12y13⟩) (by assumption) ?a_1_12r13
    case a_1_12y13 => (intro w hSw; (try dsimp only at hSw); go_simp; try (with_reducible rfl))
    case a_1_12r13 =>
    try simp only [Act.put, List.setIfInBounds_toArray, List.set_cons_zero, List.set_cons_succ]
    refine wpAnyH_take (i := 14) (oi := { dst := some 2, op := Go.Op.assign (Go.Operand.tmp 44), type := 4, pos := "law.go:37", after := #[{ on := 13, ground := Go.Ground.data }, { on := 12, ground := Go.Ground.chain }, { on := 0, ground := Go.Ground.phase }, { on := 1, ground := Go.Ground.phase }, { on := 2, ground := Go.Ground.phase }, { on := 3, ground := Go.Ground.phase }, { on := 4, ground := Go.Ground.phase }, { on := 5, ground := Go.Ground.phase }, { on := 6, ground := Go.Ground.phase }, { on := 7, ground := Go.Ground.phase }, { on := 8, ground := Go.Ground.phase }, { on := 9, ground := Go.Ground.phase }, { on := 10, ground := Go.Ground.phase }, { on := 11, ground := Go.Ground.phase }, { on := 12, ground := Go.Ground.phase }, { on := 13, ground := Go.Ground.phase }], guard := none }) (v := ?a_1_12v14) rfl (by kernel_rfl) (by kernel_rfl) (by kernel_rfl) (fun _ _ _ h => h) (Or.inl ⟨by rfl, ?a_1_12y14⟩) (by assumption) ?a_1_12r14
    case a_1_12y14 => (intro w hSw; (try dsimp only at hSw); go_simp; try (with_reducible rfl))
    case a_1_12r14 =>
    try simp only [Act.put, List.setIfInBounds_toArray, List.set_cons_zero, List.set_cons_succ]
    refine wpAnyH_done (by kernel_rfl) ?_ _
    go_wp2_with fail
    go_ret
    exact ⟨rfl, C7.out.trans (show Below w.heap.size w7 (w7.drewN k8) from ⟨rfl, rfl, rfl, Nat.le_refl _, fun _ _ => rfl⟩)⟩
  · have d1 : decide (100 < (xs.length : Int)) = false := decide_eq_false (by omega)
    have BK := HX
    have KL := Lib.hid (show xs.length ≤ 100 by omega)
    obtain ⟨ks, hks⟩ : ∃ ks, ks = xs := ⟨_, rfl⟩
    rw [← hks] at BK KL d1 ⊢
    clear hks h100 HX
    go_enter Tryd.func3, Tryd.ntmps3
    go_wp2_with fail
    refine AW.out.mono ?_
    rintro e w1 ⟨rfl, hb1⟩
    go_wp2_with fail
    refine (spare_any B (.slice A ks.length c) ks w1 (BK.out.below (hb1.mono HBB.out)) (by have := hb1.size; have := HBB.out; omega) (by have := KL.out; omega)).mono ?_
    rintro e w2 ⟨rfl, hrow, hb2⟩
    have hin := hrow.byt (n := ks.length) (c := ks.length + 9) (by rw [tinted_length]; omega) (by omega) (by have := KL.out; unfold maxLen; omega)
    have htk : (tinted ks).take ks.length = ks := by unfold tinted; rw [List.take_left']; rfl
    rw [htk] at hin
    have hall := hrow.byt (n := ks.length + 9) (c := ks.length + 9) (by rw [tinted_length]; omega) (by omega) (by have := KL.out; unfold maxLen; omega)
    rw [List.take_of_length_le (by rw [tinted_length]; omega)] at hall
    have hlt2 := hrow.lt
    have c2 := hb1.trans (hb2.mono hb1.size)
    have or2 := BK.out.below (c2.mono HBB.out)
    have MS := Lib.hid (master_any _ _ ks w2 hin (by omega) (HR.out.below c2) (HO.out.below c2 HO.out.1))
    have RM := fun W (hW : Byt W B (.slice A ks.length c) ks) (hW2 : B ≤ W.heap.size) => rmaster_any B (.slice A ks.length c) ks W hW hW2
    obtain ⟨kc, kd, hkc, hkd, hKK⟩ := masterC_key ks
    have TD := fun W => told_any kc kd W hkc hkd
    have EQ := fun W => eq_key kc kd hkc hkd W
    have kl := keyC_length hkc hkd
    have k1 := keyC_one kc kd
    rw [← hKK] at TD EQ kl k1
    obtain ⟨KC, hKC⟩ : ∃ l, l = masterC ks := ⟨_, rfl⟩
    obtain ⟨me, hme⟩ : ∃ l, l = masterE ks := ⟨_, rfl⟩
    rw [← hKC] at TD EQ kl k1 MS RM
    rw [← hme] at MS RM
    have IK := Lib.hid (show (Tryd.prog.info? 31).map (·.size) = some KC.length by rw [kl]; exact info_key)
    have IR := Lib.hid (show (Tryd.prog.info? 35).map (·.size) = some KC.length by rw [kl]; exact info_rkey)
    have LK := Lib.hid (show ZC.length = KC.length by rw [kl, ZL.out])
    have OK := Lib.hid k1
    have RMH := Lib.hid RM
    have TDH := Lib.hid TD
    have WH2 := Lib.hid hall
    have OR2 := Lib.hid or2
    have C2 := Lib.hid c2
    have HLT2 := Lib.hid hlt2
    clear hrow hb2 hin htk hall c2 or2 RM TD hkc hkd hKK kl k1 hKC hme hb1 hlt2 AW
    go_wp2_with fail
    refine MS.out.mono ?_
    rintro e w3 ⟨rfl, hb3⟩
    have v3 := VRow.new w3 31 ZC
    have v4 := v3.setRow KC
    have b4 : Below w2.heap.size w2 ((w3.alloc (.cells ZC.toArray 31)).setRow w3.heap.size KC.toArray) := below_setRow (hb3.alloc hb3.size _) hb3.size _
    have V3 := Lib.hid v3
    have hs3 := hb3.size
    clear hb3 v3 MS
    go_upto_region 7 with (refine wpList_store_vrow rfl 31 (.tmp 5) (.tmp 24) rfl (g := w3.heap.size) (t := 31) (vs := ZC) (us := KC) rfl rfl V3.out IK.out LK.out OK.out ?_)
    change Code.wp _ _ _ _ ((w3.alloc (.cells ZC.toArray 31)).setRow w3.heap.size KC.toArray)
    obtain ⟨w4, hw4⟩ : ∃ z, z = (w3.alloc (.cells ZC.toArray 31)).setRow w3.heap.size KC.toArray := ⟨_, rfl⟩
    rw [← hw4] at v4 b4 ⊢
    obtain ⟨G5, hG5⟩ : ∃ g, g = w3.heap.size := ⟨_, rfl⟩
    rw [← hG5] at v4 ⊢
    have hB2 : B ≤ w2.heap.size := by have := C2.out.size; have := HBB.out; omega
    have or4 := OR2.out.below (b4.mono hB2)
    have wh4 := WH2.out.below (b4.mono (by have := HLT2.out; omega))
    have c4 := C2.out.trans (b4.mono C2.out.size)
    have RM4 := Lib.hid (RMH.out w4 or4 (by have := b4.size; omega))
    have V4 := Lib.hid v4
    have OR4 := Lib.hid or4
    have WH4 := Lib.hid wh4
    have C4 := Lib.hid c4
    have hs4 := b4.size
    clear hw4 hG5 v4 b4 or4 wh4 c4 V3 OR2 WH2 C2 RMH hs3
    try dsimp only [Act.put]
    go_wp2_with fail
    refine RM4.out.mono ?_
    rintro e w5 ⟨rfl, hb5⟩
    have v5 := V4.out.below hb5 V4.out.lt
    have u5 := VRow.new w5 35 ZC
    have u6 := u5.setRow KC
    have b6 : Below w4.heap.size w4 ((w5.alloc (.cells ZC.toArray 35)).setRow w5.heap.size KC.toArray) := below_setRow (hb5.alloc hb5.size _) hb5.size _
    have U5 := Lib.hid u5
    clear hb5 v5 u5 RM4
    go_upto_region 8 with (refine wpList_store_vrow rfl 35 (.tmp 7) (.tmp 29) rfl (g := w5.heap.size) (t := 35) (vs := ZC) (us := KC) rfl rfl U5.out IR.out LK.out OK.out ?_)
    change Code.wp _ _ _ _ ((w5.alloc (.cells ZC.toArray 35)).setRow w5.heap.size KC.toArray)
    obtain ⟨w6, hw6⟩ : ∃ z, z = (w5.alloc (.cells ZC.toArray 35)).setRow w5.heap.size KC.toArray := ⟨_, rfl⟩
    rw [← hw6] at u6 b6 ⊢
    obtain ⟨G7, hG7⟩ : ∃ g, g = w5.heap.size := ⟨_, rfl⟩
    rw [← hG7] at u6 ⊢
    have hB4 : B ≤ w4.heap.size := by omega
    have V6 := Lib.hid (V4.out.below b6 V4.out.lt)
    have U6 := Lib.hid u6
    have OR6 := Lib.hid (OR4.out.below (b6.mono hB4))
    have WH6 := Lib.hid (WH4.out.below (b6.mono (by have := HLT2.out; omega)))
    have C6 := Lib.hid (C4.out.trans (b6.mono C4.out.size))
    have IK1 := Lib.hid (show (Tryd.prog.info? 31).map (·.size) = some KC.length from IK.out)
    have hs6 := b6.size
    have hK6 : w2.heap.size ≤ w6.heap.size := by omega
    have HK6 := Lib.hid hK6
    have HB6 := Lib.hid (show B ≤ w6.heap.size by omega)
    clear hw6 hG7 u6 b6 U5 V4 OR4 WH4 C4 hs4 hs6 hK6 hB2 hB4
    try dsimp only [Act.put]
    have TD6 := Lib.hid (TDH.out w6.drew)
    clear TDH
    go_wp2_with fail
    refine wp_region_held_drew (S := (fun w' => VRow w' G5 31 KC ∧ VRow w' G7 35 KC)) (by kernel_rfl) ?_ (fun hHeld => ?_)
    · exact ⟨V6.out, U6.out⟩
    refine wpAnyH_take (i := 0) (oi := { dst := some 31, op := Go.Op.load 31 (Go.Operand.tmp 5), type := 31, pos := "law.go:37", after := #[], guard := none }) (v := (.agg KC.toArray)) rfl (by kernel_rfl) (by kernel_rfl) (by kernel_rfl) (fun _ _ _ h => h) (yieldsIf_load_mid (by rfl) 31 (.tmp 5) rfl G5 0 rfl KC _ (fun w' h => vrow_all h.1) Tryd.underlying31 rfl IK.out) (by assumption) ?_
    try simp only [Act.put, List.setIfInBounds_toArray, List.set_cons_zero, List.set_cons_succ]
    refine wpAnyH_take (i := 2) (oi := { dst := some 33, op := Go.Op.load 35 (Go.Operand.tmp 7), type := 35, pos := "law.go:37", after := #[], guard := none }) (v := (.agg KC.toArray)) rfl (by kernel_rfl) (by kernel_rfl) (by kernel_rfl) (fun _ _ _ h => h) (yieldsIf_load_mid (by rfl) 35 (.tmp 7) rfl G7 0 rfl KC _ (fun w' h => vrow_all h.2) Tryd.underlying35 rfl IR.out) (by assumption) ?_
    try simp only [Act.put, List.setIfInBounds_toArray, List.set_cons_zero, List.set_cons_succ]
    refine wpAnyH_ready (rs := [1]) (by kernel_rfl) (by simp) ?_
    refine AllReadyH.cons (o := { dst := some 32, op := Go.Op.call { callee := Go.Callee.value (Go.Operand.func 9), args := #[Go.Operand.tmp 31], argTypes := #[31] }, type := 35, pos := "law.go:37", after := #[{ on := 0, ground := Go.Ground.data }], guard := none }) rfl (fun K hK => ?_) (AllReadyH.nil)
    go_simp
    refine TD6.out.mono ?_
    rintro e w7 ⟨rfl, hb7⟩
    have HV7 := Lib.hid (show VRow w7 G5 31 KC from VRow.below (w := w6.drew) V6.out hb7 V6.out.lt)
    have HU7 := Lib.hid (show VRow w7 G7 35 KC from VRow.below (w := w6.drew) U6.out hb7 U6.out.lt)
    have wh7 : Byt w7 w2.heap.size (.slice (some ⟨w1.heap.size, 0, none⟩) (ks.length + 9) (ks.length + 9)) (tinted ks) := Byt.below (w := w6.drew) WH6.out (hb7.mono HK6.out)
    have or7 : Byt w7 B (.slice A ks.length c) ks := Byt.below (w := w6.drew) OR6.out (hb7.mono HB6.out)
    have c7 := C6.out.drew.trans (hb7.mono C6.out.drew.size)
    have KP := Lib.hid (kept_yes _ B _ _ ks w7 wh7 or7 (by have := KL.out; omega))
    have C7 := Lib.hid c7
    clear hb7 wh7 or7 c7
    refine hK.out _ _ ?_ (fun hHeld => ?_)
    · exact ⟨HV7.out, HU7.out⟩
    clear hK K
    try simp only [Act.put, List.setIfInBounds_toArray, List.set_cons_zero, List.set_cons_succ]
    refine wpAnyH_take (i := 3) (oi := { dst := some 34, op := Go.Op.binOp Go.BinOp.eql 35 (Go.Operand.tmp 32) (Go.Operand.tmp 33) 35, type := 4, pos := "law.go:37", after := #[{ on := 1, ground := Go.Ground.data }, { on := 2, ground := Go.Ground.data }], guard := none }) (v := (.bool true)) rfl (by kernel_rfl) (by kernel_rfl) (by kernel_rfl) (fun _ _ _ h => h) (Or.inl ⟨by rfl, ?b_1y3⟩) (by assumption) ?b_1r3
    case b_1y3 => (intro w hSw; (try dsimp only at hSw); go_simp; try (with_reducible rfl))
    case b_1r3 =>
    try simp only [Act.put, List.setIfInBounds_toArray, List.set_cons_zero, List.set_cons_succ]
    refine wpAnyH_take (i := 4) (oi := { dst := some 35, op := Go.Op.move (Go.Operand.tmp 34), type := 4, pos := "law.go:37", after := #[{ on := 3, ground := Go.Ground.data }, { on := 1, ground := Go.Ground.chain }], guard := none }) (v := ?b_1v4) rfl (by kernel_rfl) (by kernel_rfl) (by kernel_rfl) (fun _ _ _ h => h) (Or.inl ⟨by rfl, ?b_1y4⟩) (by assumption) ?b_1r4
    case b_1y4 => (intro w hSw; (try dsimp only at hSw); go_simp; try (with_reducible rfl))
    case b_1r4 =>
    try simp only [Act.put, List.setIfInBounds_toArray, List.set_cons_zero, List.set_cons_succ]
    refine wpAnyH_take (i := 5) (oi := { dst := some 36, op := Go.Op.move (Go.Operand.tmp 6), type := 32, pos := "law.go:37", after := #[{ on := 4, ground := Go.Ground.guard }], guard := some (4, true) }) (v := ?b_1v5) rfl (by kernel_rfl) (by kernel_rfl) (by kernel_rfl) (fun _ _ _ h => h) (Or.inl ⟨by rfl, ?b_1y5⟩) (by assumption) ?b_1r5
    case b_1y5 => (intro w hSw; (try dsimp only at hSw); go_simp; try (with_reducible rfl))
    case b_1r5 =>
    try simp only [Act.put, List.setIfInBounds_toArray, List.set_cons_zero, List.set_cons_succ]
    refine wpAnyH_take (i := 6) (oi := { dst := some 37, op := Go.Op.move (Go.Operand.tmp 8), type := 3, pos := "law.go:37", after := #[{ on := 4, ground := Go.Ground.guard }], guard := some (4, true) }) (v := ?b_1v6) rfl (by kernel_rfl) (by kernel_rfl) (by kernel_rfl) (fun _ _ _ h => h) (Or.inl ⟨by rfl, ?b_1y6⟩) (by assumption) ?b_1r6
    case b_1y6 => (intro w hSw; (try dsimp only at hSw); go_simp; try (with_reducible rfl))
    case b_1r6 =>
    try simp only [Act.put, List.setIfInBounds_toArray, List.set_cons_zero, List.set_cons_succ]
    refine wpAnyH_take (i := 7) (oi := { dst := some 38, op := Go.Op.binOp Go.BinOp.eql 3 (Go.Operand.tmp 36) (Go.Operand.tmp 37) 3, type := 4, pos := "law.go:37", after := #[{ on := 5, ground := Go.Ground.data }, { on := 6, ground := Go.Ground.data }, { on := 4, ground := Go.Ground.guard }], guard := some (4, true) }) (v := (.bool true)) rfl (by kernel_rfl) (by kernel_rfl) (by kernel_rfl) (fun _ _ _ h => h) (Or.inl ⟨by rfl, ?b_1y7⟩) (by assumption) ?b_1r7
    case b_1y7 => (intro w hSw; (try dsimp only at hSw); go_simp; try (simp))
    case b_1r7 =>
    try simp only [Act.put, List.setIfInBounds_toArray, List.set_cons_zero, List.set_cons_succ]
    refine wpAnyH_take (i := 8) (oi := { dst := some 39, op := Go.Op.pick (Go.Operand.tmp 35) (Go.Operand.tmp 38) (Go.Operand.const (Go.Value.bool false)), type := 4, pos := "law.go:37", after := #[{ on := 4, ground := Go.Ground.data }, { on := 7, ground := Go.Ground.data }], guard := none }) (v := ?b_1v8) rfl (by kernel_rfl) (by kernel_rfl) (by kernel_rfl) (fun _ _ _ h => h) (Or.inl ⟨by rfl, ?b_1y8⟩) (by assumption) ?b_1r8
    case b_1y8 => (intro w hSw; (try dsimp only at hSw); go_simp; try (with_reducible rfl))
    case b_1r8 =>
    try simp only [Act.put, List.setIfInBounds_toArray, List.set_cons_zero, List.set_cons_succ]
    refine wpAnyH_take (i := 9) (oi := { dst := some 40, op := Go.Op.move (Go.Operand.tmp 39), type := 4, pos := "law.go:37", after := #[{ on := 8, ground := Go.Ground.data }, { on := 4, ground := Go.Ground.chain }], guard := none }) (v := ?b_1v9) rfl (by kernel_rfl) (by kernel_rfl) (by kernel_rfl) (fun _ _ _ h => h) (Or.inl ⟨by rfl, ?b_1y9⟩) (by assumption) ?b_1r9
    case b_1y9 => (intro w hSw; (try dsimp only at hSw); go_simp; try (with_reducible rfl))
    case b_1r9 =>
    try simp only [Act.put, List.setIfInBounds_toArray, List.set_cons_zero, List.set_cons_succ]
    refine wpAnyH_take (i := 10) (oi := { dst := some 41, op := Go.Op.move (Go.Operand.tmp 4), type := 22, pos := "law.go:37", after := #[{ on := 9, ground := Go.Ground.guard }], guard := some (9, true) }) (v := ?b_1v10) rfl (by kernel_rfl) (by kernel_rfl) (by kernel_rfl) (fun _ _ _ h => h) (Or.inl ⟨by rfl, ?b_1y10⟩) (by assumption) ?b_1r10
    case b_1y10 => (intro w hSw; (try dsimp only at hSw); go_simp; try (with_reducible rfl))
    case b_1r10 =>
    try simp only [Act.put, List.setIfInBounds_toArray, List.set_cons_zero, List.set_cons_succ]
    refine wpAnyH_take (i := 11) (oi := { dst := some 42, op := Go.Op.move (Go.Operand.tmp 0), type := 22, pos := "law.go:37", after := #[{ on := 9, ground := Go.Ground.guard }], guard := some (9, true) }) (v := ?b_1v11) rfl (by kernel_rfl) (by kernel_rfl) (by kernel_rfl) (fun _ _ _ h => h) (Or.inl ⟨by rfl, ?b_1y11⟩) (by assumption) ?b_1r11
    case b_1y11 => (intro w hSw; (try dsimp only at hSw); go_simp; try (with_reducible rfl))
    case b_1r11 =>
    try simp only [Act.put, List.setIfInBounds_toArray, List.set_cons_zero, List.set_cons_succ]
    refine wpAnyH_ready (rs := [12]) (by kernel_rfl) (by simp) ?_
    refine AllReadyH.cons (o := { dst := some 43, op := Go.Op.call { callee := Go.Callee.value (Go.Operand.func 10), args := #[Go.Operand.tmp 41, Go.Operand.tmp 42], argTypes := #[22, 22] }, type := 4, pos := "law.go:37", after := #[{ on := 10, ground := Go.Ground.data }, { on := 11, ground := Go.Ground.data }, { on := 9, ground := Go.Ground.chain }, { on := 9, ground := Go.Ground.guard }], guard := some (9, true) }) rfl (fun K hK => ?_) (AllReadyH.nil)
    go_simp
    refine KP.out.mono ?_
    rintro e w8 ⟨rfl, k8, rfl⟩
    refine hK.out _ _ ?_ (fun hHeld => ?_)
    · exact ⟨HV7.out, HU7.out⟩
    clear hK K
    try simp only [Act.put, List.setIfInBounds_toArray, List.set_cons_zero, List.set_cons_succ]
    refine wpAnyH_take (i := 13) (oi := { dst := some 44, op := Go.Op.pick (Go.Operand.tmp 40) (Go.Operand.tmp 43) (Go.Operand.const (Go.Value.bool false)), type := 4, pos := "law.go:37", after := #[{ on := 9, ground := Go.Ground.data }, { on := 12, ground := Go.Ground.data }], guard := none }) (v := ?b_1_12v13) rfl (by kernel_rfl) (by kernel_rfl) (by kernel_rfl) (fun _ _ _ h => h) (Or.inl ⟨by rfl, ?b_1_12y13⟩) (by assumption) ?b_1_12r13
    case b_1_12y13 => (intro w hSw; (try dsimp only at hSw); go_simp; try (with_reducible rfl))
    case b_1_12r13 =>
    try simp only [Act.put, List.setIfInBounds_toArray, List.set_cons_zero, List.set_cons_succ]
    refine wpAnyH_take (i := 14) (oi := { dst := some 2, op := Go.Op.assign (Go.Operand.tmp 44), type := 4, pos := "law.go:37", after := #[{ on := 13, ground := Go.Ground.data }, { on := 12, ground := Go.Ground.chain }, { on := 0, ground := Go.Ground.phase }, { on := 1, ground := Go.Ground.phase }, { on := 2, ground := Go.Ground.phase }, { on := 3, ground := Go.Ground.phase }, { on := 4, ground := Go.Ground.phase }, { on := 5, ground := Go.Ground.phase }, { on := 6, ground := Go.Ground.phase }, { on := 7, ground := Go.Ground.phase }, { on := 8, ground := Go.Ground.phase }, { on := 9, ground := Go.Ground.phase }, { on := 10, ground := Go.Ground.phase }, { on := 11, ground := Go.Ground.phase }, { on := 12, ground := Go.Ground.phase }, { on := 13, ground := Go.Ground.phase }], guard := none }) (v := ?b_1_12v14) rfl (by kernel_rfl) (by kernel_rfl) (by kernel_rfl) (fun _ _ _ h => h) (Or.inl ⟨by rfl, ?b_1_12y14⟩) (by assumption) ?b_1_12r14
    case b_1_12y14 => (intro w hSw; (try dsimp only at hSw); go_simp; try (with_reducible rfl))
    case b_1_12r14 =>
    try simp only [Act.put, List.setIfInBounds_toArray, List.set_cons_zero, List.set_cons_succ]
    refine wpAnyH_done (by kernel_rfl) ?_ _
    go_wp2_with fail
    go_ret
    exact ⟨rfl, C7.out.trans (show Below w.heap.size w7 (w7.drewN k8) from ⟨rfl, rfl, rfl, Nat.le_refl _, fun _ _ => rfl⟩)⟩
end Go.Proofs.YtfkpdbmgiefnfaaDoor.Hk

/-
  From an argument that can be read as data to bytes in memory; from the row's listed variables to the tables that the walks read; a start that meets the condition. Conditions: none.
-/
namespace Go.Proofs.YtfkpdbmgiefnfaaDoor.Hk
open Go.ChangeShapes Go.WideShapes Go.ChangeAt Go.RowKit Go.Deep

theorem b8_bv {k : Int} (h0 : 0 ≤ k) (h1 : k ≤ 255) : bv (b8 k) = .int .u8 k := bv_b8_of h0 (by omega)

theorem add_at (b o i : Nat) : (⟨b, o, none⟩ : Addr).add i = ⟨b, o + i, none⟩ := by unfold Addr.add; split <;> simp_all

theorem spot_none {w : World} {a : Addr} {v : Value} (h : w.cell? a = some v) : a = ⟨a.block, a.off, none⟩ := by
  have := World.cell?_spot h
  cases a
  simp_all

/-- A slice of bytes that came in. -/
theorem byt_open {H : Type} {enc : TypeId × Value → H} {P : Program} {w : World} {spare : Nat → Bool} {held : Bool} {fuel : Nat} {t e : TypeId} {v : Value} {x : DataW H × List MemPlace}
    (ht : P.underlying t = some (.slice e)) (he : P.underlying e = some (.int .u8)) (hc : P.cellsOf e = 1) (h : DataW.trod enc P w 0 spare held fuel t [v] = some x) : ∃ bs, Byt w w.heap.size v bs := by
  rcases open_ints ht he hc h with ⟨hcs, _⟩ | ⟨a, len, cap, zs, hcs, _, hl, hm, hz, _, hcell, hwf⟩
  · simp only [List.cons.injEq, and_true] at hcs
    subst hcs
    exact ⟨[], Byt.nil _ _⟩
  · simp only [List.cons.injEq, and_true] at hcs
    subst hcs
    have hlz : len ≤ zs.length := by rw [hz]; split <;> omega
    have hlen : ((zs.take len).map b8).length = len := by simp; omega
    refine ⟨(zs.take len).map b8, some a, cap, by rw [hlen], by rw [hlen]; exact hl, hm, (by intro h; cases h), fun hne => ?_⟩
    have hpos : 0 < len := by
      rcases Nat.eq_zero_or_pos len with h0 | h0
      · rw [h0] at hne; simp at hne
      · exact h0
    have h0 := hcell 0 (by omega)
    have hadd0 : a.add 0 = a := by unfold Addr.add; simp
    rw [hadd0] at h0
    have hsp := spot_none h0
    refine ⟨a.block, a.off, by rw [← hsp], World.block_lt_of_cell? _ _ h0, fun j u hu => ?_⟩
    have hj : j < len := by
      have := (List.getElem?_eq_some_iff.1 hu).1
      omega
    have hcj := hcell j (by omega)
    have hadd : a.add j = ⟨a.block, a.off + j, none⟩ := (congrArg (fun q : Addr => q.add j) hsp).trans (add_at _ _ _)
    rw [hadd] at hcj
    rw [hcj]
    have hzj : zs.getD j 0 = zs[j]'(by omega) := by rw [List.getD, List.getElem?_eq_getElem (show j < zs.length by omega)]; rfl
    rw [List.getElem?_map, List.getElem?_take, if_pos hj, List.getElem?_eq_getElem (by omega)] at hu
    simp at hu
    subst hu
    have hw := hwf (zs[j]'(by omega)) (List.getElem_mem _)
    rw [hzj]
    have hw2 := bounds_u8 hw
    rw [b8_bv]
    · exact hw2.1
    · have := hw2.2
      omega

theorem own : ownKnob Tryd.prog.godebug = none := by kernel_rfl
theorem laidOut : laidOutB Tryd.prog = true := by kernel_rfl

def laidL : List (String × DataW Unit) := [("math/bits.deBruijn32tab", Rows.laid_math_bits_deBruijn32tab), ("math/bits.deBruijn64tab", Rows.laid_math_bits_deBruijn64tab), ("internal/strconv.uint64pow10", Rows.laid_internal_strconv_uint64pow10), ("strongbox/hash.squareRoots", Rows.laid_strongbox_hash_squareRoots), ("strongbox/hash.cubeRoots", Rows.laid_strongbox_hash_cubeRoots), ("strongbox/curve.order", Rows.laid_strongbox_curve_order)]

theorem door_met (os : Os) (args : Array Value) : laidMetH Tryd.prog laidL ((World.doorLaid Tryd.prog 400 os).forCall (fun _ _ => 0) ⟨#[], args, []⟩).memory :=
  laidMetH_of_parts3 (fuel := 8) (laidMet_of_run' 8 (by kernel_rfl) (by kernel_rfl)) (by kernel_rfl) (by kernel_rfl)

theorem roots_of_laid {W : World} (h : laidMetH Tryd.prog laidL W) : Roots W := by
  rw [MakeChecks.laidMetH_plain _ _ _ (by kernel_rfl)] at h
  obtain ⟨ps, ⟨g0, t0, cs0, f0, p0, q0, _, _, _, _, ⟨g1, t1, cs1, f1, p1, q1, _, _, _, _, ⟨g2, t2, cs2, f2, p2, q2, _, _, _, _, ⟨g3, t3, cs3, f3, p3, q3, hg3, ht3, hv3, hd3, ⟨g4, t4, cs4, f4, p4, q4, hg4, ht4, hv4, hd4, ⟨g5, t5, cs5, f5, p5, q5, _, _, _, _, _, _⟩, _⟩, _⟩, _⟩, _⟩, _⟩, _, _⟩ := h
  obtain rfl := Option.some.inj ((show Tryd.prog.globalNamed "strongbox/hash.squareRoots" = some 0 by kernel_rfl).symm.trans hg3)
  obtain rfl := Option.some.inj ((show (Tryd.prog.globals[0]?).map (·.type) = some 90 by kernel_rfl).symm.trans ht3)
  have e3 : (Rows.laid_strongbox_hash_squareRoots : DataW Unit) = Lib.tabData .u64 s512 := by kernel_rfl
  rw [e3] at hd3
  have c3 := Lib.cells_of_tab Tryd.underlying90 Tryd.underlying57 (by kernel_rfl) (by kernel_rfl) hd3
  obtain rfl := Option.some.inj ((show Tryd.prog.globalNamed "strongbox/hash.cubeRoots" = some 2 by kernel_rfl).symm.trans hg4)
  obtain rfl := Option.some.inj ((show (Tryd.prog.globals[2]?).map (·.type) = some 103 by kernel_rfl).symm.trans ht4)
  have e4 : (Rows.laid_strongbox_hash_cubeRoots : DataW Unit) = Lib.tabData .u64 k512 := by kernel_rfl
  rw [e4] at hd4
  have c4 := Lib.cells_of_tab Tryd.underlying103 Tryd.underlying57 (by kernel_rfl) (by kernel_rfl) hd4
  have k3 : ∀ (t : Nat) (k : Int), s512[t]? = some k → W.cell? ⟨0, t, none⟩ = some (.int .u64 k) := fun t k hk => by
    have h := World.var?_cell hg3 hv3 t
    rw [h, ← Array.getElem?_toList, c3, List.getElem?_map, hk]
    rfl
  have k4 : ∀ (t : Nat) (k : Int), k512[t]? = some k → W.cell? ⟨2, t, none⟩ = some (.int .u64 k) := fun t k hk => by
    have h := World.var?_cell hg4 hv4 t
    rw [h, ← Array.getElem?_toList, c4, List.getElem?_map, hk]
    rfl
  exact ⟨⟨World.block_lt_of_cell? _ _ (k4 0 _ rfl), k4⟩, ⟨World.block_lt_of_cell? _ _ (k3 0 _ rfl), k3⟩⟩

theorem order_of_laid {W : World} (h : laidMetH Tryd.prog laidL W) : OrdIs W := by
  rw [MakeChecks.laidMetH_plain _ _ _ (by kernel_rfl)] at h
  obtain ⟨ps, ⟨g0, t0, cs0, f0, p0, q0, _, _, _, _, ⟨g1, t1, cs1, f1, p1, q1, _, _, _, _, ⟨g2, t2, cs2, f2, p2, q2, _, _, _, _, ⟨g3, t3, cs3, f3, p3, q3, _, _, _, _, ⟨g4, t4, cs4, f4, p4, q4, _, _, _, _, ⟨g5, t5, cs5, f5, p5, q5, hg5, ht5, hv5, hd5, _, _⟩, _⟩, _⟩, _⟩, _⟩, _⟩, _, _⟩ := h
  obtain rfl := Option.some.inj ((show Tryd.prog.globalNamed "strongbox/curve.order" = some 1 by kernel_rfl).symm.trans hg5)
  obtain rfl := Option.some.inj ((show (Tryd.prog.globals[1]?).map (·.type) = some 100 by kernel_rfl).symm.trans ht5)
  have e5 : (Rows.laid_strongbox_curve_order : DataW Unit) = Lib.tabData .u64 orderW := by kernel_rfl
  rw [e5] at hd5
  have c5 := Lib.cells_of_tab Tryd.underlying100 Tryd.underlying57 (by kernel_rfl) (by kernel_rfl) hd5
  have k5 : ∀ (t : Nat) (k : Int), orderW[t]? = some k → W.cell? ⟨1, t, none⟩ = some (.int .u64 k) := fun t k hk => by
    have h := World.var?_cell hg5 hv5 t
    rw [h, ← Array.getElem?_toList, c5, List.getElem?_map, hk]
    rfl
  refine ⟨World.block_lt_of_cell? _ _ (k5 0 _ rfl), fun j v hv => ?_⟩
  rw [List.getElem?_map] at hv
  cases hq : orderW[j]? with
  | none => rw [hq] at hv; cases hv
  | some z =>
    rw [hq] at hv
    obtain rfl := Option.some.inj hv
    rw [Nat.zero_add]
    exact k5 j z hq

theorem tab_of_laid {W : World} (h : laidMetH Tryd.prog laidL W) : Lib.TabIs Tryd.prog W "internal/strconv.uint64pow10" .u64 Lib.pow10Tab := by
  rw [MakeChecks.laidMetH_plain _ _ _ (by kernel_rfl)] at h
  obtain ⟨ps, ⟨g0, t0, cs0, f0, p0, q0, _, _, _, _, ⟨g1, t1, cs1, f1, p1, q1, _, _, _, _, ⟨g2, t2, cs2, f2, p2, q2, hg2, ht2, hv2, hd2, ⟨g3, t3, cs3, f3, p3, q3, _, _, _, _, ⟨g4, t4, cs4, f4, p4, q4, _, _, _, _, ⟨g5, t5, cs5, f5, p5, q5, _, _, _, _, _, _⟩, _⟩, _⟩, _⟩, _⟩, _⟩, _, _⟩ := h
  obtain rfl := Option.some.inj ((show Tryd.prog.globalNamed "internal/strconv.uint64pow10" = some 3 by kernel_rfl).symm.trans hg2)
  obtain rfl := Option.some.inj ((show (Tryd.prog.globals[3]?).map (·.type) = some 127 by kernel_rfl).symm.trans ht2)
  have e2 : (Rows.laid_internal_strconv_uint64pow10 : DataW Unit) = Lib.tabData .u64 Lib.pow10Tab := by kernel_rfl
  rw [e2] at hd2
  have c2 := Lib.cells_of_tab Tryd.underlying127 Tryd.underlying57 (by kernel_rfl) (by kernel_rfl) hd2
  unfold Lib.TabIs
  rw [hv2]
  congr 1
  apply Array.toList_inj.1
  rw [c2]
end Go.Proofs.YtfkpdbmgiefnfaaDoor.Hk

/-
  hdkey.isNumber, walked: digits alone, without leading zeros. Conditions: a text within the reach.
-/
namespace Go.Proofs.YtfkpdbmgiefnfaaDoor.Hk
open Go.RowKit

def dB (c : UInt8) : Bool := decide (48 ≤ c.toNat) && decide (c.toNat ≤ 57)
/-- Is it a number's text? -/
def numOk (l : List UInt8) : Bool := l.all dB && (l == [48] || (!l.isEmpty && l.head? != some 48))
theorem blen (s : ByteArray) : s.data.toList.length = s.size := by simp
theorem take_snocB (s : ByteArray) (k : Nat) (h : k < s.size) : s.data.toList.take (k + 1) = s.data.toList.take k ++ [s[k]] := by
  rw [List.take_succ_eq_append_getElem (by rw [blen]; exact h)]; rfl
theorem all_noB (s : ByteArray) (k : Nat) (h : k < s.size) (hd : dB s[k] = false) : s.data.toList.all dB = false := by
  have hm : s[k] ∈ s.data.toList := by
    have : s[k] = s.data.toList[k]'(by rw [blen]; exact h) := rfl
    rw [this]; exact List.getElem_mem _
  cases ha : s.data.toList.all dB with
  | false => rfl
  | true => rw [List.all_eq_true.1 ha _ hm] at hd; cases hd

set_option maxRecDepth 100000 in
set_option maxHeartbeats 1600000 in
theorem isNumber_any (s : ByteArray) (w : World) (hs : s.size ≤ 100000) :
    Calls Tryd.prog 40 #[.string s] w fun e w' => e = .returned (.bool (numOk s.data.toList)) ∧ w = w' := by
  go_enter Tryd.func40, Tryd.ntmps40
  go_wp2_with fail
  go_loop [6] (fun i => ∃ k : Nat, k ≤ s.size ∧ i = .int .i64 k ∧ Hid ((s.data.toList.take k).all dB = true)) (fun i => s.size - (intOf i).toNat)
  case atStart => exact ⟨0, Nat.zero_le _, rfl, Lib.hid (by simp)⟩
  case round =>
    obtain ⟨k, hk, rfl, hr⟩ := hrel
    by_cases hlt : k < s.size
    · have hsn := take_snocB s k hlt
      have hno := all_noB s k hlt
      obtain ⟨z, hz⟩ : ∃ z, z = s[k] := ⟨_, rfl⟩
      rw [← hz] at hsn hno
      have HSN := Lib.hid hsn
      have HNO := Lib.hid hno
      have HZ := Lib.hid hz
      clear hsn hno hz
      by_cases h1 : (s[k].toNat : Int) < 48
      · go_wp2
        go_ret
        exact ⟨congrArg (fun b => Ending.returned (Value.bool b)) (by unfold numOk; rw [HNO.out (by rw [HZ.out]; unfold dB; simp; omega)]; rfl), rfl⟩
      by_cases h2 : 57 < (s[k].toNat : Int)
      · go_wp2
        go_ret
        exact ⟨congrArg (fun b => Ending.returned (Value.bool b)) (by unfold numOk; rw [HNO.out (by rw [HZ.out]; unfold dB; simp; omega)]; rfl), rfl⟩
      · go_wp2
        refine ⟨⟨k + 1, by omega, by go_num, Lib.hid ?_⟩, by simp [intOf]; omega⟩
        rw [HSN.out, List.all_append, hr.out, HZ.out]
        have : dB s[k] = true := by unfold dB; simp; omega
        simp [this]
    · have hall : s.data.toList.all dB = true := by
        have h := hr.out
        rw [List.take_of_length_le (by rw [blen]; omega)] at h
        exact h
      have HALL := Lib.hid hall
      clear hall hr
      by_cases he : s.toList = [48]
      · have hE : s.data.toList = [48] := by rw [← ByteArray.toList_eq]; exact he
        have HE := Lib.hid hE
        have e1 : (s.toList == [48]) = true := by rw [he]; rfl
        clear hE he
        go_wp2_with fail
        go_ret
        exact ⟨congrArg (fun b => Ending.returned (Value.bool b)) (by unfold numOk; rw [HALL.out, HE.out]; rfl), rfl⟩
      · have e1 : (s.toList == [48]) = false := by simpa using he
        have hE : (s.data.toList == [48]) = false := by rw [← ByteArray.toList_eq]; exact e1
        have HE := Lib.hid hE
        clear he hE
        by_cases hz : s.size = 0
        · have e2 : s.toList.isEmpty = true := by rw [ByteArray.toList_eq, List.isEmpty_iff]; exact List.eq_nil_of_length_eq_zero (by rw [blen]; exact hz)
          have HZ := Lib.hid (show s.data.toList.isEmpty = true by rw [← ByteArray.toList_eq]; exact e2)
          clear hz
          go_wp2_with fail
          go_ret
          exact ⟨congrArg (fun b => Ending.returned (Value.bool b)) (by unfold numOk; rw [HALL.out, HE.out, HZ.out]; rfl), rfl⟩
        · have hp : 0 < s.size := by omega
          have e2 : s.toList.isEmpty = false := by
            rw [ByteArray.toList_eq]
            cases hl : s.data.toList with
            | nil => have := blen s; rw [hl] at this; simp at this; omega
            | cons a l => rfl
          have HZ := Lib.hid (show s.data.toList.isEmpty = false by rw [← ByteArray.toList_eq]; exact e2)
          have hh : s.data.toList.head? = some s[0] := by rw [List.head?_eq_getElem?, List.getElem?_eq_getElem (by rw [blen]; exact hp)]; rfl
          have HH := Lib.hid hh
          clear hz hh
          go_wp2_with fail
          go_ret
          refine ⟨congrArg (fun b => Ending.returned (Value.bool b)) ?_, rfl⟩
          unfold numOk
          rw [HALL.out, HE.out, HZ.out, HH.out]
          generalize s[0] = c
          rw [Bool.eq_iff_iff]
          simp only [bne_iff_ne, ne_eq, Bool.true_and, Bool.false_or, Bool.not_false, Option.some.injEq, ← UInt8.toNat_inj]
          have : (48 : UInt8).toNat = 48 := rfl
          omega
end Go.Proofs.YtfkpdbmgiefnfaaDoor.Hk
