/-
  FeesClones returns true. Conditions: the acts are data.
-/
import Derived.Test.YtfhpodeppmnopaaFeEnd
namespace Go.Proofs.Ytfhpodeppmnopaa
open Go.RowKit

theorem meas_20 {i : Nat} (h : i < 20) : 20 - (intOf (.int .i64 ((i : Int) + 1))).toNat < 20 - (intOf (.int .i64 (i : Int))).toNat := by
  simp only [intOf]
  omega
def TwRel (w wr : World) (g1 g2 B1 B2 : Nat) (P : Bs) (ol xl : List AcP) (s : Value) : Prop := ∃ (i : Nat) (m1 m2 : Option Nat) (us1 us2 : List Value), i ≤ 20 ∧ s = .int .i64 (i : Int) ∧ TwoAt w wr g1 m1 ((ol.take i).foldl actF P) B1 us1 g2 m2 ((xl.take i).foldl actF P) B2 us2

set_option maxRecDepth 100000 in
set_option maxHeartbeats 6400000 in
theorem lawK_any (v v1 v2 : Value) (al ol xl : List AcP) (w : World) (hv : ActS w w.heap.size v al) (hv1 : ActS w w.heap.size v1 ol) (hv2 : ActS w w.heap.size v2 xl) :
    Calls Try.prog 3 #[v, v1, v2] w fun e w' => e = .returned (.bool true) ∧ Below w.heap.size w w' := by
  have hok : Ok 60 (playF al) := by obtain ⟨_, _, _, _, h, _⟩ := hv; exact ok_played h
  have hzr := zero_ref
  have hzl := zRef_len
  have HPL := Lib.hid (fun W h => played_any v al w W h hv)
  obtain ⟨Av1, cap1, hvf1, hvl1, hok1, _⟩ := id hv1
  subst hvf1
  obtain ⟨Av2, cap2, hvf2, hvl2, hok2, _⟩ := id hv2
  subst hvf2
  obtain ⟨ZS, hZS⟩ : ∃ ZS, ZS = zRef := ⟨_, rfl⟩
  rw [← hZS] at hzl hzr
  obtain ⟨T, hT⟩ : ∃ T, T = playF al := ⟨_, rfl⟩
  rw [← hT] at hok
  simp only [← hT] at HPL
  have HOK := Lib.hid hok
  have HZL := Lib.hid hzl
  have HV1 := Lib.hid hv1
  have HV2 := Lib.hid hv2
  have HOK1 := Lib.hid hok1
  have HOK2 := Lib.hid hok2
  clear hv hv1 hv2 hok hok1 hok2 hzl hZS hT
  go_enter Try.func3, Try.ntmps3
  go_wp2_with fail
  refine (awake_any _).mono ?_
  rintro e w1 ⟨rfl, hb1⟩
  have HB1 := Lib.hid hb1
  clear hb1
  go_wp2_with fail
  refine (HPL.out _ HB1.out).mono ?_
  rintro e w2 ⟨g, m, us, rfl, ho, hr⟩
  have HO := Lib.hid ho
  have HR := Lib.hid hr
  have HSZ := Lib.hid hr.size
  have H1 := Lib.hid hr.one
  have HL := Lib.hid (show ZS.length = us.length by rw [HZL.out, hr.1.len])
  clear ho hr
  go_upto_region 4 with (first
    | (refine wpList_store_vrow rfl 30 _ _ rfl rfl rfl (VRow.new _ _ ZS) HSZ.out HL.out H1.out ?_))
  change Code.wp _ _ _ _ ((w2.alloc (.cells ZS.toArray 30)).setRow w2.heap.size us.toArray)
  have hbs := beside (zs := ZS) HO.out HR.out
  have hge := HO.out.2.1.size
  obtain ⟨w3, hw3⟩ : ∃ z, z = ((w2.alloc (.cells ZS.toArray 30)).setRow w2.heap.size us.toArray) := ⟨_, rfl⟩
  obtain ⟨G, hG⟩ : ∃ z, z = w2.heap.size := ⟨_, rfl⟩
  rw [← hw3, ← hG] at hbs ⊢
  rw [← hG] at hge
  have HBS := Lib.hid hbs
  have HGE := Lib.hid hge
  clear hbs hge hw3 hG
  go_wp2_with fail
  refine (clone_any 7 g m T _ HBS.out.1.1).mono ?_
  rintro e w4 ⟨g', m', rfl, ho4⟩
  have hc1 : CoAt w w4 g m T G us := CoAt.below ⟨HBS.out.1, HBS.out.2.1, HBS.out.2.2, HGE.out⟩ ho4.2.1
  have HC1 := Lib.hid hc1
  have HO4 := Lib.hid ho4
  have HS3 := Lib.hid (show g < w3.heap.size from HBS.out.1.1.1.lt)
  have HM3 := Lib.hid (show ∀ b, m = some b → b < w3.heap.size from fun b hb => HBS.out.1.1.2.lt hb)
  have HW3 := Lib.hid (show w.heap.size ≤ w3.heap.size from HBS.out.1.2.1.size)
  clear hc1 ho4
  go_wp2_with fail
  refine (same_any 7 g' g 60 60 m' m T T _ (.inl rfl) HO4.out.1 HC1.out.own.1 HOK.out HOK.out).mono ?_
  rintro e w5 ⟨r, rfl, hr5, hb5⟩
  obtain rfl : r = true := hr5.2 (sameB_self T)
  have HC5 := Lib.hid (HC1.out.below hb5)
  have HO5 := Lib.hid (HO4.out.below hb5)
  clear hr5 hb5
  go_upto_region 8 with (first
    | (refine wpList_load_vrow rfl 30 _ rfl rfl HC5.out.r5 Try.underlying30 HSZ.out ?_)
    | (refine wpList_store_vrow rfl 30 _ _ rfl rfl rfl (VRow.new _ _ ZS) HSZ.out HL.out H1.out ?_))
  change Code.wp _ _ _ _ ((w5.alloc (.cells ZS.toArray 30)).setRow w5.heap.size us.toArray)
  have htw : TwoAt w ((w5.alloc (.cells ZS.toArray 30)).setRow w5.heap.size us.toArray) g m T G us g' m' T w5.heap.size us := by
    obtain ⟨r6, r7⟩ := one_row w5 30 ZS us
    refine ⟨HC5.out.below r7, ⟨⟨HO5.out.1.below r7, (HC5.out.own.2.1).trans (r7.mono HC5.out.own.2.1.size), Nat.le_trans HW3.out HO5.out.2.2.1, fun b hb => Nat.le_trans HW3.out (HO5.out.2.2.2 b hb)⟩, HC5.out.ref.below r7, r6, HC5.out.own.2.1.size⟩, fun q => ?_, fun x hx q => ?_, fun q => ?_⟩
    · have := HS3.out; have := HO5.out.2.2.1; omega
    · have := HM3.out x hx; have := HO5.out.2.2.2 x q; omega
    · have := HC5.out.r5.lt; omega
  obtain ⟨w6, hw6⟩ : ∃ z, z = ((w5.alloc (.cells ZS.toArray 30)).setRow w5.heap.size us.toArray) := ⟨_, rfl⟩
  obtain ⟨G2, hG2⟩ : ∃ z, z = w5.heap.size := ⟨_, rfl⟩
  rw [← hw6, ← hG2] at htw ⊢
  have HTW := Lib.hid htw
  clear htw hw6 hG2
  go_wp2_with fail
  go_loopw [11] (fun s wr => TwRel w wr g g' G G2 T ol xl s) (fun s _ => 20 - (intOf s).toNat)
  case atStart => exact ⟨0, m, m', us, us, by omega, rfl, HTW.out⟩
  case round =>
    obtain ⟨i, m1, m2, us1, us2, hi, rfl, htw⟩ := hrel
    obtain ⟨S1, hS1'⟩ : ∃ S, S = (ol.take i).foldl actF T := ⟨_, rfl⟩
    obtain ⟨S2, hS2'⟩ : ∃ S, S = (xl.take i).foldl actF T := ⟨_, rfl⟩
    have hKa := ok_play (ol.take i) HOK.out (fun x hx => HOK1.out x (List.mem_of_mem_take hx))
    have hKb := ok_play (xl.take i) HOK.out (fun x hx => HOK2.out x (List.mem_of_mem_take hx))
    rw [← hS1'] at htw hKa
    rw [← hS2'] at htw hKb
    have HKa := Lib.hid hKa
    have HKb := Lib.hid hKb
    have hS1 := Lib.hid hS1'
    have hS2 := Lib.hid hS2'
    have HTA := Lib.hid htw
    clear htw hKa hKb hS1' hS2'
    by_cases hlt : i < 20
    · have dlt : decide ((i : Int) < 20) = true := decide_eq_true (by omega)
      by_cases hca : i < ol.length
      · by_cases hcb : i < xl.length
        · as_aux_lemma =>
          have da : decide ((i : Int) < (ol.length : Int)) = true := decide_eq_true (by omega)

          obtain ⟨a, ha⟩ : ∃ a, ol[i]? = some a := ⟨_, List.getElem?_eq_getElem hca⟩
          have haok := HOK1.out a (List.mem_of_getElem? ha)
          obtain ⟨A', cap', e1, _, _, hrg0⟩ := HV1.out
          injection e1 with e1 e1n e1c
          subst e1 e1c
          obtain ⟨b, o, rfl, hbl, hrg⟩ := hrg0 (by rintro rfl; simp at hca)
          obtain ⟨bv, hrv, hby⟩ := hrg i a ha
          have hnx := plays_next T ha
          rw [← hS1.out] at hnx
          have HN1 := Lib.hid hnx
          have hpa := (HTA.out).a
          have hdo := fun W (h1 : Owned w W 7 g m1 S1) (h2 : RefV W 7 us1 S1) => do_any2 g _ m1 us1 S1 a bv w W h1 h2 HKa.out (by rw [List.length_take]; omega) haok hby
          have hrv4 : wr.drew.rangeAt b (o + i * 5) (acC a bv) := fun j v hv => (hpa.own.2.1.cell (p := ⟨b, _, none⟩) hbl).trans (hrv j v hv)
          obtain ⟨AC, hAC⟩ : ∃ AC, AC = acC a bv := ⟨_, rfl⟩
          have hsa := size_act a bv
          rw [← hAC] at hrv4 hsa
          simp only [← hAC] at hdo
          have HDO := Lib.hid hdo
          have HRV := Lib.hid hrv4
          have HPA := Lib.hid hpa
          have HSA := Lib.hid hsa
          have HUZ := Lib.hid hpa.ref.size
          have hbG : ¬ b = G := fun q => by have := hpa.ge5; omega
          have HBG := Lib.hid hbG
          clear hdo hrv4 hpa hsa hnx hbG hAC hrv hby hrg hrg0 haok ha e1n
          go_wp2_with fail
          refine wp_region_held_drew (S := (fun w' => w'.rangeAt b (o + i * 5) AC)) (by kernel_rfl) ?_ (fun hHeld => ?_)
          · exact HRV.out
          refine wpAnyH_take (i := 0) (oi := { dst := some 40, op := Go.Op.move (Go.Operand.tmp 7), type := 24, pos := "law.go:147", after := #[], guard := none }) (v := ?a1v0) rfl (by kernel_rfl) (by kernel_rfl) (by kernel_rfl) (fun _ _ _ h => h) (Or.inl ⟨by rfl, ?a1y0⟩) (by assumption) ?a1r0
          case a1y0 => (intro w hSw; (try dsimp only at hSw); go_simp; try (with_reducible rfl))
          case a1r0 =>
          try simp only [Act.put, List.setIfInBounds_toArray, List.set_cons_zero, List.set_cons_succ]
          refine wpAnyH_take (i := 2) (oi := { dst := some 42, op := Go.Op.move (Go.Operand.tmp 1), type := 22, pos := "law.go:147", after := #[], guard := none }) (v := ?a1v2) rfl (by kernel_rfl) (by kernel_rfl) (by kernel_rfl) (fun _ _ _ h => h) (Or.inl ⟨by rfl, ?a1y2⟩) (by assumption) ?a1r2
          case a1y2 => (intro w hSw; (try dsimp only at hSw); go_simp; try (with_reducible rfl))
          case a1r2 =>
          try simp only [Act.put, List.setIfInBounds_toArray, List.set_cons_zero, List.set_cons_succ]
          refine wpAnyH_take (i := 3) (oi := { dst := some 43, op := Go.Op.move (Go.Operand.tmp 11), type := 3, pos := "law.go:147", after := #[], guard := none }) (v := ?a1v3) rfl (by kernel_rfl) (by kernel_rfl) (by kernel_rfl) (fun _ _ _ h => h) (Or.inl ⟨by rfl, ?a1y3⟩) (by assumption) ?a1r3
          case a1y3 => (intro w hSw; (try dsimp only at hSw); go_simp; try (with_reducible rfl))
          case a1r3 =>
          try simp only [Act.put, List.setIfInBounds_toArray, List.set_cons_zero, List.set_cons_succ]
          refine wpAnyH_take (i := 4) (oi := { dst := some 44, op := Go.Op.indexAddr 22 (Go.Operand.tmp 42) (Go.Operand.tmp 43), type := 0, pos := "law.go:147", after := #[{ on := 2, ground := Go.Ground.data }, { on := 3, ground := Go.Ground.data }], guard := none }) (v := ?a1v4) rfl (by kernel_rfl) (by kernel_rfl) (by kernel_rfl) (fun _ _ _ h => h) (Or.inl ⟨by rfl, ?a1y4⟩) (by assumption) ?a1r4
          case a1y4 => (intro w hSw; (try dsimp only at hSw); go_simp; try (with_reducible rfl))
          case a1r4 =>
          try simp only [Act.put, List.setIfInBounds_toArray, List.set_cons_zero, List.set_cons_succ]
          refine wpAnyH_take (i := 5) (oi := { dst := some 45, op := Go.Op.load 38 (Go.Operand.tmp 44), type := 38, pos := "law.go:147", after := #[{ on := 4, ground := Go.Ground.data }], guard := none }) (v := (.agg AC.toArray)) rfl (by kernel_rfl) (by kernel_rfl) (by kernel_rfl) (fun _ _ _ h => h) (yieldsIf_load_mid (by rfl) 38 (.tmp 44) rfl b (o + i * 5) rfl AC _ (fun w' h => h) Try.underlying38 rfl HSA.out) (by assumption) ?_
          try simp only [Act.put, List.setIfInBounds_toArray, List.set_cons_zero, List.set_cons_succ]
          refine wpAnyH_ready (rs := [1]) (by kernel_rfl) (by simp) ?_
          refine AllReadyH.cons (o := { dst := some 41, op := Go.Op.load 30 (Go.Operand.tmp 8), type := 30, pos := "law.go:147", after := #[], guard := none }) rfl (fun K hK => ?_) (AllReadyH.nil)
          refine wp_load_mid 30 (.tmp 8) rfl G 0 rfl us1 _ (vrow_range0 HPA.out.drew.r5) Try.underlying30 rfl HUZ.out ?_
          refine hK.out _ _ ?_ (fun hHeld => ?_)
          · exact HRV.out
          clear hK K
          try simp only [Act.put, List.setIfInBounds_toArray, List.set_cons_zero, List.set_cons_succ]
          refine wpAnyH_ready (rs := [6]) (by kernel_rfl) (by simp) ?_
          refine AllReadyH.cons (o := { dst := some 46, op := Go.Op.call { callee := Go.Callee.value (Go.Operand.func 8), args := #[Go.Operand.tmp 40, Go.Operand.tmp 41, Go.Operand.tmp 45], argTypes := #[24, 30, 38] }, type := 30, pos := "law.go:147", after := #[{ on := 0, ground := Go.Ground.data }, { on := 1, ground := Go.Ground.data }, { on := 5, ground := Go.Ground.data }], guard := none }) rfl (fun K hK => ?_) (AllReadyH.nil)
          go_simp
          refine (HDO.out _ HPA.out.drew.own HPA.out.drew.ref).mono ?_
          rintro e4 w4 ⟨us4, m4, rfl, ho4, hr4, ht4, hf4⟩
          have P4 := Lib.hid (HTA.out.drew.done ho4 hr4 ht4 hf4)
          have R4 := Lib.hid hr4
          have L4 := Lib.hid (show us1.length = us4.length by rw [hr4.1.len, HPA.out.ref.1.len])
          have K4 := Lib.hid (show w4.rangeAt b (o + i * 5) AC from fun j v hv => (ht4.cell (p := ⟨b, _, none⟩) (Nat.lt_of_lt_of_le hbl HPA.out.own.2.1.size) (fun q => by have q' : b = g ∨ m1 = some b := q; rcases q' with q' | q'; (have := HPA.out.own.2.2.1; omega); (have := HPA.out.own.2.2.2 b q'; omega))).trans (HRV.out j v hv))
          have B4 := Lib.hid (show b < w4.heap.size from Nat.lt_of_lt_of_le (Nat.lt_of_lt_of_le hbl HPA.out.own.2.1.size) ht4.size)
          refine hK.out _ _ ?_ (fun hHeld => ?_)
          · exact K4.out
          clear hK K
          try simp only [Act.put, List.setIfInBounds_toArray, List.set_cons_zero, List.set_cons_succ]
          refine wpAnyH_ready (rs := [7]) (by kernel_rfl) (by simp) ?_
          refine AllReadyH.cons (o := { dst := none, op := Go.Op.store 30 (Go.Operand.tmp 8) (Go.Operand.tmp 46), type := 0, pos := "law.go:147", after := #[{ on := 6, ground := Go.Ground.data }, { on := 6, ground := Go.Ground.chain }, { on := 0, ground := Go.Ground.phase }, { on := 1, ground := Go.Ground.phase }, { on := 2, ground := Go.Ground.phase }, { on := 3, ground := Go.Ground.phase }, { on := 4, ground := Go.Ground.phase }, { on := 5, ground := Go.Ground.phase }, { on := 6, ground := Go.Ground.phase }], guard := none }) rfl (fun K hK => ?_) (AllReadyH.nil)
          refine wp_store_vrow 30 (.tmp 8) (.tmp 46) rfl rfl rfl P4.out.1 R4.out.size L4.out R4.out.one ?_
          refine hK.out _ _ ?_ (fun hHeld => ?_)
          · exact fun j v hv => ((Turns.setRow (S := fun q => q = G) (Turns.refl _ w4) (fun _ => rfl) us4.toArray).cell (p := ⟨b, _, none⟩) B4.out HBG.out).trans (K4.out j v hv)
          clear hK K
          try simp only [Act.put]
          refine wpAnyH_done (by kernel_rfl) ?_ _
          have hend := P4.out.2
          obtain ⟨wA, hwo⟩ : ∃ z, z = w4.setRow G us4.toArray := ⟨_, rfl⟩
          rw [← hwo] at hend ⊢
          have HTB := Lib.hid hend
          clear ho4 hr4 ht4 hf4 hwo hend P4 R4 L4 K4 B4 HDO HRV HPA HSA HUZ HBG
          clear da
          have db : decide ((i : Int) < (xl.length : Int)) = true := decide_eq_true (by omega)

          obtain ⟨a, ha⟩ : ∃ a, xl[i]? = some a := ⟨_, List.getElem?_eq_getElem hcb⟩
          have haok := HOK2.out a (List.mem_of_getElem? ha)
          obtain ⟨A', cap', e1, _, _, hrg0⟩ := HV2.out
          injection e1 with e1 e1n e1c
          subst e1 e1c
          obtain ⟨b, o, rfl, hbl, hrg⟩ := hrg0 (by rintro rfl; simp at hcb)
          obtain ⟨bv, hrv, hby⟩ := hrg i a ha
          have hnx := plays_next T ha
          rw [← hS2.out] at hnx
          have HN2 := Lib.hid hnx
          have hpa := (HTB.out.swap).a
          have hdo := fun W (h1 : Owned w W 7 g' m2 S2) (h2 : RefV W 7 us2 S2) => do_any2 g' _ m2 us2 S2 a bv w W h1 h2 HKb.out (by rw [List.length_take]; omega) haok hby
          have hrv4 : wA.drew.rangeAt b (o + i * 5) (acC a bv) := fun j v hv => (hpa.own.2.1.cell (p := ⟨b, _, none⟩) hbl).trans (hrv j v hv)
          obtain ⟨AC, hAC⟩ : ∃ AC, AC = acC a bv := ⟨_, rfl⟩
          have hsa := size_act a bv
          rw [← hAC] at hrv4 hsa
          simp only [← hAC] at hdo
          have HDO := Lib.hid hdo
          have HRV := Lib.hid hrv4
          have HPA := Lib.hid hpa
          have HSA := Lib.hid hsa
          have HUZ := Lib.hid hpa.ref.size
          have hbG : ¬ b = G2 := fun q => by have := hpa.ge5; omega
          have HBG := Lib.hid hbG
          clear hdo hrv4 hpa hsa hnx hbG hAC hrv hby hrg hrg0 haok ha e1n
          go_wp2_with fail
          refine wp_region_held_drew (S := (fun w' => w'.rangeAt b (o + i * 5) AC)) (by kernel_rfl) ?_ (fun hHeld => ?_)
          · exact HRV.out
          refine wpAnyH_take (i := 0) (oi := { dst := some 51, op := Go.Op.move (Go.Operand.tmp 9), type := 24, pos := "law.go:150", after := #[], guard := none }) (v := ?b1v0) rfl (by kernel_rfl) (by kernel_rfl) (by kernel_rfl) (fun _ _ _ h => h) (Or.inl ⟨by rfl, ?b1y0⟩) (by assumption) ?b1r0
          case b1y0 => (intro w hSw; (try dsimp only at hSw); go_simp; try (with_reducible rfl))
          case b1r0 =>
          try simp only [Act.put, List.setIfInBounds_toArray, List.set_cons_zero, List.set_cons_succ]
          refine wpAnyH_take (i := 2) (oi := { dst := some 53, op := Go.Op.move (Go.Operand.tmp 2), type := 22, pos := "law.go:150", after := #[], guard := none }) (v := ?b1v2) rfl (by kernel_rfl) (by kernel_rfl) (by kernel_rfl) (fun _ _ _ h => h) (Or.inl ⟨by rfl, ?b1y2⟩) (by assumption) ?b1r2
          case b1y2 => (intro w hSw; (try dsimp only at hSw); go_simp; try (with_reducible rfl))
          case b1r2 =>
          try simp only [Act.put, List.setIfInBounds_toArray, List.set_cons_zero, List.set_cons_succ]
          refine wpAnyH_take (i := 3) (oi := { dst := some 54, op := Go.Op.move (Go.Operand.tmp 11), type := 3, pos := "law.go:150", after := #[], guard := none }) (v := ?b1v3) rfl (by kernel_rfl) (by kernel_rfl) (by kernel_rfl) (fun _ _ _ h => h) (Or.inl ⟨by rfl, ?b1y3⟩) (by assumption) ?b1r3
          case b1y3 => (intro w hSw; (try dsimp only at hSw); go_simp; try (with_reducible rfl))
          case b1r3 =>
          try simp only [Act.put, List.setIfInBounds_toArray, List.set_cons_zero, List.set_cons_succ]
          refine wpAnyH_take (i := 4) (oi := { dst := some 55, op := Go.Op.indexAddr 22 (Go.Operand.tmp 53) (Go.Operand.tmp 54), type := 0, pos := "law.go:150", after := #[{ on := 2, ground := Go.Ground.data }, { on := 3, ground := Go.Ground.data }], guard := none }) (v := ?b1v4) rfl (by kernel_rfl) (by kernel_rfl) (by kernel_rfl) (fun _ _ _ h => h) (Or.inl ⟨by rfl, ?b1y4⟩) (by assumption) ?b1r4
          case b1y4 => (intro w hSw; (try dsimp only at hSw); go_simp; try (with_reducible rfl))
          case b1r4 =>
          try simp only [Act.put, List.setIfInBounds_toArray, List.set_cons_zero, List.set_cons_succ]
          refine wpAnyH_take (i := 5) (oi := { dst := some 56, op := Go.Op.load 38 (Go.Operand.tmp 55), type := 38, pos := "law.go:150", after := #[{ on := 4, ground := Go.Ground.data }], guard := none }) (v := (.agg AC.toArray)) rfl (by kernel_rfl) (by kernel_rfl) (by kernel_rfl) (fun _ _ _ h => h) (yieldsIf_load_mid (by rfl) 38 (.tmp 55) rfl b (o + i * 5) rfl AC _ (fun w' h => h) Try.underlying38 rfl HSA.out) (by assumption) ?_
          try simp only [Act.put, List.setIfInBounds_toArray, List.set_cons_zero, List.set_cons_succ]
          refine wpAnyH_ready (rs := [1]) (by kernel_rfl) (by simp) ?_
          refine AllReadyH.cons (o := { dst := some 52, op := Go.Op.load 30 (Go.Operand.tmp 10), type := 30, pos := "law.go:150", after := #[], guard := none }) rfl (fun K hK => ?_) (AllReadyH.nil)
          refine wp_load_mid 30 (.tmp 10) rfl G2 0 rfl us2 _ (vrow_range0 HPA.out.drew.r5) Try.underlying30 rfl HUZ.out ?_
          refine hK.out _ _ ?_ (fun hHeld => ?_)
          · exact HRV.out
          clear hK K
          try simp only [Act.put, List.setIfInBounds_toArray, List.set_cons_zero, List.set_cons_succ]
          refine wpAnyH_ready (rs := [6]) (by kernel_rfl) (by simp) ?_
          refine AllReadyH.cons (o := { dst := some 57, op := Go.Op.call { callee := Go.Callee.value (Go.Operand.func 8), args := #[Go.Operand.tmp 51, Go.Operand.tmp 52, Go.Operand.tmp 56], argTypes := #[24, 30, 38] }, type := 30, pos := "law.go:150", after := #[{ on := 0, ground := Go.Ground.data }, { on := 1, ground := Go.Ground.data }, { on := 5, ground := Go.Ground.data }], guard := none }) rfl (fun K hK => ?_) (AllReadyH.nil)
          go_simp
          refine (HDO.out _ HPA.out.drew.own HPA.out.drew.ref).mono ?_
          rintro e4 w4 ⟨us4, m4, rfl, ho4, hr4, ht4, hf4⟩
          have P4 := Lib.hid (HTB.out.drew.swap.done ho4 hr4 ht4 hf4)
          have R4 := Lib.hid hr4
          have L4 := Lib.hid (show us2.length = us4.length by rw [hr4.1.len, HPA.out.ref.1.len])
          have K4 := Lib.hid (show w4.rangeAt b (o + i * 5) AC from fun j v hv => (ht4.cell (p := ⟨b, _, none⟩) (Nat.lt_of_lt_of_le hbl HPA.out.own.2.1.size) (fun q => by have q' : b = g' ∨ m2 = some b := q; rcases q' with q' | q'; (have := HPA.out.own.2.2.1; omega); (have := HPA.out.own.2.2.2 b q'; omega))).trans (HRV.out j v hv))
          have B4 := Lib.hid (show b < w4.heap.size from Nat.lt_of_lt_of_le (Nat.lt_of_lt_of_le hbl HPA.out.own.2.1.size) ht4.size)
          refine hK.out _ _ ?_ (fun hHeld => ?_)
          · exact K4.out
          clear hK K
          try simp only [Act.put, List.setIfInBounds_toArray, List.set_cons_zero, List.set_cons_succ]
          refine wpAnyH_ready (rs := [7]) (by kernel_rfl) (by simp) ?_
          refine AllReadyH.cons (o := { dst := none, op := Go.Op.store 30 (Go.Operand.tmp 10) (Go.Operand.tmp 57), type := 0, pos := "law.go:150", after := #[{ on := 6, ground := Go.Ground.data }, { on := 6, ground := Go.Ground.chain }, { on := 0, ground := Go.Ground.phase }, { on := 1, ground := Go.Ground.phase }, { on := 2, ground := Go.Ground.phase }, { on := 3, ground := Go.Ground.phase }, { on := 4, ground := Go.Ground.phase }, { on := 5, ground := Go.Ground.phase }, { on := 6, ground := Go.Ground.phase }], guard := none }) rfl (fun K hK => ?_) (AllReadyH.nil)
          refine wp_store_vrow 30 (.tmp 10) (.tmp 57) rfl rfl rfl P4.out.1 R4.out.size L4.out R4.out.one ?_
          refine hK.out _ _ ?_ (fun hHeld => ?_)
          · exact fun j v hv => ((Turns.setRow (S := fun q => q = G2) (Turns.refl _ w4) (fun _ => rfl) us4.toArray).cell (p := ⟨b, _, none⟩) B4.out HBG.out).trans (K4.out j v hv)
          clear hK K
          try simp only [Act.put]
          refine wpAnyH_done (by kernel_rfl) ?_ _
          have hend := P4.out.2.swap
          obtain ⟨wB, hwo⟩ : ∃ z, z = w4.setRow G2 us4.toArray := ⟨_, rfl⟩
          rw [← hwo] at hend ⊢
          have HTC := Lib.hid hend
          clear ho4 hr4 ht4 hf4 hwo hend P4 R4 L4 K4 B4 HDO HRV HPA HSA HUZ HBG

          go_wp2_with fail
          exact ⟨⟨i + 1, _, _, _, _, hlt, by first | rfl | (rw [wrap_small2 (by omega) (by omega)]; rfl), by (have q := HTC.out; rw [HN1.out, HN2.out]; exact q)⟩, by first | exact meas_plus hlt | exact meas_20 hlt⟩
        · as_aux_lemma =>
          have da : decide ((i : Int) < (ol.length : Int)) = true := decide_eq_true (by omega)

          obtain ⟨a, ha⟩ : ∃ a, ol[i]? = some a := ⟨_, List.getElem?_eq_getElem hca⟩
          have haok := HOK1.out a (List.mem_of_getElem? ha)
          obtain ⟨A', cap', e1, _, _, hrg0⟩ := HV1.out
          injection e1 with e1 e1n e1c
          subst e1 e1c
          obtain ⟨b, o, rfl, hbl, hrg⟩ := hrg0 (by rintro rfl; simp at hca)
          obtain ⟨bv, hrv, hby⟩ := hrg i a ha
          have hnx := plays_next T ha
          rw [← hS1.out] at hnx
          have HN1 := Lib.hid hnx
          have hpa := (HTA.out).a
          have hdo := fun W (h1 : Owned w W 7 g m1 S1) (h2 : RefV W 7 us1 S1) => do_any2 g _ m1 us1 S1 a bv w W h1 h2 HKa.out (by rw [List.length_take]; omega) haok hby
          have hrv4 : wr.drew.rangeAt b (o + i * 5) (acC a bv) := fun j v hv => (hpa.own.2.1.cell (p := ⟨b, _, none⟩) hbl).trans (hrv j v hv)
          obtain ⟨AC, hAC⟩ : ∃ AC, AC = acC a bv := ⟨_, rfl⟩
          have hsa := size_act a bv
          rw [← hAC] at hrv4 hsa
          simp only [← hAC] at hdo
          have HDO := Lib.hid hdo
          have HRV := Lib.hid hrv4
          have HPA := Lib.hid hpa
          have HSA := Lib.hid hsa
          have HUZ := Lib.hid hpa.ref.size
          have hbG : ¬ b = G := fun q => by have := hpa.ge5; omega
          have HBG := Lib.hid hbG
          clear hdo hrv4 hpa hsa hnx hbG hAC hrv hby hrg hrg0 haok ha e1n
          go_wp2_with fail
          refine wp_region_held_drew (S := (fun w' => w'.rangeAt b (o + i * 5) AC)) (by kernel_rfl) ?_ (fun hHeld => ?_)
          · exact HRV.out
          refine wpAnyH_take (i := 0) (oi := { dst := some 40, op := Go.Op.move (Go.Operand.tmp 7), type := 24, pos := "law.go:147", after := #[], guard := none }) (v := ?a2v0) rfl (by kernel_rfl) (by kernel_rfl) (by kernel_rfl) (fun _ _ _ h => h) (Or.inl ⟨by rfl, ?a2y0⟩) (by assumption) ?a2r0
          case a2y0 => (intro w hSw; (try dsimp only at hSw); go_simp; try (with_reducible rfl))
          case a2r0 =>
          try simp only [Act.put, List.setIfInBounds_toArray, List.set_cons_zero, List.set_cons_succ]
          refine wpAnyH_take (i := 2) (oi := { dst := some 42, op := Go.Op.move (Go.Operand.tmp 1), type := 22, pos := "law.go:147", after := #[], guard := none }) (v := ?a2v2) rfl (by kernel_rfl) (by kernel_rfl) (by kernel_rfl) (fun _ _ _ h => h) (Or.inl ⟨by rfl, ?a2y2⟩) (by assumption) ?a2r2
          case a2y2 => (intro w hSw; (try dsimp only at hSw); go_simp; try (with_reducible rfl))
          case a2r2 =>
          try simp only [Act.put, List.setIfInBounds_toArray, List.set_cons_zero, List.set_cons_succ]
          refine wpAnyH_take (i := 3) (oi := { dst := some 43, op := Go.Op.move (Go.Operand.tmp 11), type := 3, pos := "law.go:147", after := #[], guard := none }) (v := ?a2v3) rfl (by kernel_rfl) (by kernel_rfl) (by kernel_rfl) (fun _ _ _ h => h) (Or.inl ⟨by rfl, ?a2y3⟩) (by assumption) ?a2r3
          case a2y3 => (intro w hSw; (try dsimp only at hSw); go_simp; try (with_reducible rfl))
          case a2r3 =>
          try simp only [Act.put, List.setIfInBounds_toArray, List.set_cons_zero, List.set_cons_succ]
          refine wpAnyH_take (i := 4) (oi := { dst := some 44, op := Go.Op.indexAddr 22 (Go.Operand.tmp 42) (Go.Operand.tmp 43), type := 0, pos := "law.go:147", after := #[{ on := 2, ground := Go.Ground.data }, { on := 3, ground := Go.Ground.data }], guard := none }) (v := ?a2v4) rfl (by kernel_rfl) (by kernel_rfl) (by kernel_rfl) (fun _ _ _ h => h) (Or.inl ⟨by rfl, ?a2y4⟩) (by assumption) ?a2r4
          case a2y4 => (intro w hSw; (try dsimp only at hSw); go_simp; try (with_reducible rfl))
          case a2r4 =>
          try simp only [Act.put, List.setIfInBounds_toArray, List.set_cons_zero, List.set_cons_succ]
          refine wpAnyH_take (i := 5) (oi := { dst := some 45, op := Go.Op.load 38 (Go.Operand.tmp 44), type := 38, pos := "law.go:147", after := #[{ on := 4, ground := Go.Ground.data }], guard := none }) (v := (.agg AC.toArray)) rfl (by kernel_rfl) (by kernel_rfl) (by kernel_rfl) (fun _ _ _ h => h) (yieldsIf_load_mid (by rfl) 38 (.tmp 44) rfl b (o + i * 5) rfl AC _ (fun w' h => h) Try.underlying38 rfl HSA.out) (by assumption) ?_
          try simp only [Act.put, List.setIfInBounds_toArray, List.set_cons_zero, List.set_cons_succ]
          refine wpAnyH_ready (rs := [1]) (by kernel_rfl) (by simp) ?_
          refine AllReadyH.cons (o := { dst := some 41, op := Go.Op.load 30 (Go.Operand.tmp 8), type := 30, pos := "law.go:147", after := #[], guard := none }) rfl (fun K hK => ?_) (AllReadyH.nil)
          refine wp_load_mid 30 (.tmp 8) rfl G 0 rfl us1 _ (vrow_range0 HPA.out.drew.r5) Try.underlying30 rfl HUZ.out ?_
          refine hK.out _ _ ?_ (fun hHeld => ?_)
          · exact HRV.out
          clear hK K
          try simp only [Act.put, List.setIfInBounds_toArray, List.set_cons_zero, List.set_cons_succ]
          refine wpAnyH_ready (rs := [6]) (by kernel_rfl) (by simp) ?_
          refine AllReadyH.cons (o := { dst := some 46, op := Go.Op.call { callee := Go.Callee.value (Go.Operand.func 8), args := #[Go.Operand.tmp 40, Go.Operand.tmp 41, Go.Operand.tmp 45], argTypes := #[24, 30, 38] }, type := 30, pos := "law.go:147", after := #[{ on := 0, ground := Go.Ground.data }, { on := 1, ground := Go.Ground.data }, { on := 5, ground := Go.Ground.data }], guard := none }) rfl (fun K hK => ?_) (AllReadyH.nil)
          go_simp
          refine (HDO.out _ HPA.out.drew.own HPA.out.drew.ref).mono ?_
          rintro e4 w4 ⟨us4, m4, rfl, ho4, hr4, ht4, hf4⟩
          have P4 := Lib.hid (HTA.out.drew.done ho4 hr4 ht4 hf4)
          have R4 := Lib.hid hr4
          have L4 := Lib.hid (show us1.length = us4.length by rw [hr4.1.len, HPA.out.ref.1.len])
          have K4 := Lib.hid (show w4.rangeAt b (o + i * 5) AC from fun j v hv => (ht4.cell (p := ⟨b, _, none⟩) (Nat.lt_of_lt_of_le hbl HPA.out.own.2.1.size) (fun q => by have q' : b = g ∨ m1 = some b := q; rcases q' with q' | q'; (have := HPA.out.own.2.2.1; omega); (have := HPA.out.own.2.2.2 b q'; omega))).trans (HRV.out j v hv))
          have B4 := Lib.hid (show b < w4.heap.size from Nat.lt_of_lt_of_le (Nat.lt_of_lt_of_le hbl HPA.out.own.2.1.size) ht4.size)
          refine hK.out _ _ ?_ (fun hHeld => ?_)
          · exact K4.out
          clear hK K
          try simp only [Act.put, List.setIfInBounds_toArray, List.set_cons_zero, List.set_cons_succ]
          refine wpAnyH_ready (rs := [7]) (by kernel_rfl) (by simp) ?_
          refine AllReadyH.cons (o := { dst := none, op := Go.Op.store 30 (Go.Operand.tmp 8) (Go.Operand.tmp 46), type := 0, pos := "law.go:147", after := #[{ on := 6, ground := Go.Ground.data }, { on := 6, ground := Go.Ground.chain }, { on := 0, ground := Go.Ground.phase }, { on := 1, ground := Go.Ground.phase }, { on := 2, ground := Go.Ground.phase }, { on := 3, ground := Go.Ground.phase }, { on := 4, ground := Go.Ground.phase }, { on := 5, ground := Go.Ground.phase }, { on := 6, ground := Go.Ground.phase }], guard := none }) rfl (fun K hK => ?_) (AllReadyH.nil)
          refine wp_store_vrow 30 (.tmp 8) (.tmp 46) rfl rfl rfl P4.out.1 R4.out.size L4.out R4.out.one ?_
          refine hK.out _ _ ?_ (fun hHeld => ?_)
          · exact fun j v hv => ((Turns.setRow (S := fun q => q = G) (Turns.refl _ w4) (fun _ => rfl) us4.toArray).cell (p := ⟨b, _, none⟩) B4.out HBG.out).trans (K4.out j v hv)
          clear hK K
          try simp only [Act.put]
          refine wpAnyH_done (by kernel_rfl) ?_ _
          have hend := P4.out.2
          obtain ⟨wA, hwo⟩ : ∃ z, z = w4.setRow G us4.toArray := ⟨_, rfl⟩
          rw [← hwo] at hend ⊢
          have HTB := Lib.hid hend
          clear ho4 hr4 ht4 hf4 hwo hend P4 R4 L4 K4 B4 HDO HRV HPA HSA HUZ HBG

          have HN2 := Lib.hid (show (xl.take (i + 1)).foldl actF T = S2 by rw [hS2.out, List.take_of_length_le (by omega), List.take_of_length_le (by omega)])
          have db : decide ((i : Int) < (xl.length : Int)) = false := decide_eq_false (by omega)

          go_wp2_with fail
          exact ⟨⟨i + 1, _, _, _, _, hlt, by first | rfl | (rw [wrap_small2 (by omega) (by omega)]; rfl), by (have q := HTB.out; rw [HN1.out, HN2.out]; exact q)⟩, by first | exact meas_plus hlt | exact meas_20 hlt⟩
      · by_cases hcb : i < xl.length
        · as_aux_lemma =>
          have HN1 := Lib.hid (show (ol.take (i + 1)).foldl actF T = S1 by rw [hS1.out, List.take_of_length_le (by omega), List.take_of_length_le (by omega)])
          have da : decide ((i : Int) < (ol.length : Int)) = false := decide_eq_false (by omega)
          have db : decide ((i : Int) < (xl.length : Int)) = true := decide_eq_true (by omega)

          obtain ⟨a, ha⟩ : ∃ a, xl[i]? = some a := ⟨_, List.getElem?_eq_getElem hcb⟩
          have haok := HOK2.out a (List.mem_of_getElem? ha)
          obtain ⟨A', cap', e1, _, _, hrg0⟩ := HV2.out
          injection e1 with e1 e1n e1c
          subst e1 e1c
          obtain ⟨b, o, rfl, hbl, hrg⟩ := hrg0 (by rintro rfl; simp at hcb)
          obtain ⟨bv, hrv, hby⟩ := hrg i a ha
          have hnx := plays_next T ha
          rw [← hS2.out] at hnx
          have HN2 := Lib.hid hnx
          have hpa := (HTA.out.swap).a
          have hdo := fun W (h1 : Owned w W 7 g' m2 S2) (h2 : RefV W 7 us2 S2) => do_any2 g' _ m2 us2 S2 a bv w W h1 h2 HKb.out (by rw [List.length_take]; omega) haok hby
          have hrv4 : wr.drew.rangeAt b (o + i * 5) (acC a bv) := fun j v hv => (hpa.own.2.1.cell (p := ⟨b, _, none⟩) hbl).trans (hrv j v hv)
          obtain ⟨AC, hAC⟩ : ∃ AC, AC = acC a bv := ⟨_, rfl⟩
          have hsa := size_act a bv
          rw [← hAC] at hrv4 hsa
          simp only [← hAC] at hdo
          have HDO := Lib.hid hdo
          have HRV := Lib.hid hrv4
          have HPA := Lib.hid hpa
          have HSA := Lib.hid hsa
          have HUZ := Lib.hid hpa.ref.size
          have hbG : ¬ b = G2 := fun q => by have := hpa.ge5; omega
          have HBG := Lib.hid hbG
          clear hdo hrv4 hpa hsa hnx hbG hAC hrv hby hrg hrg0 haok ha e1n
          go_wp2_with fail
          refine wp_region_held_drew (S := (fun w' => w'.rangeAt b (o + i * 5) AC)) (by kernel_rfl) ?_ (fun hHeld => ?_)
          · exact HRV.out
          refine wpAnyH_take (i := 0) (oi := { dst := some 51, op := Go.Op.move (Go.Operand.tmp 9), type := 24, pos := "law.go:150", after := #[], guard := none }) (v := ?b2v0) rfl (by kernel_rfl) (by kernel_rfl) (by kernel_rfl) (fun _ _ _ h => h) (Or.inl ⟨by rfl, ?b2y0⟩) (by assumption) ?b2r0
          case b2y0 => (intro w hSw; (try dsimp only at hSw); go_simp; try (with_reducible rfl))
          case b2r0 =>
          try simp only [Act.put, List.setIfInBounds_toArray, List.set_cons_zero, List.set_cons_succ]
          refine wpAnyH_take (i := 2) (oi := { dst := some 53, op := Go.Op.move (Go.Operand.tmp 2), type := 22, pos := "law.go:150", after := #[], guard := none }) (v := ?b2v2) rfl (by kernel_rfl) (by kernel_rfl) (by kernel_rfl) (fun _ _ _ h => h) (Or.inl ⟨by rfl, ?b2y2⟩) (by assumption) ?b2r2
          case b2y2 => (intro w hSw; (try dsimp only at hSw); go_simp; try (with_reducible rfl))
          case b2r2 =>
          try simp only [Act.put, List.setIfInBounds_toArray, List.set_cons_zero, List.set_cons_succ]
          refine wpAnyH_take (i := 3) (oi := { dst := some 54, op := Go.Op.move (Go.Operand.tmp 11), type := 3, pos := "law.go:150", after := #[], guard := none }) (v := ?b2v3) rfl (by kernel_rfl) (by kernel_rfl) (by kernel_rfl) (fun _ _ _ h => h) (Or.inl ⟨by rfl, ?b2y3⟩) (by assumption) ?b2r3
          case b2y3 => (intro w hSw; (try dsimp only at hSw); go_simp; try (with_reducible rfl))
          case b2r3 =>
          try simp only [Act.put, List.setIfInBounds_toArray, List.set_cons_zero, List.set_cons_succ]
          refine wpAnyH_take (i := 4) (oi := { dst := some 55, op := Go.Op.indexAddr 22 (Go.Operand.tmp 53) (Go.Operand.tmp 54), type := 0, pos := "law.go:150", after := #[{ on := 2, ground := Go.Ground.data }, { on := 3, ground := Go.Ground.data }], guard := none }) (v := ?b2v4) rfl (by kernel_rfl) (by kernel_rfl) (by kernel_rfl) (fun _ _ _ h => h) (Or.inl ⟨by rfl, ?b2y4⟩) (by assumption) ?b2r4
          case b2y4 => (intro w hSw; (try dsimp only at hSw); go_simp; try (with_reducible rfl))
          case b2r4 =>
          try simp only [Act.put, List.setIfInBounds_toArray, List.set_cons_zero, List.set_cons_succ]
          refine wpAnyH_take (i := 5) (oi := { dst := some 56, op := Go.Op.load 38 (Go.Operand.tmp 55), type := 38, pos := "law.go:150", after := #[{ on := 4, ground := Go.Ground.data }], guard := none }) (v := (.agg AC.toArray)) rfl (by kernel_rfl) (by kernel_rfl) (by kernel_rfl) (fun _ _ _ h => h) (yieldsIf_load_mid (by rfl) 38 (.tmp 55) rfl b (o + i * 5) rfl AC _ (fun w' h => h) Try.underlying38 rfl HSA.out) (by assumption) ?_
          try simp only [Act.put, List.setIfInBounds_toArray, List.set_cons_zero, List.set_cons_succ]
          refine wpAnyH_ready (rs := [1]) (by kernel_rfl) (by simp) ?_
          refine AllReadyH.cons (o := { dst := some 52, op := Go.Op.load 30 (Go.Operand.tmp 10), type := 30, pos := "law.go:150", after := #[], guard := none }) rfl (fun K hK => ?_) (AllReadyH.nil)
          refine wp_load_mid 30 (.tmp 10) rfl G2 0 rfl us2 _ (vrow_range0 HPA.out.drew.r5) Try.underlying30 rfl HUZ.out ?_
          refine hK.out _ _ ?_ (fun hHeld => ?_)
          · exact HRV.out
          clear hK K
          try simp only [Act.put, List.setIfInBounds_toArray, List.set_cons_zero, List.set_cons_succ]
          refine wpAnyH_ready (rs := [6]) (by kernel_rfl) (by simp) ?_
          refine AllReadyH.cons (o := { dst := some 57, op := Go.Op.call { callee := Go.Callee.value (Go.Operand.func 8), args := #[Go.Operand.tmp 51, Go.Operand.tmp 52, Go.Operand.tmp 56], argTypes := #[24, 30, 38] }, type := 30, pos := "law.go:150", after := #[{ on := 0, ground := Go.Ground.data }, { on := 1, ground := Go.Ground.data }, { on := 5, ground := Go.Ground.data }], guard := none }) rfl (fun K hK => ?_) (AllReadyH.nil)
          go_simp
          refine (HDO.out _ HPA.out.drew.own HPA.out.drew.ref).mono ?_
          rintro e4 w4 ⟨us4, m4, rfl, ho4, hr4, ht4, hf4⟩
          have P4 := Lib.hid (HTA.out.drew.swap.done ho4 hr4 ht4 hf4)
          have R4 := Lib.hid hr4
          have L4 := Lib.hid (show us2.length = us4.length by rw [hr4.1.len, HPA.out.ref.1.len])
          have K4 := Lib.hid (show w4.rangeAt b (o + i * 5) AC from fun j v hv => (ht4.cell (p := ⟨b, _, none⟩) (Nat.lt_of_lt_of_le hbl HPA.out.own.2.1.size) (fun q => by have q' : b = g' ∨ m2 = some b := q; rcases q' with q' | q'; (have := HPA.out.own.2.2.1; omega); (have := HPA.out.own.2.2.2 b q'; omega))).trans (HRV.out j v hv))
          have B4 := Lib.hid (show b < w4.heap.size from Nat.lt_of_lt_of_le (Nat.lt_of_lt_of_le hbl HPA.out.own.2.1.size) ht4.size)
          refine hK.out _ _ ?_ (fun hHeld => ?_)
          · exact K4.out
          clear hK K
          try simp only [Act.put, List.setIfInBounds_toArray, List.set_cons_zero, List.set_cons_succ]
          refine wpAnyH_ready (rs := [7]) (by kernel_rfl) (by simp) ?_
          refine AllReadyH.cons (o := { dst := none, op := Go.Op.store 30 (Go.Operand.tmp 10) (Go.Operand.tmp 57), type := 0, pos := "law.go:150", after := #[{ on := 6, ground := Go.Ground.data }, { on := 6, ground := Go.Ground.chain }, { on := 0, ground := Go.Ground.phase }, { on := 1, ground := Go.Ground.phase }, { on := 2, ground := Go.Ground.phase }, { on := 3, ground := Go.Ground.phase }, { on := 4, ground := Go.Ground.phase }, { on := 5, ground := Go.Ground.phase }, { on := 6, ground := Go.Ground.phase }], guard := none }) rfl (fun K hK => ?_) (AllReadyH.nil)
          refine wp_store_vrow 30 (.tmp 10) (.tmp 57) rfl rfl rfl P4.out.1 R4.out.size L4.out R4.out.one ?_
          refine hK.out _ _ ?_ (fun hHeld => ?_)
          · exact fun j v hv => ((Turns.setRow (S := fun q => q = G2) (Turns.refl _ w4) (fun _ => rfl) us4.toArray).cell (p := ⟨b, _, none⟩) B4.out HBG.out).trans (K4.out j v hv)
          clear hK K
          try simp only [Act.put]
          refine wpAnyH_done (by kernel_rfl) ?_ _
          have hend := P4.out.2.swap
          obtain ⟨wB, hwo⟩ : ∃ z, z = w4.setRow G2 us4.toArray := ⟨_, rfl⟩
          rw [← hwo] at hend ⊢
          have HTC := Lib.hid hend
          clear ho4 hr4 ht4 hf4 hwo hend P4 R4 L4 K4 B4 HDO HRV HPA HSA HUZ HBG

          go_wp2_with fail
          exact ⟨⟨i + 1, _, _, _, _, hlt, by first | rfl | (rw [wrap_small2 (by omega) (by omega)]; rfl), by (have q := HTC.out; rw [HN1.out, HN2.out]; exact q)⟩, by first | exact meas_plus hlt | exact meas_20 hlt⟩
        · as_aux_lemma =>
          have HN1 := Lib.hid (show (ol.take (i + 1)).foldl actF T = S1 by rw [hS1.out, List.take_of_length_le (by omega), List.take_of_length_le (by omega)])
          have da : decide ((i : Int) < (ol.length : Int)) = false := decide_eq_false (by omega)

          have HN2 := Lib.hid (show (xl.take (i + 1)).foldl actF T = S2 by rw [hS2.out, List.take_of_length_le (by omega), List.take_of_length_le (by omega)])
          have db : decide ((i : Int) < (xl.length : Int)) = false := decide_eq_false (by omega)

          go_wp2_with fail
          exact ⟨⟨i + 1, _, _, _, _, hlt, by first | rfl | (rw [wrap_small2 (by omega) (by omega)]; rfl), by (have q := HTA.out; rw [HN1.out, HN2.out]; exact q)⟩, by first | exact meas_plus hlt | exact meas_20 hlt⟩
    · as_aux_lemma =>
      have dlt : decide ((i : Int) < 20) = false := decide_eq_false (by omega)
      obtain ⟨w7, rfl⟩ : ∃ wo : World, wo = wr := ⟨_, rfl⟩
      obtain ⟨hcn1, sl1, hsl1, hws1⟩ := HTA.out.a.ref
      obtain ⟨hcn2, sl2, hsl2, hws2⟩ := HTA.out.b.ref
      obtain ⟨A1, cp1, hf1⟩ := hws1.form
      obtain ⟨A2, cp2, hf2⟩ := hws2.form
      have hn1c : (S1.W.length : Int) ≤ 1000 := by have := HKa.out.len; rw [List.length_take] at this; omega
      have hn2c : (S2.W.length : Int) ≤ 1000 := by have := HKb.out.len; rw [List.length_take] at this; omega
      obtain ⟨n1, hn1⟩ : ∃ n, n = S1.W.length := ⟨_, rfl⟩
      obtain ⟨n2, hn2⟩ : ∃ n, n = S2.W.length := ⟨_, rfl⟩
      rw [← hn1] at hf1 hn1c
      rw [← hn2] at hf2 hn2c
      subst hf1 hf2
      obtain ⟨xs1, ys1, hx1, hy1, rx1, ry1, nx1, ny1⟩ := ref_arrays HTA.out.a.r5 hcn1
      obtain ⟨xs2, ys2, hx2, hy2, rx2, ry2, nx2, ny2⟩ := ref_arrays HTA.out.b.r5 hcn2
      have q1 := fun W => eq_all nx1 nx2 W
      have q2 := fun W => eq_within ny1 ny2 W
      have hsp := cntSame_split S1 S2
      obtain ⟨bA, hbA⟩ : ∃ b, b = ((List.range 24).all fun k => S1.A k == S2.A k) := ⟨_, rfl⟩
      obtain ⟨bI, hbI⟩ : ∃ b, b = ((List.range 24).all fun k => (List.range 12).all fun t => S1.I k t == S2.I k t) := ⟨_, rfl⟩
      obtain ⟨bL, hbL'⟩ : ∃ b, b = ((n1 : Int) == (n2 : Int)) := ⟨_, rfl⟩
      have hbL := hbL'.symm
      rw [← hbA, ← hbI] at hsp
      simp only [← hbA] at q1
      simp only [← hbI] at q2
      have HES := Lib.hid (end_same hsp hn1 hn2 hbL)
      have IX1 := Lib.hid (info_alls xs1 hx1)
      have IX2 := Lib.hid (info_alls xs2 hx2)
      have IY1 := Lib.hid (info_withins ys1 hy1)
      have IY2 := Lib.hid (info_withins ys2 hy2)
      have RX1 := Lib.hid rx1
      have RX2 := Lib.hid rx2
      have RY1 := Lib.hid ry1
      have RY2 := Lib.hid ry2
      have HN1 := Lib.hid hn1
      have HN2' := Lib.hid hn2
      have HWS1 := Lib.hid hws1
      have HWS2 := Lib.hid hws2
      have HSL2 := Lib.hid hsl2
      have HWI1 := Lib.hid (show ∀ e ∈ S1.W, e.id < 256 from fun e he => (HKa.out.bk e he).2.1)
      have HWI2 := Lib.hid (show ∀ e ∈ S2.W, e.id < 256 from fun e he => (HKb.out.bk e he).2.1)
      have HUZ1 := Lib.hid HTA.out.a.ref.size
      have HUZ2 := Lib.hid HTA.out.b.ref.size
      have c1 : w7.cell? ⟨G, 312, none⟩ = some (.slice A1 n1 cp1) := HTA.out.a.r5.cell hsl1
      have c2 : w7.cell? ⟨G2, 312, none⟩ = some (.slice A2 n2 cp2) := HTA.out.b.r5.cell hsl2
      have hzw := zero_wt
      obtain ⟨WZ, hWZ⟩ : ∃ WZ, WZ = ((List.replicate 32 (0 : Int)).map (Value.int .u8) ++ [Value.int .i64 0, Value.int .i64 0]) := ⟨_, rfl⟩
      have HWZ := Lib.hid (show WZ.length = 34 by rw [hWZ]; rfl)
      rw [← hWZ] at hzw
      clear hcn1 hcn2 hsl1 hsl2 hws1 hws2 hn1 hn2 hx1 hx2 hy1 hy2 rx1 rx2 ry1 ry2 nx1 nx2 ny1 ny2 hsp hbA hbI hbL' hWZ HZL HPL
      cases bA with
      | false =>
        as_aux_lemma =>
        go_wp2_with (first
          | go_big_skip
          | (refine wpList_load_mid rfl 25 (.tmp 58) rfl G 0 rfl xs1 _ RX1.out Try.underlying25 rfl IX1.out ?_; dsimp only [Act.put]; simp only [List.setIfInBounds_toArray, List.set_cons_zero, List.set_cons_succ])
          | (refine wpList_load_mid rfl 25 (.tmp 60) rfl G2 0 rfl xs2 _ RX2.out Try.underlying25 rfl IX2.out ?_; dsimp only [Act.put]; simp only [List.setIfInBounds_toArray, List.set_cons_zero, List.set_cons_succ])
          | (refine wpList_eql (by rfl) 25 25 (.tmp 59) (.tmp 61) rfl xs1.toArray xs2.toArray rfl rfl _ guard_alls q1 ?_; dsimp only [Act.put]; simp only [List.setIfInBounds_toArray, List.set_cons_zero, List.set_cons_succ])
          | (refine wpList_load_mid_g (by rfl) 27 (.tmp 64) rfl G 24 rfl ys1 _ RY1.out Try.underlying27 rfl IY1.out ?_; dsimp only [Act.put]; simp only [List.setIfInBounds_toArray, List.set_cons_zero, List.set_cons_succ])
          | (refine wpList_load_mid_g (by rfl) 27 (.tmp 66) rfl G2 24 rfl ys2 _ RY2.out Try.underlying27 rfl IY2.out ?_; dsimp only [Act.put]; simp only [List.setIfInBounds_toArray, List.set_cons_zero, List.set_cons_succ])
          | (refine wpList_eql (by rfl) 27 27 (.tmp 65) (.tmp 67) rfl ys1.toArray ys2.toArray rfl rfl _ guard_withins q2 ?_; dsimp only [Act.put]; simp only [List.setIfInBounds_toArray, List.set_cons_zero, List.set_cons_succ]))
        clear q1 q2 c1 c2 hbL
        go_loopw [12, 82] (fun s t wx => ∃ (k : Nat) (r : Bool), k ≤ n1 ∧ t = .int .i64 (k : Int) ∧ s = .bool r ∧ Hid (r = true ↔ (false && bI && bL) = true ∧ AllIn S1.W S2.W k) ∧ Hid (Below w7.heap.size w7 wx)) (fun _ t _ => n1 - (intOf t).toNat)
        case atStart => exact ⟨0, (false && bI && bL), Nat.zero_le _, rfl, rfl, Lib.hid ⟨fun q => ⟨q, allIn_zero _ _⟩, fun q => q.1⟩, Lib.hid (Below.refl _ _)⟩
        case round =>
          obtain ⟨k, r, hk, rfl, rfl, hr, hbx⟩ := hrel
          obtain ⟨w8, rfl⟩ : ∃ wo : World, wo = wr := ⟨_, rfl⟩
          by_cases hk1 : k < n1
          · as_aux_lemma =>
            have dk : decide ((k : Int) < (n1 : Int)) = true := decide_eq_true (by omega)
            obtain ⟨e, he⟩ : ∃ e, S1.W[k]? = some e := ⟨_, List.getElem?_eq_getElem (by rw [← HN1.out]; exact hk1)⟩
            have he256 := HWI1.out e (List.mem_of_getElem? he)
            obtain ⟨gw, cap, ef, hnc, hcm, hgl, hcells⟩ := (HWS1.out.below hbx.out).at he
            injection ef with ef1 ef2 ef3
            subst ef1 ef3
            obtain ⟨WC, hWC, hsw, hwl, hw1⟩ := wait_box w8 7 e
            have hrg : w8.rangeAt gw (k * 34) WC := fun a x hx => hcells a x (by rw [← hWC]; exact hx)
            obtain ⟨r6, r7⟩ := one_row w8 41 WZ WC
            have HSW := Lib.hid hsw
            have HLW := Lib.hid (show WZ.length = WC.length by rw [HWZ.out, hwl])
            have HW1 := Lib.hid hw1
            have HRG := Lib.hid hrg
            have HWC := Lib.hid hWC
            have HE := Lib.hid he
            have hcw : n1 ≤ cp1 := by rw [HN1.out]; exact hnc
            clear hcells hgl hsw hwl hw1 hrg hWC he hnc hcm ef2
            go_upto_region 19 with (first
              | (refine wpList_load_mid rfl 41 _ rfl gw (k * 34) rfl WC _ HRG.out Try.underlying41 rfl HSW.out ?_)
              | (refine wpList_store_vrow rfl 41 _ _ rfl rfl rfl (VRow.new _ _ WZ) HSW.out HLW.out HW1.out ?_))
            change Code.wp _ _ _ _ ((w8.alloc (.cells WZ.toArray 41)).setRow w8.heap.size WC.toArray)
            obtain ⟨w9, hw9⟩ : ∃ z, z = ((w8.alloc (.cells WZ.toArray 41)).setRow w8.heap.size WC.toArray) := ⟨_, rfl⟩
            obtain ⟨GT, hGT⟩ : ∃ z, z = w8.heap.size := ⟨_, rfl⟩
            rw [← hw9] at r6 r7 ⊢
            rw [← hGT] at r6 ⊢
            have HT9 := Lib.hid r6
            have HB9 := Lib.hid (hbx.out.trans (r7.mono hbx.out.size))
            have c9 : w9.cell? ⟨G2, 312, none⟩ = some (.slice A2 n2 cp2) := (HTA.out.below HB9.out).b.r5.cell HSL2.out
            have HR := Lib.hid hr.out
            clear r6 r7 hw9 hGT hr hbx
            go_wp2_with fail
            clear c9
            go_loopw [15, 89] (fun s t wx => ∃ (j : Nat) (f : Bool), j ≤ n2 ∧ t = .int .i64 (j : Int) ∧ s = .bool f ∧ Hid (f = true ↔ HasIn S2.W j e) ∧ Hid (Below w9.heap.size w9 wx)) (fun _ t _ => n2 - (intOf t).toNat)
            case atStart => exact ⟨0, false, Nat.zero_le _, rfl, rfl, Lib.hid ⟨(fun q => by cases q), fun q => absurd q (hasIn_zero _ _)⟩, Lib.hid (Below.refl _ _)⟩
            case round =>
              obtain ⟨j, f, hj, rfl, rfl, hf, hbj⟩ := hrel
              obtain ⟨w10, rfl⟩ : ∃ wo : World, wo = wr := ⟨_, rfl⟩
              by_cases hj1 : j < n2
              · as_aux_lemma =>
                have dj : decide ((j : Int) < (n2 : Int)) = true := decide_eq_true (by omega)
                obtain ⟨e2, he2⟩ : ∃ e, S2.W[j]? = some e := ⟨_, List.getElem?_eq_getElem (by rw [← HN2'.out]; exact hj1)⟩
                have he256' := HWI2.out e2 (List.mem_of_getElem? he2)
                have HB10 := Lib.hid (HB9.out.trans (hbj.out.mono HB9.out.size))
                obtain ⟨gw2, cap, ef, hnc, hcm, hgl, hcells⟩ := (HWS2.out.below HB10.out).at he2
                injection ef with ef1 ef2 ef3
                subst ef1 ef3
                obtain ⟨WD, hWD, hsw, hwl, hw1⟩ := wait_box w10 7 e2
                have hrg : w10.rangeAt gw2 (j * 34) WD := fun a x hx => hcells a x (by rw [← hWD]; exact hx)
                have hq := fun W => eq_waits 7 (by omega) e e2 he256 he256' W
                rw [← HWC.out, ← hWD] at hq
                have hdec : decide (e.id = e2.id ∧ e.bk = e2.bk ∧ e.ht = e2.ht) = decide (e = e2) := by
                  rw [decide_eq_decide]
                  constructor
                  · rintro ⟨a, b, c⟩; cases e; cases e2; simp only at a b c; rw [a, b, c]
                  · rintro rfl; exact ⟨rfl, rfl, rfl⟩
                rw [hdec] at hq
                obtain ⟨r6, r7⟩ := one_row w10 41 WZ WD
                have HSD := Lib.hid hsw
                have HLD := Lib.hid (show WZ.length = WD.length by rw [HWZ.out, hwl])
                have HW2 := Lib.hid hw1
                have HRG2 := Lib.hid hrg
                have HE2 := Lib.hid he2
                have hcw2 : n2 ≤ cp2 := by rw [HN2'.out]; exact hnc
                clear hcells hgl hsw hwl hw1 hrg hWD he2 hnc hcm ef2 hdec he256'
                go_upto_region 23 with (first
                  | (refine wpList_load_mid rfl 41 _ rfl gw2 (j * 34) rfl WD _ HRG2.out Try.underlying41 rfl HSD.out ?_)
                  | (refine wpList_store_vrow rfl 41 _ _ rfl rfl rfl (VRow.new _ _ WZ) HSD.out HLD.out HW2.out ?_))
                change Code.wp _ _ _ _ ((w10.alloc (.cells WZ.toArray 41)).setRow w10.heap.size WD.toArray)
                obtain ⟨w11, hw11⟩ : ∃ z, z = ((w10.alloc (.cells WZ.toArray 41)).setRow w10.heap.size WD.toArray) := ⟨_, rfl⟩
                obtain ⟨GU, hGU⟩ : ∃ z, z = w10.heap.size := ⟨_, rfl⟩
                rw [← hw11] at r6 r7 ⊢
                rw [← hGU] at r6 ⊢
                have HU := Lib.hid r6
                have HB11 := Lib.hid (hbj.out.trans (r7.mono hbj.out.size))
                have HT11 := Lib.hid (HT9.out.below HB11.out HT9.out.lt)
                have HF := Lib.hid hf.out
                clear r6 r7 hw11 hGU hf hbj
                cases f with
                | true =>
                  as_aux_lemma =>
                  clear hq
                  go_wp2_with go_big_skip
                  exact ⟨⟨j + 1, true, hj1, by first | rfl | (rw [wrap_small2 (by omega) (by omega)]; rfl), rfl, Lib.hid ⟨fun _ => (hasIn_next HE2.out).2 (.inl (HF.out.1 rfl)), fun _ => rfl⟩, HB11⟩, by first | exact meas_add hj1 | exact meas_up hj1⟩
                | false =>
                  as_aux_lemma =>
                  obtain ⟨bE, hbE⟩ : ∃ b, b = decide (e = e2) := ⟨_, rfl⟩
                  rw [← hbE] at hq
                  have HBE := Lib.hid hbE
                  clear hbE
                  go_wp2_with (first
                    | (refine wpList_load_vrow_g (by rfl) 41 (.tmp 14) rfl (g := GT) (t := 41) (vs := WC) rfl HT11.out Try.underlying41 HSW.out ?_; dsimp only [Act.put]; simp only [List.setIfInBounds_toArray, List.set_cons_zero, List.set_cons_succ])
                    | (refine wpList_load_vrow_g (by rfl) 41 (.tmp 17) rfl (g := GU) (t := 41) (vs := WD) rfl HU.out Try.underlying41 HSD.out ?_; dsimp only [Act.put]; simp only [List.setIfInBounds_toArray, List.set_cons_zero, List.set_cons_succ])
                    | (refine wpList_eql (by rfl) 41 41 (.tmp 95) (.tmp 96) rfl WC.toArray WD.toArray rfl rfl bE guard_wait hq ?_; dsimp only [Act.put]; simp only [List.setIfInBounds_toArray, List.set_cons_zero, List.set_cons_succ]))
                  exact ⟨⟨j + 1, bE, hj1, by first | rfl | (rw [wrap_small2 (by omega) (by omega)]; rfl), rfl, Lib.hid ⟨fun q => (hasIn_next HE2.out).2 (.inr (of_decide_eq_true (HBE.out.symm.trans q))), fun q => by rcases (hasIn_next HE2.out).1 q with q | q; (exact absurd (HF.out.2 q) (by decide)); (rw [HBE.out]; exact decide_eq_true q)⟩, HB11⟩, by first | exact meas_add hj1 | exact meas_up hj1⟩
              · as_aux_lemma =>
                have dj : decide ((j : Int) < (n2 : Int)) = false := decide_eq_false (by omega)
                have hjn : j = S2.W.length := by rw [← HN2'.out]; omega
                have HF := Lib.hid (show f = true ↔ HasIn S2.W S2.W.length e by rw [← hjn]; exact hf.out)
                have HB12 := Lib.hid (HB9.out.trans (hbj.out.mono HB9.out.size))
                clear hjn hf hbj
                cases r with
                | true =>
                  as_aux_lemma =>
                  go_wp2_with fail
                  exact ⟨⟨k + 1, f, hk1, by first | rfl | (rw [wrap_small2 (by omega) (by omega)]; rfl), rfl, Lib.hid ⟨fun q => ⟨(HR.out.1 rfl).1, (allIn_next HE.out).2 ⟨(HR.out.1 rfl).2, HF.out.1 q⟩⟩, fun q => HF.out.2 ((allIn_next HE.out).1 q.2).2⟩, HB12⟩, by first | exact meas_add hk1 | exact meas_up hk1⟩
                | false =>
                  as_aux_lemma =>
                  go_wp2_with fail
                  exact ⟨⟨k + 1, false, hk1, by first | rfl | (rw [wrap_small2 (by omega) (by omega)]; rfl), rfl, Lib.hid ⟨(fun q => by cases q), fun q => HR.out.2 ⟨q.1, ((allIn_next HE.out).1 q.2).1⟩⟩, HB12⟩, by first | exact meas_add hk1 | exact meas_up hk1⟩
          · as_aux_lemma =>
            have dk : decide ((k : Int) < (n1 : Int)) = false := decide_eq_false (by omega)
            have hkn : k = n1 := by omega
            have HRR := Lib.hid (show r = true ↔ SameB S1 S2 by rw [HES.out, ← hkn]; exact hr.out)
            have HX := Lib.hid (HTA.out.below hbx.out)
            clear hkn hr hbx
            go_wp2_with (first
              | (refine wpList_load_vrow rfl 30 (.tmp 8) rfl rfl HX.out.a.r5 Try.underlying30 HUZ1.out ?_))
            refine (is_any g m1 us1 S1 _ HX.out.a.own.1 HX.out.a.ref).mono ?_
            rintro e wA ⟨rfl, hbA2⟩
            have HXA := Lib.hid (HX.out.below hbA2)
            clear hbA2
            go_wp2_with (first
              | (refine wpList_load_vrow_g (by rfl) 30 (.tmp 10) rfl (g := G2) (t := 30) (vs := us2) rfl HXA.out.b.r5 Try.underlying30 HUZ2.out ?_))
            refine (is_any g' m2 us2 S2 _ HXA.out.b.own.1 HXA.out.b.ref).mono ?_
            rintro e wB ⟨rfl, hbB2⟩
            have HXB := Lib.hid (HXA.out.below hbB2)
            clear hbB2
            go_wp2_with fail
            refine (same_any 7 g g' _ _ m1 m2 S1 S2 _ (.inl rfl) HXB.out.a.own.1 HXB.out.b.own.1 HKa.out HKb.out).mono ?_
            rintro e wC ⟨rr, rfl, hrr, hbC⟩
            obtain rfl : rr = r := by rw [Bool.eq_iff_iff]; exact hrr.trans HRR.out.symm
            have HXC := Lib.hid (HXB.out.below hbC)
            have hbeq : (rr == rr) = true := beq_self_eq_true rr
            clear hrr hbC
            go_wp2_with fail
            exact bodyPost_ret (results_tmp rfl _ _ _) rfl ⟨rfl, HXC.out.a.own.2.1⟩
      | true =>
        cases bI with
        | false =>
          as_aux_lemma =>
          go_wp2_with (first
            | go_big_skip
            | (refine wpList_load_mid rfl 25 (.tmp 58) rfl G 0 rfl xs1 _ RX1.out Try.underlying25 rfl IX1.out ?_; dsimp only [Act.put]; simp only [List.setIfInBounds_toArray, List.set_cons_zero, List.set_cons_succ])
            | (refine wpList_load_mid rfl 25 (.tmp 60) rfl G2 0 rfl xs2 _ RX2.out Try.underlying25 rfl IX2.out ?_; dsimp only [Act.put]; simp only [List.setIfInBounds_toArray, List.set_cons_zero, List.set_cons_succ])
            | (refine wpList_eql (by rfl) 25 25 (.tmp 59) (.tmp 61) rfl xs1.toArray xs2.toArray rfl rfl _ guard_alls q1 ?_; dsimp only [Act.put]; simp only [List.setIfInBounds_toArray, List.set_cons_zero, List.set_cons_succ])
            | (refine wpList_load_mid_g (by rfl) 27 (.tmp 64) rfl G 24 rfl ys1 _ RY1.out Try.underlying27 rfl IY1.out ?_; dsimp only [Act.put]; simp only [List.setIfInBounds_toArray, List.set_cons_zero, List.set_cons_succ])
            | (refine wpList_load_mid_g (by rfl) 27 (.tmp 66) rfl G2 24 rfl ys2 _ RY2.out Try.underlying27 rfl IY2.out ?_; dsimp only [Act.put]; simp only [List.setIfInBounds_toArray, List.set_cons_zero, List.set_cons_succ])
            | (refine wpList_eql (by rfl) 27 27 (.tmp 65) (.tmp 67) rfl ys1.toArray ys2.toArray rfl rfl _ guard_withins q2 ?_; dsimp only [Act.put]; simp only [List.setIfInBounds_toArray, List.set_cons_zero, List.set_cons_succ]))
          clear q1 q2 c1 c2 hbL
          go_loopw [12, 82] (fun s t wx => ∃ (k : Nat) (r : Bool), k ≤ n1 ∧ t = .int .i64 (k : Int) ∧ s = .bool r ∧ Hid (r = true ↔ (true && false && bL) = true ∧ AllIn S1.W S2.W k) ∧ Hid (Below w7.heap.size w7 wx)) (fun _ t _ => n1 - (intOf t).toNat)
          case atStart => exact ⟨0, (true && false && bL), Nat.zero_le _, rfl, rfl, Lib.hid ⟨fun q => ⟨q, allIn_zero _ _⟩, fun q => q.1⟩, Lib.hid (Below.refl _ _)⟩
          case round =>
            obtain ⟨k, r, hk, rfl, rfl, hr, hbx⟩ := hrel
            obtain ⟨w8, rfl⟩ : ∃ wo : World, wo = wr := ⟨_, rfl⟩
            by_cases hk1 : k < n1
            · as_aux_lemma =>
              have dk : decide ((k : Int) < (n1 : Int)) = true := decide_eq_true (by omega)
              obtain ⟨e, he⟩ : ∃ e, S1.W[k]? = some e := ⟨_, List.getElem?_eq_getElem (by rw [← HN1.out]; exact hk1)⟩
              have he256 := HWI1.out e (List.mem_of_getElem? he)
              obtain ⟨gw, cap, ef, hnc, hcm, hgl, hcells⟩ := (HWS1.out.below hbx.out).at he
              injection ef with ef1 ef2 ef3
              subst ef1 ef3
              obtain ⟨WC, hWC, hsw, hwl, hw1⟩ := wait_box w8 7 e
              have hrg : w8.rangeAt gw (k * 34) WC := fun a x hx => hcells a x (by rw [← hWC]; exact hx)
              obtain ⟨r6, r7⟩ := one_row w8 41 WZ WC
              have HSW := Lib.hid hsw
              have HLW := Lib.hid (show WZ.length = WC.length by rw [HWZ.out, hwl])
              have HW1 := Lib.hid hw1
              have HRG := Lib.hid hrg
              have HWC := Lib.hid hWC
              have HE := Lib.hid he
              have hcw : n1 ≤ cp1 := by rw [HN1.out]; exact hnc
              clear hcells hgl hsw hwl hw1 hrg hWC he hnc hcm ef2
              go_upto_region 19 with (first
                | (refine wpList_load_mid rfl 41 _ rfl gw (k * 34) rfl WC _ HRG.out Try.underlying41 rfl HSW.out ?_)
                | (refine wpList_store_vrow rfl 41 _ _ rfl rfl rfl (VRow.new _ _ WZ) HSW.out HLW.out HW1.out ?_))
              change Code.wp _ _ _ _ ((w8.alloc (.cells WZ.toArray 41)).setRow w8.heap.size WC.toArray)
              obtain ⟨w9, hw9⟩ : ∃ z, z = ((w8.alloc (.cells WZ.toArray 41)).setRow w8.heap.size WC.toArray) := ⟨_, rfl⟩
              obtain ⟨GT, hGT⟩ : ∃ z, z = w8.heap.size := ⟨_, rfl⟩
              rw [← hw9] at r6 r7 ⊢
              rw [← hGT] at r6 ⊢
              have HT9 := Lib.hid r6
              have HB9 := Lib.hid (hbx.out.trans (r7.mono hbx.out.size))
              have c9 : w9.cell? ⟨G2, 312, none⟩ = some (.slice A2 n2 cp2) := (HTA.out.below HB9.out).b.r5.cell HSL2.out
              have HR := Lib.hid hr.out
              clear r6 r7 hw9 hGT hr hbx
              go_wp2_with fail
              clear c9
              go_loopw [15, 89] (fun s t wx => ∃ (j : Nat) (f : Bool), j ≤ n2 ∧ t = .int .i64 (j : Int) ∧ s = .bool f ∧ Hid (f = true ↔ HasIn S2.W j e) ∧ Hid (Below w9.heap.size w9 wx)) (fun _ t _ => n2 - (intOf t).toNat)
              case atStart => exact ⟨0, false, Nat.zero_le _, rfl, rfl, Lib.hid ⟨(fun q => by cases q), fun q => absurd q (hasIn_zero _ _)⟩, Lib.hid (Below.refl _ _)⟩
              case round =>
                obtain ⟨j, f, hj, rfl, rfl, hf, hbj⟩ := hrel
                obtain ⟨w10, rfl⟩ : ∃ wo : World, wo = wr := ⟨_, rfl⟩
                by_cases hj1 : j < n2
                · as_aux_lemma =>
                  have dj : decide ((j : Int) < (n2 : Int)) = true := decide_eq_true (by omega)
                  obtain ⟨e2, he2⟩ : ∃ e, S2.W[j]? = some e := ⟨_, List.getElem?_eq_getElem (by rw [← HN2'.out]; exact hj1)⟩
                  have he256' := HWI2.out e2 (List.mem_of_getElem? he2)
                  have HB10 := Lib.hid (HB9.out.trans (hbj.out.mono HB9.out.size))
                  obtain ⟨gw2, cap, ef, hnc, hcm, hgl, hcells⟩ := (HWS2.out.below HB10.out).at he2
                  injection ef with ef1 ef2 ef3
                  subst ef1 ef3
                  obtain ⟨WD, hWD, hsw, hwl, hw1⟩ := wait_box w10 7 e2
                  have hrg : w10.rangeAt gw2 (j * 34) WD := fun a x hx => hcells a x (by rw [← hWD]; exact hx)
                  have hq := fun W => eq_waits 7 (by omega) e e2 he256 he256' W
                  rw [← HWC.out, ← hWD] at hq
                  have hdec : decide (e.id = e2.id ∧ e.bk = e2.bk ∧ e.ht = e2.ht) = decide (e = e2) := by
                    rw [decide_eq_decide]
                    constructor
                    · rintro ⟨a, b, c⟩; cases e; cases e2; simp only at a b c; rw [a, b, c]
                    · rintro rfl; exact ⟨rfl, rfl, rfl⟩
                  rw [hdec] at hq
                  obtain ⟨r6, r7⟩ := one_row w10 41 WZ WD
                  have HSD := Lib.hid hsw
                  have HLD := Lib.hid (show WZ.length = WD.length by rw [HWZ.out, hwl])
                  have HW2 := Lib.hid hw1
                  have HRG2 := Lib.hid hrg
                  have HE2 := Lib.hid he2
                  have hcw2 : n2 ≤ cp2 := by rw [HN2'.out]; exact hnc
                  clear hcells hgl hsw hwl hw1 hrg hWD he2 hnc hcm ef2 hdec he256'
                  go_upto_region 23 with (first
                    | (refine wpList_load_mid rfl 41 _ rfl gw2 (j * 34) rfl WD _ HRG2.out Try.underlying41 rfl HSD.out ?_)
                    | (refine wpList_store_vrow rfl 41 _ _ rfl rfl rfl (VRow.new _ _ WZ) HSD.out HLD.out HW2.out ?_))
                  change Code.wp _ _ _ _ ((w10.alloc (.cells WZ.toArray 41)).setRow w10.heap.size WD.toArray)
                  obtain ⟨w11, hw11⟩ : ∃ z, z = ((w10.alloc (.cells WZ.toArray 41)).setRow w10.heap.size WD.toArray) := ⟨_, rfl⟩
                  obtain ⟨GU, hGU⟩ : ∃ z, z = w10.heap.size := ⟨_, rfl⟩
                  rw [← hw11] at r6 r7 ⊢
                  rw [← hGU] at r6 ⊢
                  have HU := Lib.hid r6
                  have HB11 := Lib.hid (hbj.out.trans (r7.mono hbj.out.size))
                  have HT11 := Lib.hid (HT9.out.below HB11.out HT9.out.lt)
                  have HF := Lib.hid hf.out
                  clear r6 r7 hw11 hGU hf hbj
                  cases f with
                  | true =>
                    as_aux_lemma =>
                    clear hq
                    go_wp2_with go_big_skip
                    exact ⟨⟨j + 1, true, hj1, by first | rfl | (rw [wrap_small2 (by omega) (by omega)]; rfl), rfl, Lib.hid ⟨fun _ => (hasIn_next HE2.out).2 (.inl (HF.out.1 rfl)), fun _ => rfl⟩, HB11⟩, by first | exact meas_add hj1 | exact meas_up hj1⟩
                  | false =>
                    as_aux_lemma =>
                    obtain ⟨bE, hbE⟩ : ∃ b, b = decide (e = e2) := ⟨_, rfl⟩
                    rw [← hbE] at hq
                    have HBE := Lib.hid hbE
                    clear hbE
                    go_wp2_with (first
                      | (refine wpList_load_vrow_g (by rfl) 41 (.tmp 14) rfl (g := GT) (t := 41) (vs := WC) rfl HT11.out Try.underlying41 HSW.out ?_; dsimp only [Act.put]; simp only [List.setIfInBounds_toArray, List.set_cons_zero, List.set_cons_succ])
                      | (refine wpList_load_vrow_g (by rfl) 41 (.tmp 17) rfl (g := GU) (t := 41) (vs := WD) rfl HU.out Try.underlying41 HSD.out ?_; dsimp only [Act.put]; simp only [List.setIfInBounds_toArray, List.set_cons_zero, List.set_cons_succ])
                      | (refine wpList_eql (by rfl) 41 41 (.tmp 95) (.tmp 96) rfl WC.toArray WD.toArray rfl rfl bE guard_wait hq ?_; dsimp only [Act.put]; simp only [List.setIfInBounds_toArray, List.set_cons_zero, List.set_cons_succ]))
                    exact ⟨⟨j + 1, bE, hj1, by first | rfl | (rw [wrap_small2 (by omega) (by omega)]; rfl), rfl, Lib.hid ⟨fun q => (hasIn_next HE2.out).2 (.inr (of_decide_eq_true (HBE.out.symm.trans q))), fun q => by rcases (hasIn_next HE2.out).1 q with q | q; (exact absurd (HF.out.2 q) (by decide)); (rw [HBE.out]; exact decide_eq_true q)⟩, HB11⟩, by first | exact meas_add hj1 | exact meas_up hj1⟩
                · as_aux_lemma =>
                  have dj : decide ((j : Int) < (n2 : Int)) = false := decide_eq_false (by omega)
                  have hjn : j = S2.W.length := by rw [← HN2'.out]; omega
                  have HF := Lib.hid (show f = true ↔ HasIn S2.W S2.W.length e by rw [← hjn]; exact hf.out)
                  have HB12 := Lib.hid (HB9.out.trans (hbj.out.mono HB9.out.size))
                  clear hjn hf hbj
                  cases r with
                  | true =>
                    as_aux_lemma =>
                    go_wp2_with fail
                    exact ⟨⟨k + 1, f, hk1, by first | rfl | (rw [wrap_small2 (by omega) (by omega)]; rfl), rfl, Lib.hid ⟨fun q => ⟨(HR.out.1 rfl).1, (allIn_next HE.out).2 ⟨(HR.out.1 rfl).2, HF.out.1 q⟩⟩, fun q => HF.out.2 ((allIn_next HE.out).1 q.2).2⟩, HB12⟩, by first | exact meas_add hk1 | exact meas_up hk1⟩
                  | false =>
                    as_aux_lemma =>
                    go_wp2_with fail
                    exact ⟨⟨k + 1, false, hk1, by first | rfl | (rw [wrap_small2 (by omega) (by omega)]; rfl), rfl, Lib.hid ⟨(fun q => by cases q), fun q => HR.out.2 ⟨q.1, ((allIn_next HE.out).1 q.2).1⟩⟩, HB12⟩, by first | exact meas_add hk1 | exact meas_up hk1⟩
            · as_aux_lemma =>
              have dk : decide ((k : Int) < (n1 : Int)) = false := decide_eq_false (by omega)
              have hkn : k = n1 := by omega
              have HRR := Lib.hid (show r = true ↔ SameB S1 S2 by rw [HES.out, ← hkn]; exact hr.out)
              have HX := Lib.hid (HTA.out.below hbx.out)
              clear hkn hr hbx
              go_wp2_with (first
                | (refine wpList_load_vrow rfl 30 (.tmp 8) rfl rfl HX.out.a.r5 Try.underlying30 HUZ1.out ?_))
              refine (is_any g m1 us1 S1 _ HX.out.a.own.1 HX.out.a.ref).mono ?_
              rintro e wA ⟨rfl, hbA2⟩
              have HXA := Lib.hid (HX.out.below hbA2)
              clear hbA2
              go_wp2_with (first
                | (refine wpList_load_vrow_g (by rfl) 30 (.tmp 10) rfl (g := G2) (t := 30) (vs := us2) rfl HXA.out.b.r5 Try.underlying30 HUZ2.out ?_))
              refine (is_any g' m2 us2 S2 _ HXA.out.b.own.1 HXA.out.b.ref).mono ?_
              rintro e wB ⟨rfl, hbB2⟩
              have HXB := Lib.hid (HXA.out.below hbB2)
              clear hbB2
              go_wp2_with fail
              refine (same_any 7 g g' _ _ m1 m2 S1 S2 _ (.inl rfl) HXB.out.a.own.1 HXB.out.b.own.1 HKa.out HKb.out).mono ?_
              rintro e wC ⟨rr, rfl, hrr, hbC⟩
              obtain rfl : rr = r := by rw [Bool.eq_iff_iff]; exact hrr.trans HRR.out.symm
              have HXC := Lib.hid (HXB.out.below hbC)
              have hbeq : (rr == rr) = true := beq_self_eq_true rr
              clear hrr hbC
              go_wp2_with fail
              exact bodyPost_ret (results_tmp rfl _ _ _) rfl ⟨rfl, HXC.out.a.own.2.1⟩
        | true =>
          as_aux_lemma =>
          go_wp2_with (first
            | go_big_skip
            | (refine wpList_load_mid rfl 25 (.tmp 58) rfl G 0 rfl xs1 _ RX1.out Try.underlying25 rfl IX1.out ?_; dsimp only [Act.put]; simp only [List.setIfInBounds_toArray, List.set_cons_zero, List.set_cons_succ])
            | (refine wpList_load_mid rfl 25 (.tmp 60) rfl G2 0 rfl xs2 _ RX2.out Try.underlying25 rfl IX2.out ?_; dsimp only [Act.put]; simp only [List.setIfInBounds_toArray, List.set_cons_zero, List.set_cons_succ])
            | (refine wpList_eql (by rfl) 25 25 (.tmp 59) (.tmp 61) rfl xs1.toArray xs2.toArray rfl rfl _ guard_alls q1 ?_; dsimp only [Act.put]; simp only [List.setIfInBounds_toArray, List.set_cons_zero, List.set_cons_succ])
            | (refine wpList_load_mid_g (by rfl) 27 (.tmp 64) rfl G 24 rfl ys1 _ RY1.out Try.underlying27 rfl IY1.out ?_; dsimp only [Act.put]; simp only [List.setIfInBounds_toArray, List.set_cons_zero, List.set_cons_succ])
            | (refine wpList_load_mid_g (by rfl) 27 (.tmp 66) rfl G2 24 rfl ys2 _ RY2.out Try.underlying27 rfl IY2.out ?_; dsimp only [Act.put]; simp only [List.setIfInBounds_toArray, List.set_cons_zero, List.set_cons_succ])
            | (refine wpList_eql (by rfl) 27 27 (.tmp 65) (.tmp 67) rfl ys1.toArray ys2.toArray rfl rfl _ guard_withins q2 ?_; dsimp only [Act.put]; simp only [List.setIfInBounds_toArray, List.set_cons_zero, List.set_cons_succ]))
          clear q1 q2 c1 c2 hbL
          go_loopw [12, 82] (fun s t wx => ∃ (k : Nat) (r : Bool), k ≤ n1 ∧ t = .int .i64 (k : Int) ∧ s = .bool r ∧ Hid (r = true ↔ (true && true && bL) = true ∧ AllIn S1.W S2.W k) ∧ Hid (Below w7.heap.size w7 wx)) (fun _ t _ => n1 - (intOf t).toNat)
          case atStart => exact ⟨0, (true && true && bL), Nat.zero_le _, rfl, rfl, Lib.hid ⟨fun q => ⟨q, allIn_zero _ _⟩, fun q => q.1⟩, Lib.hid (Below.refl _ _)⟩
          case round =>
            obtain ⟨k, r, hk, rfl, rfl, hr, hbx⟩ := hrel
            obtain ⟨w8, rfl⟩ : ∃ wo : World, wo = wr := ⟨_, rfl⟩
            by_cases hk1 : k < n1
            · as_aux_lemma =>
              have dk : decide ((k : Int) < (n1 : Int)) = true := decide_eq_true (by omega)
              obtain ⟨e, he⟩ : ∃ e, S1.W[k]? = some e := ⟨_, List.getElem?_eq_getElem (by rw [← HN1.out]; exact hk1)⟩
              have he256 := HWI1.out e (List.mem_of_getElem? he)
              obtain ⟨gw, cap, ef, hnc, hcm, hgl, hcells⟩ := (HWS1.out.below hbx.out).at he
              injection ef with ef1 ef2 ef3
              subst ef1 ef3
              obtain ⟨WC, hWC, hsw, hwl, hw1⟩ := wait_box w8 7 e
              have hrg : w8.rangeAt gw (k * 34) WC := fun a x hx => hcells a x (by rw [← hWC]; exact hx)
              obtain ⟨r6, r7⟩ := one_row w8 41 WZ WC
              have HSW := Lib.hid hsw
              have HLW := Lib.hid (show WZ.length = WC.length by rw [HWZ.out, hwl])
              have HW1 := Lib.hid hw1
              have HRG := Lib.hid hrg
              have HWC := Lib.hid hWC
              have HE := Lib.hid he
              have hcw : n1 ≤ cp1 := by rw [HN1.out]; exact hnc
              clear hcells hgl hsw hwl hw1 hrg hWC he hnc hcm ef2
              go_upto_region 19 with (first
                | (refine wpList_load_mid rfl 41 _ rfl gw (k * 34) rfl WC _ HRG.out Try.underlying41 rfl HSW.out ?_)
                | (refine wpList_store_vrow rfl 41 _ _ rfl rfl rfl (VRow.new _ _ WZ) HSW.out HLW.out HW1.out ?_))
              change Code.wp _ _ _ _ ((w8.alloc (.cells WZ.toArray 41)).setRow w8.heap.size WC.toArray)
              obtain ⟨w9, hw9⟩ : ∃ z, z = ((w8.alloc (.cells WZ.toArray 41)).setRow w8.heap.size WC.toArray) := ⟨_, rfl⟩
              obtain ⟨GT, hGT⟩ : ∃ z, z = w8.heap.size := ⟨_, rfl⟩
              rw [← hw9] at r6 r7 ⊢
              rw [← hGT] at r6 ⊢
              have HT9 := Lib.hid r6
              have HB9 := Lib.hid (hbx.out.trans (r7.mono hbx.out.size))
              have c9 : w9.cell? ⟨G2, 312, none⟩ = some (.slice A2 n2 cp2) := (HTA.out.below HB9.out).b.r5.cell HSL2.out
              have HR := Lib.hid hr.out
              clear r6 r7 hw9 hGT hr hbx
              go_wp2_with fail
              clear c9
              go_loopw [15, 89] (fun s t wx => ∃ (j : Nat) (f : Bool), j ≤ n2 ∧ t = .int .i64 (j : Int) ∧ s = .bool f ∧ Hid (f = true ↔ HasIn S2.W j e) ∧ Hid (Below w9.heap.size w9 wx)) (fun _ t _ => n2 - (intOf t).toNat)
              case atStart => exact ⟨0, false, Nat.zero_le _, rfl, rfl, Lib.hid ⟨(fun q => by cases q), fun q => absurd q (hasIn_zero _ _)⟩, Lib.hid (Below.refl _ _)⟩
              case round =>
                obtain ⟨j, f, hj, rfl, rfl, hf, hbj⟩ := hrel
                obtain ⟨w10, rfl⟩ : ∃ wo : World, wo = wr := ⟨_, rfl⟩
                by_cases hj1 : j < n2
                · as_aux_lemma =>
                  have dj : decide ((j : Int) < (n2 : Int)) = true := decide_eq_true (by omega)
                  obtain ⟨e2, he2⟩ : ∃ e, S2.W[j]? = some e := ⟨_, List.getElem?_eq_getElem (by rw [← HN2'.out]; exact hj1)⟩
                  have he256' := HWI2.out e2 (List.mem_of_getElem? he2)
                  have HB10 := Lib.hid (HB9.out.trans (hbj.out.mono HB9.out.size))
                  obtain ⟨gw2, cap, ef, hnc, hcm, hgl, hcells⟩ := (HWS2.out.below HB10.out).at he2
                  injection ef with ef1 ef2 ef3
                  subst ef1 ef3
                  obtain ⟨WD, hWD, hsw, hwl, hw1⟩ := wait_box w10 7 e2
                  have hrg : w10.rangeAt gw2 (j * 34) WD := fun a x hx => hcells a x (by rw [← hWD]; exact hx)
                  have hq := fun W => eq_waits 7 (by omega) e e2 he256 he256' W
                  rw [← HWC.out, ← hWD] at hq
                  have hdec : decide (e.id = e2.id ∧ e.bk = e2.bk ∧ e.ht = e2.ht) = decide (e = e2) := by
                    rw [decide_eq_decide]
                    constructor
                    · rintro ⟨a, b, c⟩; cases e; cases e2; simp only at a b c; rw [a, b, c]
                    · rintro rfl; exact ⟨rfl, rfl, rfl⟩
                  rw [hdec] at hq
                  obtain ⟨r6, r7⟩ := one_row w10 41 WZ WD
                  have HSD := Lib.hid hsw
                  have HLD := Lib.hid (show WZ.length = WD.length by rw [HWZ.out, hwl])
                  have HW2 := Lib.hid hw1
                  have HRG2 := Lib.hid hrg
                  have HE2 := Lib.hid he2
                  have hcw2 : n2 ≤ cp2 := by rw [HN2'.out]; exact hnc
                  clear hcells hgl hsw hwl hw1 hrg hWD he2 hnc hcm ef2 hdec he256'
                  go_upto_region 23 with (first
                    | (refine wpList_load_mid rfl 41 _ rfl gw2 (j * 34) rfl WD _ HRG2.out Try.underlying41 rfl HSD.out ?_)
                    | (refine wpList_store_vrow rfl 41 _ _ rfl rfl rfl (VRow.new _ _ WZ) HSD.out HLD.out HW2.out ?_))
                  change Code.wp _ _ _ _ ((w10.alloc (.cells WZ.toArray 41)).setRow w10.heap.size WD.toArray)
                  obtain ⟨w11, hw11⟩ : ∃ z, z = ((w10.alloc (.cells WZ.toArray 41)).setRow w10.heap.size WD.toArray) := ⟨_, rfl⟩
                  obtain ⟨GU, hGU⟩ : ∃ z, z = w10.heap.size := ⟨_, rfl⟩
                  rw [← hw11] at r6 r7 ⊢
                  rw [← hGU] at r6 ⊢
                  have HU := Lib.hid r6
                  have HB11 := Lib.hid (hbj.out.trans (r7.mono hbj.out.size))
                  have HT11 := Lib.hid (HT9.out.below HB11.out HT9.out.lt)
                  have HF := Lib.hid hf.out
                  clear r6 r7 hw11 hGU hf hbj
                  cases f with
                  | true =>
                    as_aux_lemma =>
                    clear hq
                    go_wp2_with go_big_skip
                    exact ⟨⟨j + 1, true, hj1, by first | rfl | (rw [wrap_small2 (by omega) (by omega)]; rfl), rfl, Lib.hid ⟨fun _ => (hasIn_next HE2.out).2 (.inl (HF.out.1 rfl)), fun _ => rfl⟩, HB11⟩, by first | exact meas_add hj1 | exact meas_up hj1⟩
                  | false =>
                    as_aux_lemma =>
                    obtain ⟨bE, hbE⟩ : ∃ b, b = decide (e = e2) := ⟨_, rfl⟩
                    rw [← hbE] at hq
                    have HBE := Lib.hid hbE
                    clear hbE
                    go_wp2_with (first
                      | (refine wpList_load_vrow_g (by rfl) 41 (.tmp 14) rfl (g := GT) (t := 41) (vs := WC) rfl HT11.out Try.underlying41 HSW.out ?_; dsimp only [Act.put]; simp only [List.setIfInBounds_toArray, List.set_cons_zero, List.set_cons_succ])
                      | (refine wpList_load_vrow_g (by rfl) 41 (.tmp 17) rfl (g := GU) (t := 41) (vs := WD) rfl HU.out Try.underlying41 HSD.out ?_; dsimp only [Act.put]; simp only [List.setIfInBounds_toArray, List.set_cons_zero, List.set_cons_succ])
                      | (refine wpList_eql (by rfl) 41 41 (.tmp 95) (.tmp 96) rfl WC.toArray WD.toArray rfl rfl bE guard_wait hq ?_; dsimp only [Act.put]; simp only [List.setIfInBounds_toArray, List.set_cons_zero, List.set_cons_succ]))
                    exact ⟨⟨j + 1, bE, hj1, by first | rfl | (rw [wrap_small2 (by omega) (by omega)]; rfl), rfl, Lib.hid ⟨fun q => (hasIn_next HE2.out).2 (.inr (of_decide_eq_true (HBE.out.symm.trans q))), fun q => by rcases (hasIn_next HE2.out).1 q with q | q; (exact absurd (HF.out.2 q) (by decide)); (rw [HBE.out]; exact decide_eq_true q)⟩, HB11⟩, by first | exact meas_add hj1 | exact meas_up hj1⟩
                · as_aux_lemma =>
                  have dj : decide ((j : Int) < (n2 : Int)) = false := decide_eq_false (by omega)
                  have hjn : j = S2.W.length := by rw [← HN2'.out]; omega
                  have HF := Lib.hid (show f = true ↔ HasIn S2.W S2.W.length e by rw [← hjn]; exact hf.out)
                  have HB12 := Lib.hid (HB9.out.trans (hbj.out.mono HB9.out.size))
                  clear hjn hf hbj
                  cases r with
                  | true =>
                    as_aux_lemma =>
                    go_wp2_with fail
                    exact ⟨⟨k + 1, f, hk1, by first | rfl | (rw [wrap_small2 (by omega) (by omega)]; rfl), rfl, Lib.hid ⟨fun q => ⟨(HR.out.1 rfl).1, (allIn_next HE.out).2 ⟨(HR.out.1 rfl).2, HF.out.1 q⟩⟩, fun q => HF.out.2 ((allIn_next HE.out).1 q.2).2⟩, HB12⟩, by first | exact meas_add hk1 | exact meas_up hk1⟩
                  | false =>
                    as_aux_lemma =>
                    go_wp2_with fail
                    exact ⟨⟨k + 1, false, hk1, by first | rfl | (rw [wrap_small2 (by omega) (by omega)]; rfl), rfl, Lib.hid ⟨(fun q => by cases q), fun q => HR.out.2 ⟨q.1, ((allIn_next HE.out).1 q.2).1⟩⟩, HB12⟩, by first | exact meas_add hk1 | exact meas_up hk1⟩
            · as_aux_lemma =>
              have dk : decide ((k : Int) < (n1 : Int)) = false := decide_eq_false (by omega)
              have hkn : k = n1 := by omega
              have HRR := Lib.hid (show r = true ↔ SameB S1 S2 by rw [HES.out, ← hkn]; exact hr.out)
              have HX := Lib.hid (HTA.out.below hbx.out)
              clear hkn hr hbx
              go_wp2_with (first
                | (refine wpList_load_vrow rfl 30 (.tmp 8) rfl rfl HX.out.a.r5 Try.underlying30 HUZ1.out ?_))
              refine (is_any g m1 us1 S1 _ HX.out.a.own.1 HX.out.a.ref).mono ?_
              rintro e wA ⟨rfl, hbA2⟩
              have HXA := Lib.hid (HX.out.below hbA2)
              clear hbA2
              go_wp2_with (first
                | (refine wpList_load_vrow_g (by rfl) 30 (.tmp 10) rfl (g := G2) (t := 30) (vs := us2) rfl HXA.out.b.r5 Try.underlying30 HUZ2.out ?_))
              refine (is_any g' m2 us2 S2 _ HXA.out.b.own.1 HXA.out.b.ref).mono ?_
              rintro e wB ⟨rfl, hbB2⟩
              have HXB := Lib.hid (HXA.out.below hbB2)
              clear hbB2
              go_wp2_with fail
              refine (same_any 7 g g' _ _ m1 m2 S1 S2 _ (.inl rfl) HXB.out.a.own.1 HXB.out.b.own.1 HKa.out HKb.out).mono ?_
              rintro e wC ⟨rr, rfl, hrr, hbC⟩
              obtain rfl : rr = r := by rw [Bool.eq_iff_iff]; exact hrr.trans HRR.out.symm
              have HXC := Lib.hid (HXB.out.below hbC)
              have hbeq : (rr == rr) = true := beq_self_eq_true rr
              clear hrr hbC
              go_wp2_with fail
              exact bodyPost_ret (results_tmp rfl _ _ _) rfl ⟨rfl, HXC.out.a.own.2.1⟩
end Go.Proofs.Ytfhpodeppmnopaa
