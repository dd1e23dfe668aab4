/-
  A hand parted in the great coin and the small ones. Conditions: at most a thousand coins.
-/
import Derived.Test.YtammeedmccblcaaCsPu
namespace Go.Proofs.Ytammeedmccblcaa.Cs
open Go.RowKit

def restC (A : Option Addr) (n c z : Nat) : Value := .slice (if c = z then A else A.map (fun x => x.add (z * 2))) (n - z) (c - z)
theorem run_restC (A : Option Addr) (n c z : Nat) (hz : z ≤ n) (_hc : n ≤ c) (W : World) :
    (Instr.slice 58 (.slice A n c) (some (.int .i64 (z : Int))) none none).run Try.prog W = .ok (restC A n c z) W := by
  obtain ⟨i0, z0, hi, _, hz1, _⟩ := slt_coin.i
  have hel : Try.prog.elem 58 = 75 := by kernel_rfl
  have ht : Try.prog.underlying 58 = some (.slice (Try.prog.elem 58)) := by rw [hel]; exact slt_coin.u
  rw [run_slice_l (ht := ht) (h0 := by omega) (h1 := by omega), hel]
  simp [restC, sizeOf, typeInfo, hi, hz1, sliced, go_sem]
theorem run_frontC (A : Option Addr) (n c z : Nat) (hz : z ≤ c) (W : World) :
    (Instr.slice 58 (.slice A n c) none (some (.int .i64 (z : Int))) none).run Try.prog W = .ok (.slice A z c) W := by
  obtain ⟨i0, z0, hi, _, hz1, _⟩ := slt_coin.i
  have hel : Try.prog.elem 58 = 75 := by kernel_rfl
  have ht : Try.prog.underlying 58 = some (.slice (Try.prog.elem 58)) := by rw [hel]; exact slt_coin.u
  rw [run_slice_h (ht := ht) (h0 := by omega) (h2 := by omega), hel]
  simp [sizeOf, typeInfo, hi, hz1, sliced, go_sem]
theorem CnR.rest {w : World} {B n c z : Nat} {A : Option Addr} {X : List Cn} (h : CnR w B (.slice A n c) X) (hz : z ≤ n) : CnR w B (restC A n c z) (X.drop z) := by
  obtain ⟨A', c', e, h1, h2, h3⟩ := h
  injection e with e1 e2 e3
  subst e1 e2 e3
  have hl : (X.drop z).length = X.length - z := List.length_drop
  refine ⟨_, c - z, by rw [hl]; rfl, by omega, by omega, fun hne => ?_⟩
  obtain ⟨b, o, rfl, hb, hr⟩ := h3 (by omega)
  have hadd : (⟨b, o, none⟩ : Addr).add (z * 2) = ⟨b, o + z * 2, none⟩ := by unfold Addr.add; split <;> simp_all
  refine ⟨b, o + z * 2, by rw [if_neg (by omega), Option.map_some, hadd], hb, fun j u hu => ?_⟩
  obtain ⟨i, e, r, h5, h6, h7⟩ := flat_of cnC 2 (X.drop z) (fun _ _ => rfl) j u hu
  rw [List.getElem?_drop] at h5
  have q := hr _ u (flat_in cnC 2 X (fun _ _ => rfl) (z + i) e h5 r u h6)
  rw [show o + z * 2 + j = o + ((z + i) * 2 + r) by rw [h7, Nat.add_mul]; omega]
  exact q
/-- What is told of the great coin. -/
def GreatV (w : World) (lo : Nat) (v : Value) : Option Cn → Prop
  | none => v = .slice none 0 0
  | some c => ∃ g, v = .slice (some ⟨g, 0, none⟩) 1 1 ∧ lo ≤ g ∧ VRow w g 75 (cnC c)
theorem GreatV.below {w w' : World} {lo : Nat} {v : Value} {o : Option Cn} (h : GreatV w lo v o) (hb : Below w.heap.size w w') : GreatV w' lo v o := by
  cases o with
  | none => exact h
  | some c =>
    obtain ⟨g, h1, h2, h3⟩ := h
    exact ⟨g, h1, h2, h3.below hb h3.lt⟩
theorem bel_drewN {B : Nat} {a w : World} (h : Below B a w) (n : Nat) : Below B a (w.drewN n) := h.trans ⟨rfl, rfl, rfl, Nat.le_refl _, fun _ _ => rfl⟩
theorem least_some : ∀ {l : List Cn}, 0 < l.length → ∃ m, leastD l = some m
  | [], h => by simp at h
  | c :: l, _ => ⟨_, rfl⟩
set_option maxRecDepth 100000 in
set_option maxHeartbeats 12800000 in
theorem parted_any (B : Nat) (need extra rate tries seed tot : Int) (H : List Cn) (u : Value) (w : World) (hu : CnR w B u H) (hB : B ≤ w.heap.size) (hl : H.length ≤ 1000) :
    Calls Try.prog 42 #[.agg (hnC (tkC need extra rate tries seed) u tot).toArray] w fun e w' => ∃ vg vs, e = .returned (.tuple #[vg, vs]) ∧ CnR w' B vs (H.drop (greatN need H)) ∧ GreatV w' w.heap.size vg (leastD (H.take (greatN need H))) ∧ Below w.heap.size w w' := by
  have hgl := greatN_le need H
  obtain ⟨A, c, rfl, hlc, hcm⟩ := hu.form
  obtain ⟨n, hn⟩ : ∃ z, z = H.length := ⟨_, rfl⟩
  rw [← hn] at hu hl hlc hgl ⊢
  obtain ⟨w1, hw1⟩ : ∃ z, z = w.alloc (.cells #[.int .i64 need, .int .i64 extra, .int .i64 rate, .int .i64 tries, .int .u64 seed, .slice A n c, .int .i64 tot] 60) := ⟨_, rfl⟩
  have hb1 : Below w.heap.size w w1 := by rw [hw1]; exact (Below.refl _ _).alloc (Nat.le_refl _) _
  have hv1 : VRow w1 w.heap.size 60 (hnC (tkC need extra rate tries seed) (.slice A n c) tot) := by rw [hw1]; exact VRow.new _ _ (hnC (tkC need extra rate tries seed) (.slice A n c) tot)
  have hu1 : CnR w1 B (.slice A n c) H := hu.below (hb1.mono hB)
  have hidx := index_any w.heap.size need B (.slice A n c) H w1 hu1 (Nat.le_trans hB hb1.size) (by rw [← hn]; exact hl) (hv1.cell rfl) hv1.lt
  obtain ⟨k, hk⟩ : ∃ z, z = greatN need H := ⟨_, rfl⟩
  rw [← hk, ← hn] at hidx
  rw [← hk] at hgl ⊢
  have x5 : w1.cell? ⟨w.heap.size, 5, none⟩ = some (.slice A n c) := hv1.cell rfl
  have hfr := fun W => run_frontC A n c k (Nat.le_trans hgl hlc) W
  have hrs := fun W => run_restC A n c k hgl hlc W
  have hcr : CnR w B (restC A n c k) (H.drop k) := hu.rest hgl
  have HCR := Lib.hid hcr
  have HU := Lib.hid hu
  have HB := Lib.hid hB
  have HIX := Lib.hid hidx
  have HV1 := Lib.hid hv1
  have HB1 := Lib.hid hb1
  have HW1 := Lib.hid hw1
  have HN := Lib.hid hn
  clear hu hB hidx hv1 hb1 hw1 hu1 hn hcr
  obtain ⟨VR, hVR⟩ : ∃ z, z = restC A n c k := ⟨_, rfl⟩
  rw [← hVR] at HCR
  simp only [← hVR] at hrs
  obtain ⟨AR, nR, cR, hform⟩ : ∃ AR nR cR, VR = .slice AR nR cR := ⟨_, _, _, hVR⟩
  subst hform
  clear hVR
  have HRS := Lib.hid hrs
  clear hrs
  obtain ⟨G0, hG0⟩ : ∃ z, z = w.heap.size := ⟨_, rfl⟩
  rw [← hG0] at HV1 HIX
  have HG0 := Lib.hid hG0
  have HK := Lib.hid hk
  clear x5 hk hG0
  by_cases hkn : k < n
  · rw [if_pos hkn] at HIX
    have dk : decide ((k : Int) < 0) = false := decide_eq_false (by omega)
    by_cases hk0 : k = 0
    · as_aux_lemma =>
      subst hk0
      have hg : GreatV w w.heap.size (.slice none 0 0) (leastD (H.take 0)) := rfl
      have HGV := Lib.hid hg
      have HC0 := Lib.hid (show CnR w B (.slice A _ c) (H.drop 0) by rw [List.drop_zero]; exact HU.out)
      clear hg
      unfold tkC hnC
      go_enter Try.func42, Try.ntmps42
      go_upto_region 1 with fail
      change Code.wp _ _ _ _ (w.alloc (.cells #[.int .i64 need, .int .i64 extra, .int .i64 rate, .int .i64 tries, .int .u64 seed, .slice A _ c, .int .i64 tot] 60))
      rw [← HW1.out, ← HG0.out]
      have x5 : w1.cell? ⟨G0, 5, none⟩ = _ := HV1.out.cell rfl
      go_upto_region 2 with (first | (go_at_call 51; refine HIX.out.mono ?_; rintro e w2 ⟨rfl, hb2⟩))
      have V2 := HV1.out.below hb2 HV1.out.lt
      have x6 : w2.cell? ⟨G0, 5, none⟩ = _ := V2.cell rfl
      have hrs := HRS.out
      go_upto_region 7 with fail
      go_quiet (fail)
      go_wp2_with fail
      go_ret2
      have hb := HB1.out.trans (hb2.mono HB1.out.size)
      exact ⟨_, _, rfl, RowR.below HC0.out ((bel_drewN hb _).mono HB.out), rfl, bel_drewN hb _⟩
    · as_aux_lemma =>
      have dk0 : decide (0 < (k : Int)) = true := decide_eq_true (by omega)
      obtain ⟨m0, hm0⟩ := least_some (l := H.take k) (by rw [List.length_take, ← HN.out]; omega)
      rw [hm0]
      have HM0 := Lib.hid hm0
      clear hm0
      unfold tkC hnC
      go_enter Try.func42, Try.ntmps42
      go_upto_region 1 with fail
      change Code.wp _ _ _ _ (w.alloc (.cells #[.int .i64 need, .int .i64 extra, .int .i64 rate, .int .i64 tries, .int .u64 seed, .slice A _ c, .int .i64 tot] 60))
      rw [← HW1.out, ← HG0.out]
      have x5 : w1.cell? ⟨G0, 5, none⟩ = _ := HV1.out.cell rfl
      go_upto_region 2 with (first | (go_at_call 51; refine HIX.out.mono ?_; rintro e w2 ⟨rfl, hb2⟩))
      have V2 := HV1.out.below hb2 HV1.out.lt
      have B2 := HB1.out.trans (hb2.mono HB1.out.size)
      have hcm : ∀ W, Below w.heap.size w W → Calls Try.prog 53 #[.slice A k c, .func (.func 54) #[] #[]] W fun e w' => e = .returned (.agg #[.int .i64 m0.1, .int .i64 (m0.2 : Int)]) ∧ Below W.heap.size W w' := fun W hb =>
        min_any B _ (H.take k) m0 W ((CnR.first HU.out (by rw [← HN.out]; omega)).below (hb.mono HB.out)) (Nat.le_trans HB.out hb.size) (by rw [List.length_take]; omega) HM0.out
      have HCM := Lib.hid (hcm w2 B2)
      have HV2 := Lib.hid V2
      have HB2 := Lib.hid B2
      have x6 : w2.cell? ⟨G0, 5, none⟩ = _ := V2.cell rfl
      clear hcm hb2 V2 B2 x5
      go_upto_region 6 with (first | (go_at_call 53; refine HCM.out.mono ?_; rintro e w3 ⟨rfl, hb3⟩))
      have V3 := Lib.hid (HV2.out.below hb3 HV2.out.lt)
      have B3 := Lib.hid (HB2.out.trans (hb3.mono HB2.out.size))
      clear hb3 x6
      obtain ⟨w4, hw4⟩ : ∃ z, z = w3.alloc (.cells #[.int .i64 m0.1, .int .i64 (m0.2 : Int)] 75) := ⟨_, rfl⟩
      change Code.wp _ _ _ _ (w3.alloc (.cells #[.int .i64 m0.1, .int .i64 (m0.2 : Int)] 75))
      have b34 : Below w3.heap.size w3 w4 := by rw [hw4]; exact (Below.refl _ _).alloc (Nat.le_refl _) _
      have C4 := Lib.hid (show VRow w4 w3.heap.size 75 (cnC m0) by rw [hw4]; exact VRow.new _ _ _)
      rw [← hw4]
      obtain ⟨GC, hGC⟩ : ∃ z, z = w3.heap.size := ⟨_, rfl⟩
      rw [← hGC] at C4
      rw [← hGC]
      have V4 := Lib.hid (V3.out.below b34 V3.out.lt)
      have B4 := Lib.hid (B3.out.trans (b34.mono B3.out.size))
      clear hw4 b34 hGC
      have z0 : w4.cell? ⟨GC, 0, none⟩ = some (.int .i64 m0.1) := C4.out.cell rfl
      have z1 : w4.cell? ⟨GC, 1, none⟩ = some (.int .i64 (m0.2 : Int)) := C4.out.cell rfl
      go_upto_region 7 with fail
      obtain ⟨w5, hw5⟩ : ∃ z, z = w4.alloc (.cells #[.int .i64 m0.1, .int .i64 (m0.2 : Int)] 75) := ⟨_, rfl⟩
      change Code.wp _ _ _ _ (w4.alloc (.cells #[.int .i64 m0.1, .int .i64 (m0.2 : Int)] 75))
      have b45 : Below w4.heap.size w4 w5 := by rw [hw5]; exact (Below.refl _ _).alloc (Nat.le_refl _) _
      have C5 := Lib.hid (show VRow w5 w4.heap.size 75 (cnC m0) by rw [hw5]; exact VRow.new _ _ _)
      rw [← hw5]
      obtain ⟨GE, hGE⟩ : ∃ z, z = w4.heap.size := ⟨_, rfl⟩
      rw [← hGE] at C5
      rw [← hGE]
      have V5 := Lib.hid (V4.out.below b45 V4.out.lt)
      have B5 := Lib.hid (B4.out.trans (b45.mono B4.out.size))
      have HGE := Lib.hid (show w.heap.size ≤ GE by rw [hGE]; exact B4.out.size)
      clear hw5 b45 hGE z0 z1
      have x8 : w5.cell? ⟨G0, 5, none⟩ = _ := V5.out.cell rfl
      have hrs := HRS.out
      go_quiet (fail)
      go_wp2_with fail
      go_ret2
      exact ⟨_, _, rfl, RowR.below HCR.out ((bel_drewN B5.out _).mono HB.out), ⟨GE, rfl, HGE.out, C5.out⟩, bel_drewN B5.out _⟩
  · rw [if_neg hkn] at HIX
    obtain rfl : k = n := by omega
    by_cases hk0 : k = 0
    · as_aux_lemma =>
      subst hk0
      have hg : GreatV w w.heap.size (.slice none 0 0) (leastD (H.take 0)) := rfl
      have HGV := Lib.hid hg
      have HC0 := Lib.hid (show CnR w B (.slice A _ c) (H.drop 0) by rw [List.drop_zero]; exact HU.out)
      clear hg
      unfold tkC hnC
      go_enter Try.func42, Try.ntmps42
      go_upto_region 1 with fail
      change Code.wp _ _ _ _ (w.alloc (.cells #[.int .i64 need, .int .i64 extra, .int .i64 rate, .int .i64 tries, .int .u64 seed, .slice A _ c, .int .i64 tot] 60))
      rw [← HW1.out, ← HG0.out]
      have x5 : w1.cell? ⟨G0, 5, none⟩ = _ := HV1.out.cell rfl
      go_upto_region 2 with (first | (go_at_call 51; refine HIX.out.mono ?_; rintro e w2 ⟨rfl, hb2⟩))
      have V2 := HV1.out.below hb2 HV1.out.lt
      have x6 : w2.cell? ⟨G0, 5, none⟩ = _ := V2.cell rfl
      have hrs := HRS.out
      go_upto_region 7 with fail
      go_quiet (fail)
      go_wp2_with fail
      go_ret2
      have hb := HB1.out.trans (hb2.mono HB1.out.size)
      exact ⟨_, _, rfl, RowR.below HC0.out ((bel_drewN hb _).mono HB.out), rfl, bel_drewN hb _⟩
    · as_aux_lemma =>
      have dk0 : decide (0 < (k : Int)) = true := decide_eq_true (by omega)
      obtain ⟨m0, hm0⟩ := least_some (l := H.take k) (by rw [List.length_take, ← HN.out]; omega)
      rw [hm0]
      have HM0 := Lib.hid hm0
      clear hm0
      unfold tkC hnC
      go_enter Try.func42, Try.ntmps42
      go_upto_region 1 with fail
      change Code.wp _ _ _ _ (w.alloc (.cells #[.int .i64 need, .int .i64 extra, .int .i64 rate, .int .i64 tries, .int .u64 seed, .slice A _ c, .int .i64 tot] 60))
      rw [← HW1.out, ← HG0.out]
      have x5 : w1.cell? ⟨G0, 5, none⟩ = _ := HV1.out.cell rfl
      go_upto_region 2 with (first | (go_at_call 51; refine HIX.out.mono ?_; rintro e w2 ⟨rfl, hb2⟩))
      have V2 := HV1.out.below hb2 HV1.out.lt
      have B2 := HB1.out.trans (hb2.mono HB1.out.size)
      have hcm : ∀ W, Below w.heap.size w W → Calls Try.prog 53 #[.slice A k c, .func (.func 54) #[] #[]] W fun e w' => e = .returned (.agg #[.int .i64 m0.1, .int .i64 (m0.2 : Int)]) ∧ Below W.heap.size W w' := fun W hb =>
        min_any B _ (H.take k) m0 W ((CnR.first HU.out (by rw [← HN.out]; omega)).below (hb.mono HB.out)) (Nat.le_trans HB.out hb.size) (by rw [List.length_take]; omega) HM0.out
      have HCM := Lib.hid (hcm w2 B2)
      have HV2 := Lib.hid V2
      have HB2 := Lib.hid B2
      have x6 : w2.cell? ⟨G0, 5, none⟩ = _ := V2.cell rfl
      clear hcm hb2 V2 B2 x5
      go_upto_region 6 with (first | (go_at_call 53; refine HCM.out.mono ?_; rintro e w3 ⟨rfl, hb3⟩))
      have V3 := Lib.hid (HV2.out.below hb3 HV2.out.lt)
      have B3 := Lib.hid (HB2.out.trans (hb3.mono HB2.out.size))
      clear hb3 x6
      obtain ⟨w4, hw4⟩ : ∃ z, z = w3.alloc (.cells #[.int .i64 m0.1, .int .i64 (m0.2 : Int)] 75) := ⟨_, rfl⟩
      change Code.wp _ _ _ _ (w3.alloc (.cells #[.int .i64 m0.1, .int .i64 (m0.2 : Int)] 75))
      have b34 : Below w3.heap.size w3 w4 := by rw [hw4]; exact (Below.refl _ _).alloc (Nat.le_refl _) _
      have C4 := Lib.hid (show VRow w4 w3.heap.size 75 (cnC m0) by rw [hw4]; exact VRow.new _ _ _)
      rw [← hw4]
      obtain ⟨GC, hGC⟩ : ∃ z, z = w3.heap.size := ⟨_, rfl⟩
      rw [← hGC] at C4
      rw [← hGC]
      have V4 := Lib.hid (V3.out.below b34 V3.out.lt)
      have B4 := Lib.hid (B3.out.trans (b34.mono B3.out.size))
      clear hw4 b34 hGC
      have z0 : w4.cell? ⟨GC, 0, none⟩ = some (.int .i64 m0.1) := C4.out.cell rfl
      have z1 : w4.cell? ⟨GC, 1, none⟩ = some (.int .i64 (m0.2 : Int)) := C4.out.cell rfl
      go_upto_region 7 with fail
      obtain ⟨w5, hw5⟩ : ∃ z, z = w4.alloc (.cells #[.int .i64 m0.1, .int .i64 (m0.2 : Int)] 75) := ⟨_, rfl⟩
      change Code.wp _ _ _ _ (w4.alloc (.cells #[.int .i64 m0.1, .int .i64 (m0.2 : Int)] 75))
      have b45 : Below w4.heap.size w4 w5 := by rw [hw5]; exact (Below.refl _ _).alloc (Nat.le_refl _) _
      have C5 := Lib.hid (show VRow w5 w4.heap.size 75 (cnC m0) by rw [hw5]; exact VRow.new _ _ _)
      rw [← hw5]
      obtain ⟨GE, hGE⟩ : ∃ z, z = w4.heap.size := ⟨_, rfl⟩
      rw [← hGE] at C5
      rw [← hGE]
      have V5 := Lib.hid (V4.out.below b45 V4.out.lt)
      have B5 := Lib.hid (B4.out.trans (b45.mono B4.out.size))
      have HGE := Lib.hid (show w.heap.size ≤ GE by rw [hGE]; exact B4.out.size)
      clear hw5 b45 hGE z0 z1
      have x8 : w5.cell? ⟨G0, 5, none⟩ = _ := V5.out.cell rfl
      have hrs := HRS.out
      go_quiet (fail)
      go_wp2_with fail
      go_ret2
      exact ⟨_, _, rfl, RowR.below HCR.out ((bel_drewN B5.out _).mono HB.out), ⟨GE, rfl, HGE.out, C5.out⟩, bel_drewN B5.out _⟩
end Go.Proofs.Ytammeedmccblcaa.Cs
