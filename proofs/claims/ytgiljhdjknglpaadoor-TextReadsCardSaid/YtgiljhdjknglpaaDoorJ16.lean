/-
  Texts joined: BcSegf, BcRstep, Turn. Conditions: those of each.
-/
import Derived.Test.YtgiljhdjknglpaaDoorJ15
import Derived.Test.YtgiljhdjknglpaaDoorJ4
import Derived.Test.YtgiljhdjknglpaaDoorJ6
import Derived.Test.YtgiljhdjknglpaaDoorJ2
/-
  text.FromSegwit. Conditions: the listed table holds what its text lays; sizes within the reach.
-/
namespace Go.Proofs.YtgiljhdjknglpaaDoor
open Go.RowKit

/-- What reading an address answers, in memory. -/
def SegPost (w : World) (r : SegR) (e : Ending) (w' : World) : Prop :=
  ∃ v, e = .returned (.tuple #[.int .i64 r.v, v, .int .i64 r.e]) ∧ Byt w' w'.heap.size v r.p ∧ Below w.heap.size w w'
theorem segR_e {hrp : List UInt8} {r : FromR} (h : r.e ≠ 0) : segR hrp r = noG r.e := by unfold segR; rw [if_pos h]
theorem segR_h {hrp : List UInt8} {r : FromR} (h : r.e = 0) (h2 : r.h ≠ hrp) : segR hrp r = noG 7 := by unfold segR; rw [if_neg (by simpa using h), if_pos h2]
theorem segR_nil {hrp : List UInt8} {r : FromR} (h : r.e = 0) (h2 : r.h = hrp) (h3 : r.d = []) : segR hrp r = noG 3 := by unfold segR; rw [if_neg (by simpa using h), if_neg (by simpa using h2)]; simp only [h3]
theorem segR_form {hrp : List UInt8} {r : FromR} (h : r.e = 0) (h2 : r.h = hrp) {v : UInt8} {vs : List UInt8} (h3 : r.d = v :: vs) (h4 : 16 < v.toNat ∨ r.m ≠ decide (0 < v.toNat)) : segR hrp r = noG 3 := by
  unfold segR; rw [if_neg (by simpa using h), if_neg (by simpa using h2)]; simp only [h3]; rw [if_pos h4]
theorem segR_reg {hrp : List UInt8} {r : FromR} (h : r.e = 0) (h2 : r.h = hrp) {v : UInt8} {vs : List UInt8} (h3 : r.d = v :: vs) (h4 : ¬ (16 < v.toNat ∨ r.m ≠ decide (0 < v.toNat))) (h5 : (regS 5 8 false vs).1 ≠ 0) : segR hrp r = noG (regS 5 8 false vs).1 := by
  unfold segR; rw [if_neg (by simpa using h), if_neg (by simpa using h2)]; simp only [h3]; rw [if_neg h4, if_pos h5]
theorem segR_fit {hrp : List UInt8} {r : FromR} (h : r.e = 0) (h2 : r.h = hrp) {v : UInt8} {vs : List UInt8} (h3 : r.d = v :: vs) (h4 : ¬ (16 < v.toNat ∨ r.m ≠ decide (0 < v.toNat))) (h5 : (regS 5 8 false vs).1 = 0) (h6 : fitsB v.toNat (regS 5 8 false vs).2.length = false) : segR hrp r = noG 2 := by
  unfold segR; rw [if_neg (by simpa using h), if_neg (by simpa using h2)]; simp only [h3]; rw [if_neg h4, if_neg (by simpa using h5), if_pos h6]
theorem segR_ok {hrp : List UInt8} {r : FromR} (h : r.e = 0) (h2 : r.h = hrp) {v : UInt8} {vs : List UInt8} (h3 : r.d = v :: vs) (h4 : ¬ (16 < v.toNat ∨ r.m ≠ decide (0 < v.toNat))) (h5 : (regS 5 8 false vs).1 = 0) (h6 : fitsB v.toNat (regS 5 8 false vs).2.length = true) : segR hrp r = ⟨0, v.toNat, (regS 5 8 false vs).2⟩ := by
  unfold segR; rw [if_neg (by simpa using h), if_neg (by simpa using h2)]; simp only [h3]; rw [if_neg h4, if_neg (by simpa using h5), if_neg (by rw [h6]; simp)]

set_option maxRecDepth 100000 in
set_option maxHeartbeats 12800000 in
theorem fromseg_any (hrp s : ByteArray) (w : World) (hbe : BechIs w) (hs : s.size ≤ 140737488355328) :
    Calls Tryd.prog 9 #[.string hrp, .string s] w (SegPost w (fromG hrp.data.toList s.data.toList)) := by
  have F := frombech_any s w hbe hs
  obtain ⟨g, hg⟩ : ∃ g, g = fromG hrp.data.toList s.data.toList := ⟨_, rfl⟩
  rw [← hg]
  unfold fromG at hg
  have hok := fun he => fromS_ok (cs := s.data.toList) he
  obtain ⟨r, hr⟩ : ∃ r, r = fromS s.data.toList := ⟨_, rfl⟩
  rw [← hr] at F hg hok
  obtain ⟨H, hH⟩ : ∃ H : ByteArray, H = ⟨r.h.toArray⟩ := ⟨_, rfl⟩
  obtain ⟨k, hk⟩ : ∃ k, k = r.e := ⟨_, rfl⟩
  obtain ⟨m, hm⟩ : ∃ m, m = r.m := ⟨_, rfl⟩
  obtain ⟨d, hd⟩ : ∃ d, d = r.d := ⟨_, rfl⟩
  unfold BechPost at F
  rw [← hH, ← hk, ← hm, ← hd] at F
  have HF := Lib.hid F
  have HG := Lib.hid hg
  have HM := Lib.hid hm
  have HD := Lib.hid hd
  have hHd : H.data.toList = r.h := by rw [hH]
  clear F hg hr
  by_cases hk0 : k = 0
  · have hre : r.e = 0 := by omega
    obtain ⟨o1, o2, o3, o4⟩ := hok hre
    rw [← hd] at o3 o4
    have hdl : d.length ≤ 90 := by omega
    have HO3 := Lib.hid o3
    subst hk0
    obtain ⟨z, hz⟩ : ∃ z, (H.toList == hrp.toList) = z := ⟨_, rfl⟩
    cases z with
    | false =>
      have hne : r.h ≠ hrp.data.toList := fun e => by
        rw [toL, toL, hHd, e] at hz
        simp at hz
      have HR := Lib.hid (segR_h hre hne)
      clear hok o1 o2 o3 o4 hne hH hk hm hd hre hHd HO3
      go_enter Tryd.func9, Tryd.ntmps9
      go_wp2_with fail
      refine HF.out.mono ?_
      rintro e w1 ⟨v, rfl, hv, hb1⟩
      obtain ⟨A, c, rfl⟩ := hv.form
      clear hv
      go_wp2_with fail
      go_ret3
      exact ⟨.slice none 0 0, by rw [HG.out, HR.out]; rfl, by rw [HG.out, HR.out]; exact Byt.nil _ _, hb1⟩
    | true =>
      have heq : r.h = hrp.data.toList := by
        rw [toL, toL, hHd, beq_iff_eq] at hz
        exact hz
      cases hdc : d with
      | nil =>
        have HR := Lib.hid (segR_nil hre heq (hd.symm.trans hdc))
        rw [hdc] at HF
        clear hok o1 o2 o3 o4 heq hH hk hm hd hre hHd HO3 hdc
        go_enter Tryd.func9, Tryd.ntmps9
        go_wp2_with fail
        refine HF.out.mono ?_
        rintro e w1 ⟨v, rfl, hv, hb1⟩
        obtain ⟨A, c, rfl⟩ := hv.form
        clear hv
        go_wp2_with fail
        go_ret3
        exact ⟨.slice none 0 0, by rw [HG.out, HR.out]; rfl, by rw [HG.out, HR.out]; exact Byt.nil _ _, hb1⟩
      | cons q qs =>
        have hrd : r.d = q :: qs := hd.symm.trans hdc
        have HRD := Lib.hid hrd
        have HHE := Lib.hid heq
        have HRE := Lib.hid hre
        rw [hdc] at HF hdl
        have hq := q.toNat_lt
        obtain ⟨n, hn⟩ : ∃ n, n = qs.length := ⟨_, rfl⟩
        rw [List.length_cons, ← hn] at hdl
        have HN := Lib.hid hn
        obtain ⟨a16, ha16⟩ : ∃ b, decide (16 < (q.toNat : Int)) = b := ⟨_, rfl⟩
        obtain ⟨a0, ha0⟩ : ∃ b, decide (0 < (q.toNat : Int)) = b := ⟨_, rfl⟩
        have hf16 : (16 < q.toNat ∨ r.m ≠ decide (0 < q.toNat)) ↔ (a16 = true ∨ (m == a0) = false) := by
          have e1 : a16 = decide (16 < q.toNat) := by rw [← ha16]; exact decide_eq_decide.2 (by omega)
          have e2 : a0 = decide (0 < q.toNat) := by rw [← ha0]; exact decide_eq_decide.2 (by omega)
          rw [e1, e2, hm, decide_eq_true_eq, beq_eq_false_iff_ne]
        have HF16 := Lib.hid hf16
        clear hok o1 o2 o3 o4 heq hH hk hm hd hre hHd HO3 hdc hrd hn hf16
        have ha0N : decide (0 < q.toNat) = a0 := by rw [← ha0]; exact decide_eq_decide.2 (by omega)
        clear ha0
        have hn1 : ((n : Int) + 1 == 0) = false := by rw [beq_eq_false_iff_ne]; omega
        have hqs16 : 16 < q.toNat ↔ a16 = true := by rw [← ha16, decide_eq_true_eq]; omega
        cases a16 with
        | true =>
          have HR := Lib.hid (segR_form HRE.out HHE.out HRD.out (HF16.out.2 (.inl rfl)))
          clear hqs16
          go_enter Tryd.func9, Tryd.ntmps9
          go_wp2_with fail
          refine HF.out.mono ?_
          rintro e w1 ⟨v, rfl, hv, hb1⟩
          obtain ⟨A, c, hvf⟩ := hv.form
          subst hvf
          obtain ⟨A', c', e0, _, _, _, h4⟩ := hv
          obtain ⟨e1, e2, e3⟩ := Value.slice.inj e0
          subst e1 e3
          clear e2 e0
          obtain ⟨b, o, rfl, hb, hbc⟩ := h4 (by simp)
          have hc0 : w1.cell? ⟨b, o, none⟩ = some (.int .u8 (q.toNat : Int)) := hbc 0 q rfl
          have hpos : (0 : Int) < (n : Int) + 1 := by omega
          rw [List.length_cons, ← HN.out]
          clear hbc h4
          go_wp2_with fail
          go_ret3
          exact ⟨.slice none 0 0, by rw [HG.out, HR.out]; rfl, by rw [HG.out, HR.out]; exact Byt.nil _ _, hb1⟩
        | false =>
          have hnf16 : ¬ (16 < q.toNat) := fun h => by have := hqs16.1 h; cases this
          by_cases hma : m = a0
          · subst hma
            have hmm : (m == m) = true := by simp
            have hmn : (m != m) = false := by simp
            have hmx : (!m == m) = false := by cases m <;> rfl
            have hnf : ¬ (16 < q.toNat ∨ r.m ≠ decide (0 < q.toNat)) := fun h => by
              rcases HF16.out.1 h with h | h
              · cases h
              · rw [hmm] at h; cases h
            have hreg := fun h5 => segR_reg HRE.out HHE.out HRD.out hnf h5
            have hfit := fun h5 h6 => segR_fit HRE.out HHE.out HRD.out hnf h5 h6
            have hgood := fun h5 h6 => segR_ok HRE.out HHE.out HRD.out hnf h5 h6
            have hrl := regS_length (f := 5) (t := 8) (pad := false) (ds := qs) (by rw [← HN.out]; omega)
            have REG := fun (A2 : Option Addr) (c2 : Nat) (W : World) (hW : Byt W W.heap.size (.slice A2 n c2) qs) => regroup_any W.heap.size (.slice A2 n c2) qs 5 8 false W hW (Nat.le_refl _) (by rw [← HN.out]; omega)
            obtain ⟨G, hG⟩ : ∃ G, G = regS 5 8 false qs := ⟨_, rfl⟩
            rw [← hG] at hreg hfit hgood hrl
            simp only [← hG] at REG
            obtain ⟨k2, hk2⟩ : ∃ k2, k2 = G.1 := ⟨_, rfl⟩
            rw [← hk2] at hreg hfit hgood
            obtain ⟨np, hnp⟩ : ∃ np, np = G.2.length := ⟨_, rfl⟩
            rw [← hnp] at hfit hgood hrl
            have HREG := Lib.hid hreg
            have HFIT := Lib.hid hfit
            have HGOOD := Lib.hid hgood
            have HRG := Lib.hid REG
            have HK2 := Lib.hid hk2
            have HNP := Lib.hid hnp
            have hq255 : q.toNat < 256 := hq
            clear hqs16 hnf16 hnf hreg hfit hgood REG hG hk2 hnp
            go_enter Tryd.func9, Tryd.ntmps9
            go_wp2_with fail
            refine HF.out.mono ?_
            rintro e w1 ⟨v, rfl, hv, hb1⟩
            obtain ⟨A, c, hvf⟩ := hv.form
            subst hvf
            have hby := hv
            have hcap := hv.cap
            obtain ⟨A', c', e0, _, _, _, h4⟩ := hv
            obtain ⟨e1, e2, e3⟩ := Value.slice.inj e0
            subst e1 e3
            clear e2 e0
            obtain ⟨b, o, rfl, hb, hbc⟩ := h4 (by simp)
            have hc0 : w1.cell? ⟨b, o, none⟩ = some (.int .u8 (q.toNat : Int)) := hbc 0 q rfl
            have hpos : (0 : Int) < (n : Int) + 1 := by omega
            have hct := hby.tail (k := 1) (by simp)
            rw [List.length_cons, ← HN.out] at hcap hct ⊢
            rw [Nat.add_sub_cancel] at hct
            have hadd : (⟨b, o, none⟩ : Addr).add 1 = ⟨b, o + 1, none⟩ := by unfold Addr.add; simp
            have HB1 := Lib.hid hb1
            by_cases hc1 : c = 1
            · rw [if_pos hc1] at hct
              have hn0 : n = 0 := by have := hcap.1; omega
              have hrr := HRG.out (some ⟨b, o, none⟩) (c - 1) w1 hct
              rw [hc1, hn0] at hrr
              have HR1 := Lib.hid (show Calls Tryd.prog 17 #[.slice (some ⟨b, o, none⟩) 0 0, .int .i64 5, .int .i64 8, .bool false] w1 (RegPost w1 G) from hrr)
              clear hrr
              clear hbc h4 hby hct hb1 hcap hadd
              go_wp2_with fail
              refine HR1.out.mono ?_
              rintro e w2 ⟨v2, rfl, hown, hb2⟩
              rw [← HK2.out]
              have hby2 := Byt.of_own hown
              obtain ⟨A3, c3, rfl⟩ := hown.form
              rw [← HNP.out] at hby2 ⊢
              have HBY2 := Lib.hid hby2
              have HB2 := Lib.hid (HB1.out.trans (hb2.mono HB1.out.size))
              have ISP := Lib.hid (isprog_any (q.toNat : Int) np w2)
              clear hown hb2 hby2
              by_cases hk20 : k2 = 0
              · subst hk20
                cases hfb : fitsB (q.toNat : Int) np with
                | false =>
                  have HR := Lib.hid (HFIT.out rfl hfb)
                  rw [hfb] at ISP
                  clear hfb
                  go_wp2_with fail
                  refine ISP.out.mono ?_
                  rintro e w3 ⟨rfl, rfl⟩
                  go_wp2_with fail
                  go_ret3
                  exact ⟨.slice none 0 0, by rw [HG.out, HR.out]; rfl, by rw [HG.out, HR.out]; exact Byt.nil _ _, HB2.out⟩
                | true =>
                  have HR := Lib.hid (HGOOD.out rfl hfb)
                  rw [hfb] at ISP
                  clear hfb
                  go_wp2_with fail
                  refine ISP.out.mono ?_
                  rintro e w3 ⟨rfl, rfl⟩
                  go_wp2_with fail
                  go_ret3
                  exact ⟨.slice A3 np c3, by rw [HG.out, HR.out]; rfl, by rw [HG.out, HR.out]; exact HBY2.out, HB2.out⟩
              · have HR := Lib.hid (HREG.out hk20)
                have hkn : (k2 != 0) = true := by simp only [bne_iff_ne, ne_eq]; exact hk20
                clear hk20
                go_wp2_with fail
                go_ret3
                exact ⟨.slice none 0 0, by rw [HG.out, HR.out]; rfl, by rw [HG.out, HR.out]; exact Byt.nil _ _, HB2.out⟩
            · rw [if_neg hc1, Option.map_some, hadd] at hct
              have HR1 := Lib.hid (HRG.out (some ⟨b, o + 1, none⟩) (c - 1) w1 hct)
              clear hbc h4 hby hct hb1 hcap hadd
              go_wp2_with fail
              refine HR1.out.mono ?_
              rintro e w2 ⟨v2, rfl, hown, hb2⟩
              rw [← HK2.out]
              have hby2 := Byt.of_own hown
              obtain ⟨A3, c3, rfl⟩ := hown.form
              rw [← HNP.out] at hby2 ⊢
              have HBY2 := Lib.hid hby2
              have HB2 := Lib.hid (HB1.out.trans (hb2.mono HB1.out.size))
              have ISP := Lib.hid (isprog_any (q.toNat : Int) np w2)
              clear hown hb2 hby2
              by_cases hk20 : k2 = 0
              · subst hk20
                cases hfb : fitsB (q.toNat : Int) np with
                | false =>
                  have HR := Lib.hid (HFIT.out rfl hfb)
                  rw [hfb] at ISP
                  clear hfb
                  go_wp2_with fail
                  refine ISP.out.mono ?_
                  rintro e w3 ⟨rfl, rfl⟩
                  go_wp2_with fail
                  go_ret3
                  exact ⟨.slice none 0 0, by rw [HG.out, HR.out]; rfl, by rw [HG.out, HR.out]; exact Byt.nil _ _, HB2.out⟩
                | true =>
                  have HR := Lib.hid (HGOOD.out rfl hfb)
                  rw [hfb] at ISP
                  clear hfb
                  go_wp2_with fail
                  refine ISP.out.mono ?_
                  rintro e w3 ⟨rfl, rfl⟩
                  go_wp2_with fail
                  go_ret3
                  exact ⟨.slice A3 np c3, by rw [HG.out, HR.out]; rfl, by rw [HG.out, HR.out]; exact HBY2.out, HB2.out⟩
              · have HR := Lib.hid (HREG.out hk20)
                have hkn : (k2 != 0) = true := by simp only [bne_iff_ne, ne_eq]; exact hk20
                clear hk20
                go_wp2_with fail
                go_ret3
                exact ⟨.slice none 0 0, by rw [HG.out, HR.out]; rfl, by rw [HG.out, HR.out]; exact Byt.nil _ _, HB2.out⟩
          · have hne : (m != a0) = true := by simp only [bne_iff_ne, ne_eq]; exact hma
            have hne2 : (m == a0) = false := by simpa using hma
            have hmx : (!m == a0) = true := by revert hma; cases m <;> cases a0 <;> simp
            have HR := Lib.hid (segR_form HRE.out HHE.out HRD.out (HF16.out.2 (.inr hne2)))
            clear hqs16 hnf16 hma
            go_enter Tryd.func9, Tryd.ntmps9
            go_wp2_with fail
            refine HF.out.mono ?_
            rintro e w1 ⟨v, rfl, hv, hb1⟩
            obtain ⟨A, c, hvf⟩ := hv.form
            subst hvf
            have hby := hv
            have hcap := hv.cap
            obtain ⟨A', c', e0, _, _, _, h4⟩ := hv
            obtain ⟨e1, e2, e3⟩ := Value.slice.inj e0
            subst e1 e3
            clear e2 e0
            obtain ⟨b, o, rfl, hb, hbc⟩ := h4 (by simp)
            have hc0 : w1.cell? ⟨b, o, none⟩ = some (.int .u8 (q.toNat : Int)) := hbc 0 q rfl
            have hpos : (0 : Int) < (n : Int) + 1 := by omega
            rw [List.length_cons, ← HN.out] at hcap ⊢
            clear hbc h4 hby hcap
            go_wp2_with fail
            go_ret3
            exact ⟨.slice none 0 0, by rw [HG.out, HR.out]; rfl, by rw [HG.out, HR.out]; exact Byt.nil _ _, hb1⟩
  · have HR := Lib.hid (segR_e (hrp := hrp.data.toList) (r := r) (by rw [← hk]; exact hk0))
    have hkn : (k != 0) = true := by simp only [bne_iff_ne, ne_eq]; exact hk0
    have HK := Lib.hid hk
    clear hok hk0 hH hk hm hd hHd
    go_enter Tryd.func9, Tryd.ntmps9
    go_wp2_with fail
    refine HF.out.mono ?_
    rintro e w1 ⟨v, rfl, hv, hb1⟩
    obtain ⟨A, c, rfl⟩ := hv.form
    clear hv
    go_wp2_with fail
    go_ret3
    exact ⟨.slice none 0 0, by rw [HG.out, HR.out, HK.out]; rfl, by rw [HG.out, HR.out]; exact Byt.nil _ _, hb1⟩
end Go.Proofs.YtgiljhdjknglpaaDoor

/-
  The reference's step and sum of bech32. Conditions: the numbers are below 2^30.
-/
namespace Go.Proofs.YtgiljhdjknglpaaDoor
open Go.RowKit

theorem mixB_next (up c m : Nat) : (if up / 2 ^ m % 2 = 1 then mixB up c m ^^^ gB m else mixB up c m) = mixB up c (m + 1) := rfl

set_option maxRecDepth 100000 in
set_option maxHeartbeats 1600000 in
theorem rstep_any (c v : Nat) (w : World) (hc : c < 1073741824) (hv : v < 256) :
    Calls Tryd.prog 49 #[.int .u64 c, .int .u8 v] w fun e w' => e = .returned (.int .u64 ((turnB c v : Nat) : Int)) ∧ Below w.heap.size w w' := by
  have hx : bits .xor .u64 ((c : Int) % 33554432 * 32) (v : Int) = ((c % 33554432 * 32 ^^^ v : Nat) : Int) := by
    have h2 : ((c : Int) % 33554432 * 32) = ((c % 33554432 * 32 : Nat) : Int) := by omega
    rw [h2, bits_xor_u64_nat _ _ (by omega) (by omega)]
  have hwv : IntKind.u64.wrap (v : Int) = v := by rw [IntKind.wrap_u64]; omega
  have hu : ((c : Int) / 33554432) = ((c / 33554432 : Nat) : Int) := by omega
  obtain ⟨up, hup⟩ : ∃ up, up = c / 33554432 := ⟨_, rfl⟩
  obtain ⟨z, hz⟩ : ∃ z, z = c % 33554432 * 32 ^^^ v := ⟨_, rfl⟩
  have ht : turnB c v = mixB up z 5 := by rw [hup, hz]; rfl
  have hz2 : z < 1073741824 := by rw [hz]; exact Nat.xor_lt_two_pow (n := 30) (by omega) (by omega)
  have hu2 : up < 1073741824 := by omega
  rw [← hup] at hu
  rw [← hz] at hx
  rw [ht]
  have HT := Lib.hid ht
  clear ht hup hz
  go_enter Tryd.func49, Tryd.ntmps49
  go_wp2_with fail
  clear hx hwv hu
  go_loopw [7, 6, 0] (fun j b cc wr => ∃ m : Nat, m ≤ 5 ∧ j = .int .i64 m ∧ b = .int .u64 ((up / 2 ^ m : Nat) : Int) ∧ cc = .int .u64 ((mixB up z m : Nat) : Int) ∧ wr = w.alloc (.cells #[.int .u64 996825010, .int .u64 642813549, .int .u64 513874426, .int .u64 1027748829, .int .u64 705979059] 68)) (fun j _ _ _ => 5 - (intOf j).toNat)
  case atStart => exact ⟨0, by omega, rfl, by simp, rfl, rfl⟩
  case round =>
    obtain ⟨m, hm, rfl, rfl, rfl, rfl⟩ := hrel
    by_cases h5 : m < 5
    · obtain ⟨b, hb⟩ : ∃ b, b = up / 2 ^ m := ⟨_, rfl⟩
      obtain ⟨y, hy⟩ : ∃ y, y = mixB up z m := ⟨_, rfl⟩
      have hnext := mixB_next up z m
      rw [← hb, ← hy] at hnext
      have hb2 : up / 2 ^ (m + 1) = b / 2 := by rw [hb, Nat.pow_succ, Nat.div_div_eq_div_mul]
      have hbb : b < 1073741824 := by rw [hb]; exact Nat.lt_of_le_of_lt (Nat.div_le_self _ _) hu2
      have hyb : y < 1073741824 := by rw [hy]; exact mixB_lt up z hz2 m
      have hgb := gB_lt m
      have hxor := bits_xor_u64_nat y (gB m) (by omega) (by omega)
      have hwb : IntKind.u64.wrap ((b : Int) / 2) = (b : Int) / 2 := by rw [IntKind.wrap_u64]; omega
      rw [← hb, ← hy]
      have HB := Lib.hid hb2
      clear hb hy hb2
      by_cases hodd : b % 2 = 1
      · rw [if_pos hodd] at hnext
        have HN := Lib.hid hnext
        have hd : ((b : Int) % 2 == 1) = true := by simp; omega
        clear hnext
        obtain rfl | rfl | rfl | rfl | rfl : m = 0 ∨ m = 1 ∨ m = 2 ∨ m = 3 ∨ m = 4 := by omega
        · simp only [gB] at hxor
          go_wp2
          exact ⟨⟨1, by omega, rfl, congrArg (Value.int .u64) (by rw [HB.out]; omega), congrArg (Value.int .u64) (by rw [← HN.out]; first | rfl | exact hxor), trivial⟩, by simp [intOf]⟩
        · simp only [gB] at hxor
          go_wp2
          exact ⟨⟨2, by omega, rfl, congrArg (Value.int .u64) (by rw [HB.out]; omega), congrArg (Value.int .u64) (by rw [← HN.out]; first | rfl | exact hxor), trivial⟩, by simp [intOf]⟩
        · simp only [gB] at hxor
          go_wp2
          exact ⟨⟨3, by omega, rfl, congrArg (Value.int .u64) (by rw [HB.out]; omega), congrArg (Value.int .u64) (by rw [← HN.out]; first | rfl | exact hxor), trivial⟩, by simp [intOf]⟩
        · simp only [gB] at hxor
          go_wp2
          exact ⟨⟨4, by omega, rfl, congrArg (Value.int .u64) (by rw [HB.out]; omega), congrArg (Value.int .u64) (by rw [← HN.out]; first | rfl | exact hxor), trivial⟩, by simp [intOf]⟩
        · simp only [gB] at hxor
          go_wp2
          exact ⟨⟨5, by omega, rfl, congrArg (Value.int .u64) (by rw [HB.out]; omega), congrArg (Value.int .u64) (by rw [← HN.out]; first | rfl | exact hxor), trivial⟩, by simp [intOf]⟩
      · rw [if_neg hodd] at hnext
        have HN := Lib.hid hnext
        have hd : ((b : Int) % 2 == 1) = false := by simp; omega
        clear hnext
        go_wp2
        exact ⟨⟨m + 1, by omega, by go_num, congrArg (Value.int .u64) (by rw [HB.out]; omega), congrArg (Value.int .u64) (by rw [← HN.out]), trivial⟩, by simp [intOf]; omega⟩
    · have hm5 : m = 5 := by omega
      subst hm5
      go_wp2
      go_ret
      exact ⟨rfl, (Below.refl _ _).alloc (Nat.le_refl _) _⟩


theorem rest_take {d : List UInt8} {i : Nat} {q : UInt8} (hq : d[i]? = some q) (c : Nat) : turnsB c (d.take (i + 1)) = turnB (turnsB c (d.take i)) q.toNat := by
  rw [List.take_add_one, hq, turnsB_append]
  rfl

set_option maxRecDepth 100000 in
set_option maxHeartbeats 3200000 in
theorem rsum_any (B : Nat) (s : ByteArray) (x : Value) (d : List UInt8) (w : World) (hx : Byt w B x d) (hB : B ≤ w.heap.size) (hs : s.size ≤ 60000) (hl : d.length ≤ 60000) :
    Calls Tryd.prog 26 #[.string s, x] w fun e w' => e = .returned (.int .u64 ((sumB s.data.toList d : Nat) : Int)) ∧ Below w.heap.size w w' := by
  obtain ⟨A, cx, hxf⟩ := hx.form
  subst hxf
  have HX := Lib.hid hx
  obtain ⟨h, hh⟩ : ∃ h, h = s.data.toList := ⟨_, rfl⟩
  have hhs : h.length = s.size := by rw [hh]; rfl
  rw [← hh]
  have HH := Lib.hid hh
  have HHS := Lib.hid hhs
  obtain ⟨r, hr⟩ : ∃ r, r = sumB h d := ⟨_, rfl⟩
  rw [← hr]
  have HR := Lib.hid hr
  have ST := Lib.hid (fun (c v : Nat) (W : World) (hc : c < 1073741824) (hv : v < 256) => rstep_any c v W hc hv)
  clear hx hh hhs hr
  go_enter Tryd.func26, Tryd.ntmps26
  go_wp2_with fail
  go_loopw [6, 5] (fun j cc wr => ∃ i : Nat, i ≤ s.size ∧ j = .int .i64 i ∧ cc = .int .u64 ((turnsB 1 (hiS (h.take i)) : Nat) : Int) ∧ Below w.heap.size w wr) (fun j _ _ => s.size - (intOf j).toNat)
  case atStart => exact ⟨0, Nat.zero_le _, rfl, rfl, Below.refl _ _⟩
  case round =>
    obtain ⟨i, hi, rfl, rfl, hbel⟩ := hrel
    by_cases hlt : i < s.size
    · obtain ⟨q, hq⟩ : ∃ q, q = s[i]'hlt := ⟨_, rfl⟩
      have hqi : h[i]? = some q := by rw [HH.out, hq]; exact Lib.data_getElem? s i hlt
      have hq256 := q.toNat_lt
      have hnext := hi_take hqi 1
      obtain ⟨c, hcc⟩ : ∃ c, c = turnsB 1 (hiS (h.take i)) := ⟨_, rfl⟩
      have hc30 : c < 1073741824 := by rw [hcc]; exact turnsB_lt _ _ (by omega)
      rw [← hcc] at hnext
      rw [← hcc]
      have HN := Lib.hid hnext
      have HB := Lib.hid hbel
      have C1 := fun W => ST.out c (q.toNat / 32) W hc30 (by omega)
      simp only [show ((q.toNat / 32 : Nat) : Int) = (q.toNat : Int) / 32 by omega] at C1
      have C1 := Lib.hid C1
      have hw1 : IntKind.u8.wrap ((q.toNat : Int) / 32) = (q.toNat : Int) / 32 := by rw [IntKind.wrap_u8]; omega
      have hqs : (s[i]'hlt) = q := hq.symm
      clear hbel hnext hqi hcc hq
      go_wp2_with fail
      refine (C1.out _).mono ?_
      rintro e w2 ⟨rfl, hb2⟩
      go_wp2_with fail
      refine ⟨⟨i + 1, by omega, by go_num, ?_, HB.out.trans (hb2.mono HB.out.size)⟩, by simp [intOf]; omega⟩
      rw [HN.out]
    · have hie : h.take i = h := List.take_of_length_le (by have := HHS.out; omega)
      rw [hie]
      obtain ⟨c, hcc⟩ : ∃ c, c = turnsB 1 (hiS h) := ⟨_, rfl⟩
      have hc30 : c < 1073741824 := by rw [hcc]; exact turnsB_lt _ _ (by omega)
      rw [← hcc]
      have HCC := Lib.hid hcc
      have HB := Lib.hid hbel
      have C0 := Lib.hid (fun W => ST.out c 0 W hc30 (by omega))
      clear hie hcc hbel
      go_wp2_with fail
      refine (C0.out _).mono ?_
      rintro e w1 ⟨rfl, hb1⟩
      obtain ⟨c1, hc1⟩ : ∃ c1, c1 = turnB c 0 := ⟨_, rfl⟩
      have hc1l : c1 < 1073741824 := by rw [hc1]; exact turnB_lt _ _ (by decide)
      rw [← hc1]
      have HC1 := Lib.hid hc1
      have HB1 := Lib.hid (HB.out.trans (hb1.mono HB.out.size))
      clear hc1 hb1 HB C0
      go_wp2_with fail
      go_loopw [7, 5] (fun j cc wr => ∃ i : Nat, i ≤ s.size ∧ j = .int .i64 i ∧ cc = .int .u64 ((turnsB c1 (loS (h.take i)) : Nat) : Int) ∧ Below w.heap.size w wr) (fun j _ _ => s.size - (intOf j).toNat)
      case atStart => exact ⟨0, Nat.zero_le _, rfl, rfl, HB1.out⟩
      case round =>
        obtain ⟨i, hi, rfl, rfl, hbel⟩ := hrel
        by_cases hlt : i < s.size
        · obtain ⟨q, hq⟩ : ∃ q, q = s[i]'hlt := ⟨_, rfl⟩
          have hqi : h[i]? = some q := by rw [HH.out, hq]; exact Lib.data_getElem? s i hlt
          have hq256 := q.toNat_lt
          have hnext := lo_take hqi c1
          obtain ⟨c, hcc⟩ : ∃ c, c = turnsB c1 (loS (h.take i)) := ⟨_, rfl⟩
          have hc30 : c < 1073741824 := by rw [hcc]; exact turnsB_lt _ _ hc1l
          rw [← hcc] at hnext
          rw [← hcc]
          have HN := Lib.hid hnext
          have HB := Lib.hid hbel
          have C1 := fun W => ST.out c (q.toNat % 32) W hc30 (by omega)
          simp only [show ((q.toNat % 32 : Nat) : Int) = (q.toNat : Int) % 32 by omega] at C1
          have C1 := Lib.hid C1
          have hqs : (s[i]'hlt) = q := hq.symm
          clear hbel hnext hqi hcc hq
          go_wp2_with fail
          refine (C1.out _).mono ?_
          rintro e w2 ⟨rfl, hb2⟩
          go_wp2_with fail
          refine ⟨⟨i + 1, by omega, by go_num, ?_, HB.out.trans (hb2.mono HB.out.size)⟩, by simp [intOf]; omega⟩
          rw [HN.out]
        · have hie : h.take i = h := List.take_of_length_le (by have := HHS.out; omega)
          rw [hie]
          obtain ⟨c2, hc2⟩ : ∃ c2, c2 = turnsB c1 (loS h) := ⟨_, rfl⟩
          have hc2l : c2 < 1073741824 := by rw [hc2]; exact turnsB_lt _ _ hc1l
          rw [← hc2]
          have HC2 := Lib.hid hc2
          have HB := Lib.hid hbel
          clear hie hc2 hbel
          go_wp2_with fail
          go_loopw [8, 5] (fun j cc wr => ∃ i : Nat, i ≤ d.length ∧ j = .int .i64 i ∧ cc = .int .u64 ((turnsB c2 (d.take i) : Nat) : Int) ∧ Below w.heap.size w wr) (fun j _ _ => d.length - (intOf j).toNat)
          case atStart => exact ⟨0, Nat.zero_le _, rfl, rfl, HB.out⟩
          case round =>
            obtain ⟨i, hi, rfl, rfl, hbel⟩ := hrel
            by_cases hlt : i < d.length
            · obtain ⟨A', c', e0, _, _, _, h4⟩ := HX.out
              obtain ⟨e1, e2, e3⟩ := Value.slice.inj e0
              subst e1 e3
              clear e2 e0
              obtain ⟨b, o, rfl, hb, hbc⟩ := h4 (by rintro rfl; simp at hlt)
              obtain ⟨q, hq⟩ : ∃ q, q = d[i] := ⟨_, rfl⟩
              have hci := hbc i _ (List.getElem?_eq_getElem hlt)
              rw [← hq] at hci
              have hbi : ∀ W, Below w.heap.size w W → W.cell? ⟨b, o + i, none⟩ = some (.int .u8 (q.toNat : Int)) := fun W hW => (hW.cell (p := ⟨b, _, none⟩) (by show b < _; omega)).trans hci
              have hqi : d[i]? = some q := by rw [hq]; exact List.getElem?_eq_getElem hlt
              have hq256 := q.toNat_lt
              have hnext := rest_take hqi c2
              obtain ⟨c, hcc⟩ : ∃ c, c = turnsB c2 (d.take i) := ⟨_, rfl⟩
              have hc30 : c < 1073741824 := by rw [hcc]; exact turnsB_lt _ _ hc2l
              rw [← hcc] at hnext
              rw [← hcc]
              have hbw := hbi _ hbel
              have HN := Lib.hid hnext
              have HB := Lib.hid hbel
              have C1 := Lib.hid (fun W => ST.out c q.toNat W hc30 hq256)
              clear hbel hnext hqi hcc hq hci hbc h4 hbi
              go_wp2_with fail
              refine (C1.out _).mono ?_
              rintro e w2 ⟨rfl, hb2⟩
              go_wp2_with fail
              refine ⟨⟨i + 1, by omega, by go_num, ?_, HB.out.trans (hb2.mono HB.out.size)⟩, by simp [intOf]; omega⟩
              rw [HN.out]
            · have hie : d.take i = d := List.take_of_length_le (by omega)
              rw [hie]
              have hrr : turnsB c2 d = r := by rw [HR.out, HC2.out, HC1.out, HCC.out, sum_parts]
              rw [hrr]
              clear hie hrr
              go_wp2_with fail
              go_ret
              exact ⟨rfl, hbel⟩
end Go.Proofs.YtgiljhdjknglpaaDoor

/-
  The reference's turn and place. Conditions: the numbers are below 2^40.
-/
namespace Go.Proofs.YtgiljhdjknglpaaDoor
open Go.RowKit

theorem mixN_next (up c m : Nat) : (if up / 2 ^ m % 2 = 1 then mixN up c m ^^^ gN m else mixN up c m) = mixN up c (m + 1) := rfl

/-- Where a byte stands, up to i none. -/
theorem posB_at {al : ByteArray} {c : UInt8} {i : Nat} (hi : i < al.size) (hall : ∀ (k : Nat) (d : UInt8), k < i → al.data.toList[k]? = some d → d ≠ c) (hc : al[i] = c) : posB al c = i := by
  unfold posB
  have hg := Lib.data_getElem? al i hi
  rw [hc] at hg
  have hge := Lib.indexByte_ge al.data.toList c
  by_cases h : Lib.indexByte al.data.toList c = -1
  · exact absurd hg (Lib.indexByte_none h i)
  · obtain ⟨o, ho⟩ : ∃ o : Nat, Lib.indexByte al.data.toList c = o := ⟨(Lib.indexByte al.data.toList c).toNat, by omega⟩
    obtain ⟨h1, h2⟩ := Lib.indexByte_some ho
    rw [ho]
    have h3 : ¬ i < o := fun h => h2 i h hg
    have h4 : ¬ o < i := fun h => hall o c h h1 rfl
    have : o = i := by omega
    rw [this]
theorem posB_no {al : ByteArray} {c : UInt8} (hall : ∀ (k : Nat) (d : UInt8), k < al.size → al.data.toList[k]? = some d → d ≠ c) : posB al c = -1 := by
  unfold posB
  have hge := Lib.indexByte_ge al.data.toList c
  by_cases h : Lib.indexByte al.data.toList c = -1
  · exact h
  · obtain ⟨o, ho⟩ : ∃ o : Nat, Lib.indexByte al.data.toList c = o := ⟨(Lib.indexByte al.data.toList c).toNat, by omega⟩
    have h1 := (Lib.indexByte_some ho).1
    exact absurd rfl (hall o c ((List.getElem?_eq_some_iff.1 h1).1) h1)

set_option maxRecDepth 100000 in
set_option maxHeartbeats 1600000 in
theorem place_any (al : ByteArray) (c : UInt8) (w : World) (hal : al.size ≤ 255) :
    Calls Tryd.prog 25 #[.string al, .int .u8 (c.toNat : Int)] w fun e w' => e = .returned (.int .i64 (posB al c)) ∧ w = w' := by
  go_enter Tryd.func25, Tryd.ntmps25
  go_wp2_with fail
  go_loopw [5] (fun j wr => ∃ i : Nat, i ≤ al.size ∧ j = .int .i64 i ∧ wr = w ∧ Hid (∀ (k : Nat) (d : UInt8), k < i → al.data.toList[k]? = some d → d ≠ c)) (fun j _ => al.size - (intOf j).toNat)
  case atStart => exact ⟨0, Nat.zero_le _, rfl, rfl, Lib.hid (fun k d h => by omega)⟩
  case round =>
    obtain ⟨i, hi, rfl, rfl, hall⟩ := hrel
    by_cases hlt : i < al.size
    · by_cases hq : al[i] = c
      · have hd : (((al[i]'hlt).toNat : Int) == (c.toNat : Int)) = true := by rw [hq]; simp
        have HP := Lib.hid (posB_at hlt hall.out hq)
        clear hq
        go_wp2
        go_ret
        exact ⟨by rw [HP.out]; rfl, rfl⟩
      · have hd : (((al[i]'hlt).toNat : Int) == (c.toNat : Int)) = false := by
          have : (al[i]'hlt).toNat ≠ c.toNat := fun h => hq (UInt8.toNat_inj.1 h)
          simp; omega
        have HA : Hid (∀ (k : Nat) (d : UInt8), k < i + 1 → al.data.toList[k]? = some d → d ≠ c) := Lib.hid (fun k d hk hd2 => by
          by_cases hki : k < i
          · exact hall.out k d hki hd2
          · have : k = i := by omega
            subst this
            rw [Lib.data_getElem? al k hlt] at hd2
            injection hd2 with hd2
            rw [← hd2]
            exact hq)
        clear hq hall
        go_wp2
        refine ⟨⟨i + 1, by omega, by go_num, trivial, HA⟩, by simp [intOf]; omega⟩
    · have HP := Lib.hid (posB_no (al := al) (c := c) (fun k d hk hd => hall.out k d (by omega) hd))
      clear hall
      go_wp2
      go_ret
      exact ⟨by rw [HP.out]; rfl, rfl⟩
end Go.Proofs.YtgiljhdjknglpaaDoor
