/-
  TextReads returns true for every input, and leaves each argument as it was: any text is read as the one address that it is, or refused with the right error. Conditions: none beyond the statement's own (the listed variables hold what the program's text lays; the card ties them).
-/
import Derived.Test.YtgiljhdjknglpaaDoorJ16
import Derived.Test.YtgiljhdjknglpaaDoorJ17
import Derived.Test.YtgiljhdjknglpaaDoorJ18
import Derived.Test.YtgiljhdjknglpaaDoorJ15
import Derived.Test.YtgiljhdjknglpaaDoorJ4
import Derived.OpenShut
import Derived.SizedLaws
import Derived.ChangeMaps5
import Derived.Lay
/-
  The reference's FromSegwit. Conditions: sizes within the reach.
-/
namespace Go.Proofs.YtgiljhdjknglpaaDoor
open Go.RowKit

set_option maxRecDepth 100000 in
set_option maxHeartbeats 12800000 in
theorem reffromseg_any (hrp s : ByteArray) (w : World) (hs : s.size ≤ 140737488355328) :
    Calls Tryd.prog 10 #[.string hrp, .string s] w (SegPost w (fromG hrp.data.toList s.data.toList)) := by
  have F := reffrom_any s w hs
  obtain ⟨g, hg⟩ : ∃ g, g = fromG hrp.data.toList s.data.toList := ⟨_, rfl⟩
  rw [← hg]
  unfold fromG at hg
  have hok := fun he => fromS_ok (cs := s.data.toList) he
  obtain ⟨r, hr⟩ : ∃ r, r = fromS s.data.toList := ⟨_, rfl⟩
  rw [← hr] at F hg hok
  obtain ⟨H, hH⟩ : ∃ H : ByteArray, H = ⟨r.h.toArray⟩ := ⟨_, rfl⟩
  obtain ⟨k, hk⟩ : ∃ k, k = r.e := ⟨_, rfl⟩
  obtain ⟨m, hm⟩ : ∃ m, m = r.m := ⟨_, rfl⟩
  obtain ⟨d, hd⟩ : ∃ d, d = r.d := ⟨_, rfl⟩
  unfold BechPost at F
  rw [← hH, ← hk, ← hm, ← hd] at F
  have HF := Lib.hid F
  have HG := Lib.hid hg
  have HM := Lib.hid hm
  have HD := Lib.hid hd
  have hHd : H.data.toList = r.h := by rw [hH]
  clear F hg hr
  by_cases hk0 : k = 0
  · have hre : r.e = 0 := by omega
    obtain ⟨o1, o2, o3, o4⟩ := hok hre
    rw [← hd] at o3 o4
    have hdl : d.length ≤ 90 := by omega
    have HO3 := Lib.hid o3
    subst hk0
    obtain ⟨z, hz⟩ : ∃ z, (H.toList == hrp.toList) = z := ⟨_, rfl⟩
    cases z with
    | false =>
      have hne : r.h ≠ hrp.data.toList := fun e => by
        rw [toL, toL, hHd, e] at hz
        simp at hz
      have HR := Lib.hid (segR_h hre hne)
      clear hok o1 o2 o3 o4 hne hH hk hm hd hre hHd HO3
      go_enter Tryd.func10, Tryd.ntmps10
      go_wp2_with fail
      refine HF.out.mono ?_
      rintro e w1 ⟨v, rfl, hv, hb1⟩
      obtain ⟨A, c, rfl⟩ := hv.form
      clear hv
      go_wp2_with fail
      go_ret3
      exact ⟨.slice none 0 0, by rw [HG.out, HR.out]; rfl, by rw [HG.out, HR.out]; exact Byt.nil _ _, hb1⟩
    | true =>
      have heq : r.h = hrp.data.toList := by
        rw [toL, toL, hHd, beq_iff_eq] at hz
        exact hz
      cases hdc : d with
      | nil =>
        have HR := Lib.hid (segR_nil hre heq (hd.symm.trans hdc))
        rw [hdc] at HF
        clear hok o1 o2 o3 o4 heq hH hk hm hd hre hHd HO3 hdc
        go_enter Tryd.func10, Tryd.ntmps10
        go_wp2_with fail
        refine HF.out.mono ?_
        rintro e w1 ⟨v, rfl, hv, hb1⟩
        obtain ⟨A, c, rfl⟩ := hv.form
        clear hv
        go_wp2_with fail
        go_ret3
        exact ⟨.slice none 0 0, by rw [HG.out, HR.out]; rfl, by rw [HG.out, HR.out]; exact Byt.nil _ _, hb1⟩
      | cons q qs =>
        have hrd : r.d = q :: qs := hd.symm.trans hdc
        have HRD := Lib.hid hrd
        have HHE := Lib.hid heq
        have HRE := Lib.hid hre
        rw [hdc] at HF hdl
        have hq := q.toNat_lt
        obtain ⟨n, hn⟩ : ∃ n, n = qs.length := ⟨_, rfl⟩
        rw [List.length_cons, ← hn] at hdl
        have HN := Lib.hid hn
        obtain ⟨a16, ha16⟩ : ∃ b, decide (16 < (q.toNat : Int)) = b := ⟨_, rfl⟩
        obtain ⟨a0, ha0⟩ : ∃ b, decide (0 < (q.toNat : Int)) = b := ⟨_, rfl⟩
        have hf16 : (16 < q.toNat ∨ r.m ≠ decide (0 < q.toNat)) ↔ (a16 = true ∨ (m == a0) = false) := by
          have e1 : a16 = decide (16 < q.toNat) := by rw [← ha16]; exact decide_eq_decide.2 (by omega)
          have e2 : a0 = decide (0 < q.toNat) := by rw [← ha0]; exact decide_eq_decide.2 (by omega)
          rw [e1, e2, hm, decide_eq_true_eq, beq_eq_false_iff_ne]
        have HF16 := Lib.hid hf16
        clear hok o1 o2 o3 o4 heq hH hk hm hd hre hHd HO3 hdc hrd hn hf16
        have ha0N : decide (0 < q.toNat) = a0 := by rw [← ha0]; exact decide_eq_decide.2 (by omega)
        clear ha0
        have hn1 : ((n : Int) + 1 == 0) = false := by rw [beq_eq_false_iff_ne]; omega
        have hqs16 : 16 < q.toNat ↔ a16 = true := by rw [← ha16, decide_eq_true_eq]; omega
        cases a16 with
        | true =>
          have HR := Lib.hid (segR_form HRE.out HHE.out HRD.out (HF16.out.2 (.inl rfl)))
          clear hqs16
          go_enter Tryd.func10, Tryd.ntmps10
          go_wp2_with fail
          refine HF.out.mono ?_
          rintro e w1 ⟨v, rfl, hv, hb1⟩
          obtain ⟨A, c, hvf⟩ := hv.form
          subst hvf
          obtain ⟨A', c', e0, _, _, _, h4⟩ := hv
          obtain ⟨e1, e2, e3⟩ := Value.slice.inj e0
          subst e1 e3
          clear e2 e0
          obtain ⟨b, o, rfl, hb, hbc⟩ := h4 (by simp)
          have hc0 : w1.cell? ⟨b, o, none⟩ = some (.int .u8 (q.toNat : Int)) := hbc 0 q rfl
          have hpos : (0 : Int) < (n : Int) + 1 := by omega
          rw [List.length_cons, ← HN.out]
          clear hbc h4
          go_wp2_with fail
          go_ret3
          exact ⟨.slice none 0 0, by rw [HG.out, HR.out]; rfl, by rw [HG.out, HR.out]; exact Byt.nil _ _, hb1⟩
        | false =>
          have hnf16 : ¬ (16 < q.toNat) := fun h => by have := hqs16.1 h; cases this
          by_cases hma : m = a0
          · subst hma
            have hmm : (m == m) = true := by simp
            have hmn : (m != m) = false := by simp
            have hmx : (!m == m) = false := by cases m <;> rfl
            have hnf : ¬ (16 < q.toNat ∨ r.m ≠ decide (0 < q.toNat)) := fun h => by
              rcases HF16.out.1 h with h | h
              · cases h
              · rw [hmm] at h; cases h
            have hreg := fun h5 => segR_reg HRE.out HHE.out HRD.out hnf h5
            have hfit := fun h5 h6 => segR_fit HRE.out HHE.out HRD.out hnf h5 h6
            have hgood := fun h5 h6 => segR_ok HRE.out HHE.out HRD.out hnf h5 h6
            have hrl := regS_length (f := 5) (t := 8) (pad := false) (ds := qs) (by rw [← HN.out]; omega)
            have REG := fun (A2 : Option Addr) (c2 : Nat) (W : World) (hW : Byt W W.heap.size (.slice A2 n c2) qs) => refReg_any W.heap.size (.slice A2 n c2) qs 5 8 false W hW (Nat.le_refl _) (by rw [← HN.out]; omega)
            obtain ⟨G, hG⟩ : ∃ G, G = regS 5 8 false qs := ⟨_, rfl⟩
            rw [← hG] at hreg hfit hgood hrl
            simp only [← hG] at REG
            obtain ⟨k2, hk2⟩ : ∃ k2, k2 = G.1 := ⟨_, rfl⟩
            rw [← hk2] at hreg hfit hgood
            obtain ⟨np, hnp⟩ : ∃ np, np = G.2.length := ⟨_, rfl⟩
            rw [← hnp] at hfit hgood hrl
            have HREG := Lib.hid hreg
            have HFIT := Lib.hid hfit
            have HGOOD := Lib.hid hgood
            have HRG := Lib.hid REG
            have HK2 := Lib.hid hk2
            have HNP := Lib.hid hnp
            have hq255 : q.toNat < 256 := hq
            clear hqs16 hnf16 hnf hreg hfit hgood REG hG hk2 hnp
            go_enter Tryd.func10, Tryd.ntmps10
            go_wp2_with fail
            refine HF.out.mono ?_
            rintro e w1 ⟨v, rfl, hv, hb1⟩
            obtain ⟨A, c, hvf⟩ := hv.form
            subst hvf
            have hby := hv
            have hcap := hv.cap
            obtain ⟨A', c', e0, _, _, _, h4⟩ := hv
            obtain ⟨e1, e2, e3⟩ := Value.slice.inj e0
            subst e1 e3
            clear e2 e0
            obtain ⟨b, o, rfl, hb, hbc⟩ := h4 (by simp)
            have hc0 : w1.cell? ⟨b, o, none⟩ = some (.int .u8 (q.toNat : Int)) := hbc 0 q rfl
            have hpos : (0 : Int) < (n : Int) + 1 := by omega
            have hct := hby.tail (k := 1) (by simp)
            rw [List.length_cons, ← HN.out] at hcap hct ⊢
            rw [Nat.add_sub_cancel] at hct
            have hadd : (⟨b, o, none⟩ : Addr).add 1 = ⟨b, o + 1, none⟩ := by unfold Addr.add; simp
            have HB1 := Lib.hid hb1
            by_cases hc1 : c = 1
            · rw [if_pos hc1] at hct
              have hn0 : n = 0 := by have := hcap.1; omega
              have hrr := HRG.out (some ⟨b, o, none⟩) (c - 1) w1 hct
              rw [hc1, hn0] at hrr
              have HR1 := Lib.hid (show Calls Tryd.prog 28 #[.slice (some ⟨b, o, none⟩) 0 0, .int .i64 5, .int .i64 8, .bool false] w1 (RegPost w1 G) from hrr)
              clear hrr
              clear hbc h4 hby hct hb1 hcap hadd
              go_wp2_with fail
              refine HR1.out.mono ?_
              rintro e w2 ⟨v2, rfl, hown, hb2⟩
              have hc2 : w2.cell? ⟨b, o, none⟩ = some (.int .u8 (q.toNat : Int)) := (hb2.cell (p := ⟨b, o, none⟩) hb).trans hc0
              rw [← HK2.out]
              have hby2 := Byt.of_own hown
              obtain ⟨A3, c3, rfl⟩ := hown.form
              rw [← HNP.out] at hby2 ⊢
              have HBY2 := Lib.hid hby2
              have HB2 := Lib.hid (HB1.out.trans (hb2.mono HB1.out.size))
              have ISP := Lib.hid (rfits_any (q.toNat : Int) np w2)
              clear hown hb2 hby2
              by_cases hk20 : k2 = 0
              · subst hk20
                cases hfb : fitsB (q.toNat : Int) np with
                | false =>
                  have HR := Lib.hid (HFIT.out rfl hfb)
                  rw [hfb] at ISP
                  clear hfb
                  go_wp2_with fail
                  refine ISP.out.mono ?_
                  rintro e w3 ⟨rfl, rfl⟩
                  go_wp2_with fail
                  go_ret3
                  exact ⟨.slice none 0 0, by rw [HG.out, HR.out]; rfl, by rw [HG.out, HR.out]; exact Byt.nil _ _, HB2.out⟩
                | true =>
                  have HR := Lib.hid (HGOOD.out rfl hfb)
                  rw [hfb] at ISP
                  clear hfb
                  go_wp2_with fail
                  refine ISP.out.mono ?_
                  rintro e w3 ⟨rfl, rfl⟩
                  go_wp2_with fail
                  go_ret3
                  exact ⟨.slice A3 np c3, by rw [HG.out, HR.out]; rfl, by rw [HG.out, HR.out]; exact HBY2.out, HB2.out⟩
              · have HR := Lib.hid (HREG.out hk20)
                have hkn : (k2 != 0) = true := by simp only [bne_iff_ne, ne_eq]; exact hk20
                clear hk20
                go_wp2_with fail
                go_ret3
                exact ⟨.slice none 0 0, by rw [HG.out, HR.out]; rfl, by rw [HG.out, HR.out]; exact Byt.nil _ _, HB2.out⟩
            · rw [if_neg hc1, Option.map_some, hadd] at hct
              have HR1 := Lib.hid (HRG.out (some ⟨b, o + 1, none⟩) (c - 1) w1 hct)
              clear hbc h4 hby hct hb1 hcap hadd
              go_wp2_with fail
              refine HR1.out.mono ?_
              rintro e w2 ⟨v2, rfl, hown, hb2⟩
              have hc2 : w2.cell? ⟨b, o, none⟩ = some (.int .u8 (q.toNat : Int)) := (hb2.cell (p := ⟨b, o, none⟩) hb).trans hc0
              rw [← HK2.out]
              have hby2 := Byt.of_own hown
              obtain ⟨A3, c3, rfl⟩ := hown.form
              rw [← HNP.out] at hby2 ⊢
              have HBY2 := Lib.hid hby2
              have HB2 := Lib.hid (HB1.out.trans (hb2.mono HB1.out.size))
              have ISP := Lib.hid (rfits_any (q.toNat : Int) np w2)
              clear hown hb2 hby2
              by_cases hk20 : k2 = 0
              · subst hk20
                cases hfb : fitsB (q.toNat : Int) np with
                | false =>
                  have HR := Lib.hid (HFIT.out rfl hfb)
                  rw [hfb] at ISP
                  clear hfb
                  go_wp2_with fail
                  refine ISP.out.mono ?_
                  rintro e w3 ⟨rfl, rfl⟩
                  go_wp2_with fail
                  go_ret3
                  exact ⟨.slice none 0 0, by rw [HG.out, HR.out]; rfl, by rw [HG.out, HR.out]; exact Byt.nil _ _, HB2.out⟩
                | true =>
                  have HR := Lib.hid (HGOOD.out rfl hfb)
                  rw [hfb] at ISP
                  clear hfb
                  go_wp2_with fail
                  refine ISP.out.mono ?_
                  rintro e w3 ⟨rfl, rfl⟩
                  go_wp2_with fail
                  go_ret3
                  exact ⟨.slice A3 np c3, by rw [HG.out, HR.out]; rfl, by rw [HG.out, HR.out]; exact HBY2.out, HB2.out⟩
              · have HR := Lib.hid (HREG.out hk20)
                have hkn : (k2 != 0) = true := by simp only [bne_iff_ne, ne_eq]; exact hk20
                clear hk20
                go_wp2_with fail
                go_ret3
                exact ⟨.slice none 0 0, by rw [HG.out, HR.out]; rfl, by rw [HG.out, HR.out]; exact Byt.nil _ _, HB2.out⟩
          · have hne : (m != a0) = true := by simp only [bne_iff_ne, ne_eq]; exact hma
            have hne2 : (m == a0) = false := by simpa using hma
            have hmx : (!m == a0) = true := by revert hma; cases m <;> cases a0 <;> simp
            have HR := Lib.hid (segR_form HRE.out HHE.out HRD.out (HF16.out.2 (.inr hne2)))
            clear hqs16 hnf16 hma
            go_enter Tryd.func10, Tryd.ntmps10
            go_wp2_with fail
            refine HF.out.mono ?_
            rintro e w1 ⟨v, rfl, hv, hb1⟩
            obtain ⟨A, c, hvf⟩ := hv.form
            subst hvf
            have hby := hv
            have hcap := hv.cap
            obtain ⟨A', c', e0, _, _, _, h4⟩ := hv
            obtain ⟨e1, e2, e3⟩ := Value.slice.inj e0
            subst e1 e3
            clear e2 e0
            obtain ⟨b, o, rfl, hb, hbc⟩ := h4 (by simp)
            have hc0 : w1.cell? ⟨b, o, none⟩ = some (.int .u8 (q.toNat : Int)) := hbc 0 q rfl
            have hpos : (0 : Int) < (n : Int) + 1 := by omega
            rw [List.length_cons, ← HN.out] at hcap ⊢
            clear hbc h4 hby hcap
            go_wp2_with fail
            go_ret3
            exact ⟨.slice none 0 0, by rw [HG.out, HR.out]; rfl, by rw [HG.out, HR.out]; exact Byt.nil _ _, hb1⟩
  · have HR := Lib.hid (segR_e (hrp := hrp.data.toList) (r := r) (by rw [← hk]; exact hk0))
    have hkn : (k != 0) = true := by simp only [bne_iff_ne, ne_eq]; exact hk0
    have HK := Lib.hid hk
    clear hok hk0 hH hk hm hd hHd
    go_enter Tryd.func10, Tryd.ntmps10
    go_wp2_with fail
    refine HF.out.mono ?_
    rintro e w1 ⟨v, rfl, hv, hb1⟩
    obtain ⟨A, c, rfl⟩ := hv.form
    clear hv
    go_wp2_with fail
    go_ret3
    exact ⟨.slice none 0 0, by rw [HG.out, HR.out, HK.out]; rfl, by rw [HG.out, HR.out]; exact Byt.nil _ _, hb1⟩
end Go.Proofs.YtgiljhdjknglpaaDoor

/-
  The law on reading: any text is read as the reference reads it. Conditions: the listed tables hold what their texts lay.
-/
namespace Go.Proofs.YtgiljhdjknglpaaDoor
open Go.RowKit

set_option maxRecDepth 100000 in
set_option maxHeartbeats 12800000 in
theorem reads_law (s hrp : ByteArray) (w : World) (hc : CodeIs w) (hbe : BechIs w) (hs : s.size ≤ 140737488355328) (hr2 : hrp.size ≤ 140737488355328) :
    Calls Tryd.prog 3 #[.string s, .string hrp] w fun e w' => e = .returned (.bool true) ∧ Below w.heap.size w w' := by
  have HA := Lib.hid (awake_any w hc)
  have HBE := Lib.hid hbe
  clear hc hbe
  by_cases hbig : 200 < s.size
  · as_aux_lemma =>
      have d1 : decide (200 < (s.size : Int)) = true := decide_eq_true (by omega)
      go_enter Tryd.func3, Tryd.ntmps3
      go_wp2_with fail
      refine HA.out.mono ?_
      rintro e w1 ⟨rfl, hb1⟩
      have hs1 := hb1.size
      have HB1 := Lib.hid hb1
      clear hb1 HA
      go_wp2_with fail
      obtain ⟨Sx, hSx⟩ : ∃ Sx, Sx = s.extract 0 200 := ⟨_, rfl⟩
      have hsx : Sx.size ≤ 200 := by rw [hSx, ByteArray.size_extract]; omega
      rw [← hSx]
      clear hSx d1 hs
      obtain ⟨cs, hcs⟩ : ∃ cs, cs = Sx.data.toList := ⟨_, rfl⟩
      obtain ⟨hh, hhh⟩ : ∃ hh, hh = hrp.data.toList := ⟨_, rfl⟩
      have hcsl : cs.length = Sx.size := by rw [hcs]; rfl
      have HCSL := Lib.hid hcsl
      have P1 := frombech_any Sx w1 (HBE.out.below HB1.out HBE.out.1) (by omega)
      have P2 := fun W => reffrom_any Sx W (by omega)
      have P3 := fun W hW => fromseg_any hrp Sx W hW (by omega)
      have P4 := fun W => reffromseg_any hrp Sx W (by omega)
      rw [← hcs] at P1
      simp only [← hcs, ← hhh] at P2 P3 P4
      obtain ⟨r, hr⟩ : ∃ r, r = fromS cs := ⟨_, rfl⟩
      obtain ⟨g, hg⟩ : ∃ g, g = fromG hh cs := ⟨_, rfl⟩
      rw [← hr] at P1
      simp only [← hr, ← hg] at P2 P3 P4
      unfold BechPost at P1 P2
      unfold SegPost at P3 P4
      obtain ⟨H, hH⟩ : ∃ H : ByteArray, H = ⟨r.h.toArray⟩ := ⟨_, rfl⟩
      obtain ⟨k, hk⟩ : ∃ k, k = r.e := ⟨_, rfl⟩
      obtain ⟨m, hm⟩ : ∃ m, m = r.m := ⟨_, rfl⟩
      obtain ⟨d, hd⟩ : ∃ d, d = r.d := ⟨_, rfl⟩
      obtain ⟨gv, hgv⟩ : ∃ gv, gv = g.v := ⟨_, rfl⟩
      obtain ⟨ge, hge⟩ : ∃ ge, ge = g.e := ⟨_, rfl⟩
      obtain ⟨gp, hgp⟩ : ∃ gp, gp = g.p := ⟨_, rfl⟩
      rw [← hH, ← hk, ← hm, ← hd] at P1
      simp only [← hH, ← hk, ← hm, ← hd] at P2
      simp only [← hgv, ← hge, ← hgp] at P3 P4
      have HP1 := Lib.hid P1
      have HP2 := Lib.hid P2
      have HP3 := Lib.hid P3
      have HP4 := Lib.hid P4
      have HG := Lib.hid hg
      have HGV := Lib.hid hgv
      have HGE := Lib.hid hge
      have HGP := Lib.hid hgp
      have HHH := Lib.hid hhh
      have hHH : (H.toList == H.toList) = true := by simp
      have hmm : (m == m) = true := by simp
      have hkk : (k == k) = true := by simp
      have hvv : (gv == gv) = true := by simp
      have hee : (ge == ge) = true := by simp
      clear P1 P2 P3 P4 hr hg hH hk hm hd hgv hge hgp hcs hhh hcsl
      refine HP1.out.mono ?_
      rintro e w2 ⟨v2, rfl, hv2, hb2⟩
      obtain ⟨A2, c2, rfl⟩ := hv2.form
      have hs2 := hb2.size
      have HV2 := Lib.hid hv2
      have HB2 := Lib.hid (HB1.out.trans (hb2.mono hs1))
      clear hv2 hb2 HP1
      go_wp2_with fail
      refine (HP2.out _).mono ?_
      rintro e w3 ⟨v3, rfl, hv3, hb3⟩
      obtain ⟨A3, c3, rfl⟩ := hv3.form
      have hs3 := hb3.size
      have E1 := Lib.hid (equal_yes _ _ _ _ _ _ w3 (HV2.out.below hb3) hv3 rfl)
      have HB3 := Lib.hid (HB2.out.trans (hb3.mono HB2.out.size))
      clear hv3 hb3 HP2 HV2
      go_wp2_with fail
      refine E1.out.mono ?_
      rintro e w3' ⟨rfl, rfl⟩
      have P3 := Lib.hid (HP3.out _ (HBE.out.below HB3.out HBE.out.1))
      go_wp2_with fail
      refine P3.out.mono ?_
      rintro e w4 ⟨v4, rfl, hv4, hb4⟩
      obtain ⟨A4, c4, rfl⟩ := hv4.form
      have HV4 := Lib.hid hv4
      have HB4 := Lib.hid (HB3.out.trans (hb4.mono HB3.out.size))
      clear hv4 hb4 HP3 P3 E1
      go_wp2_with fail
      refine (HP4.out _).mono ?_
      rintro e w5 ⟨v5, rfl, hv5, hb5⟩
      obtain ⟨A5, c5, rfl⟩ := hv5.form
      have hs5 := hb5.size
      have E2 := Lib.hid (equal_yes _ _ _ _ _ _ w5 (HV4.out.below hb5) hv5 rfl)
      have HB5 := Lib.hid (HB4.out.trans (hb5.mono HB4.out.size))
      have HV5 := Lib.hid (HV4.out.below hb5)
      clear hv5 hb5 HP4 HV4
      go_wp2_with fail
      refine E2.out.mono ?_
      rintro e w5' ⟨rfl, rfl⟩
      by_cases hk0 : ge = 0
      · subst hk0
        obtain ⟨a1, a2, a3, a4⟩ := seg_again (hrp := hh) (cs := cs) (by rw [← HG.out, ← HGE.out])
        rw [← HG.out, ← HGV.out, ← HGP.out] at a1 a2
        obtain ⟨_, _, f3, _⟩ := segS_ok a1
        have hp40 := (fitsB_le f3).2
        have P5 := segwit_any _ hrp gv _ gp _ (HBE.out.below HB5.out HBE.out.1) HV5.out (by omega) hr2 (by omega)
        rw [← HHH.out, a1] at P5
        obtain ⟨Z, hZ⟩ : ∃ Z : ByteArray, Z = ⟨(segS hh gv gp).2.toArray⟩ := ⟨_, rfl⟩
        have hZs : Z.size = Sx.size := by rw [hZ]; show ((segS hh gv gp).2.toArray).size = _; rw [List.size_toArray, a2, HCSL.out]
        rw [← hZ] at P5
        have HP5 := Lib.hid P5
        have P6 := fun W => refbech_any 0 hrp (.slice none 0 0) [] false W (Byt.nil _ _) (Nat.zero_le _) hr2 (by simp)
        have hlow := bechS_good (h := hh) (d := []) (by simp; omega) a3 rfl false
        simp only [← HHH.out, hlow] at P6
        obtain ⟨Y, hY⟩ : ∃ Y : ByteArray, Y = ⟨(hh ++ [49] ++ letters l32 ([] ++ closeB hh [] false)).toArray⟩ := ⟨_, rfl⟩
        have hYs : Y.size = hh.length + 7 := by rw [hY]; show ((hh ++ [49] ++ letters l32 ([] ++ closeB hh [] false)).toArray).size = _; rw [List.size_toArray, splitOk_len, List.length_append, closeB_length]; simp
        simp only [← hY] at P6
        have HP6 := Lib.hid P6
        have dY : decide (0 < (Y.size : Int)) = true := decide_eq_true (by omega)
        have dY2 : 0 < Y.size := by omega
        have dZ : ((Z.size : Int) == (Sx.size : Int)) = true := by rw [hZs]; simp
        have HZS := Lib.hid hZs
        have HYS := Lib.hid hYs
        clear a1 a2 a3 a4 f3 P5 P6 hZ hlow hY hZs hYs
        go_wp2_with fail
        refine HP5.out.mono ?_
        rintro e w6 ⟨rfl, hb6⟩
        have HB6 := Lib.hid (HB5.out.trans (hb6.mono HB5.out.size))
        clear hb6
        go_wp2_with fail
        refine (HP6.out _).mono ?_
        rintro e w7 ⟨rfl, hb7⟩
        have HB7 := Lib.hid (HB6.out.trans (hb7.mono HB6.out.size))
        clear hb7
        go_wp2_with fail
        go_ret
        exact ⟨rfl, HB7.out⟩
      · have hkn : (ge != 0) = true := by simp only [bne_iff_ne, ne_eq]; exact hk0
        clear hk0
        go_wp2_with fail
        go_ret
        exact ⟨rfl, HB5.out⟩
  · as_aux_lemma =>
      have d1 : decide (200 < (s.size : Int)) = false := decide_eq_false (by omega)
      go_enter Tryd.func3, Tryd.ntmps3
      go_wp2_with fail
      refine HA.out.mono ?_
      rintro e w1 ⟨rfl, hb1⟩
      have hs1 := hb1.size
      have HB1 := Lib.hid hb1
      clear hb1 HA
      go_wp2_with fail
      obtain ⟨Sx, hSx⟩ : ∃ Sx, Sx = s := ⟨_, rfl⟩
      have hsx : Sx.size ≤ 200 := by rw [hSx]; omega
      rw [← hSx]
      clear hSx d1 hs
      obtain ⟨cs, hcs⟩ : ∃ cs, cs = Sx.data.toList := ⟨_, rfl⟩
      obtain ⟨hh, hhh⟩ : ∃ hh, hh = hrp.data.toList := ⟨_, rfl⟩
      have hcsl : cs.length = Sx.size := by rw [hcs]; rfl
      have HCSL := Lib.hid hcsl
      have P1 := frombech_any Sx w1 (HBE.out.below HB1.out HBE.out.1) (by omega)
      have P2 := fun W => reffrom_any Sx W (by omega)
      have P3 := fun W hW => fromseg_any hrp Sx W hW (by omega)
      have P4 := fun W => reffromseg_any hrp Sx W (by omega)
      rw [← hcs] at P1
      simp only [← hcs, ← hhh] at P2 P3 P4
      obtain ⟨r, hr⟩ : ∃ r, r = fromS cs := ⟨_, rfl⟩
      obtain ⟨g, hg⟩ : ∃ g, g = fromG hh cs := ⟨_, rfl⟩
      rw [← hr] at P1
      simp only [← hr, ← hg] at P2 P3 P4
      unfold BechPost at P1 P2
      unfold SegPost at P3 P4
      obtain ⟨H, hH⟩ : ∃ H : ByteArray, H = ⟨r.h.toArray⟩ := ⟨_, rfl⟩
      obtain ⟨k, hk⟩ : ∃ k, k = r.e := ⟨_, rfl⟩
      obtain ⟨m, hm⟩ : ∃ m, m = r.m := ⟨_, rfl⟩
      obtain ⟨d, hd⟩ : ∃ d, d = r.d := ⟨_, rfl⟩
      obtain ⟨gv, hgv⟩ : ∃ gv, gv = g.v := ⟨_, rfl⟩
      obtain ⟨ge, hge⟩ : ∃ ge, ge = g.e := ⟨_, rfl⟩
      obtain ⟨gp, hgp⟩ : ∃ gp, gp = g.p := ⟨_, rfl⟩
      rw [← hH, ← hk, ← hm, ← hd] at P1
      simp only [← hH, ← hk, ← hm, ← hd] at P2
      simp only [← hgv, ← hge, ← hgp] at P3 P4
      have HP1 := Lib.hid P1
      have HP2 := Lib.hid P2
      have HP3 := Lib.hid P3
      have HP4 := Lib.hid P4
      have HG := Lib.hid hg
      have HGV := Lib.hid hgv
      have HGE := Lib.hid hge
      have HGP := Lib.hid hgp
      have HHH := Lib.hid hhh
      have hHH : (H.toList == H.toList) = true := by simp
      have hmm : (m == m) = true := by simp
      have hkk : (k == k) = true := by simp
      have hvv : (gv == gv) = true := by simp
      have hee : (ge == ge) = true := by simp
      clear P1 P2 P3 P4 hr hg hH hk hm hd hgv hge hgp hcs hhh hcsl
      refine HP1.out.mono ?_
      rintro e w2 ⟨v2, rfl, hv2, hb2⟩
      obtain ⟨A2, c2, rfl⟩ := hv2.form
      have hs2 := hb2.size
      have HV2 := Lib.hid hv2
      have HB2 := Lib.hid (HB1.out.trans (hb2.mono hs1))
      clear hv2 hb2 HP1
      go_wp2_with fail
      refine (HP2.out _).mono ?_
      rintro e w3 ⟨v3, rfl, hv3, hb3⟩
      obtain ⟨A3, c3, rfl⟩ := hv3.form
      have hs3 := hb3.size
      have E1 := Lib.hid (equal_yes _ _ _ _ _ _ w3 (HV2.out.below hb3) hv3 rfl)
      have HB3 := Lib.hid (HB2.out.trans (hb3.mono HB2.out.size))
      clear hv3 hb3 HP2 HV2
      go_wp2_with fail
      refine E1.out.mono ?_
      rintro e w3' ⟨rfl, rfl⟩
      have P3 := Lib.hid (HP3.out _ (HBE.out.below HB3.out HBE.out.1))
      go_wp2_with fail
      refine P3.out.mono ?_
      rintro e w4 ⟨v4, rfl, hv4, hb4⟩
      obtain ⟨A4, c4, rfl⟩ := hv4.form
      have HV4 := Lib.hid hv4
      have HB4 := Lib.hid (HB3.out.trans (hb4.mono HB3.out.size))
      clear hv4 hb4 HP3 P3 E1
      go_wp2_with fail
      refine (HP4.out _).mono ?_
      rintro e w5 ⟨v5, rfl, hv5, hb5⟩
      obtain ⟨A5, c5, rfl⟩ := hv5.form
      have hs5 := hb5.size
      have E2 := Lib.hid (equal_yes _ _ _ _ _ _ w5 (HV4.out.below hb5) hv5 rfl)
      have HB5 := Lib.hid (HB4.out.trans (hb5.mono HB4.out.size))
      have HV5 := Lib.hid (HV4.out.below hb5)
      clear hv5 hb5 HP4 HV4
      go_wp2_with fail
      refine E2.out.mono ?_
      rintro e w5' ⟨rfl, rfl⟩
      by_cases hk0 : ge = 0
      · subst hk0
        obtain ⟨a1, a2, a3, a4⟩ := seg_again (hrp := hh) (cs := cs) (by rw [← HG.out, ← HGE.out])
        rw [← HG.out, ← HGV.out, ← HGP.out] at a1 a2
        obtain ⟨_, _, f3, _⟩ := segS_ok a1
        have hp40 := (fitsB_le f3).2
        have P5 := segwit_any _ hrp gv _ gp _ (HBE.out.below HB5.out HBE.out.1) HV5.out (by omega) hr2 (by omega)
        rw [← HHH.out, a1] at P5
        obtain ⟨Z, hZ⟩ : ∃ Z : ByteArray, Z = ⟨(segS hh gv gp).2.toArray⟩ := ⟨_, rfl⟩
        have hZs : Z.size = Sx.size := by rw [hZ]; show ((segS hh gv gp).2.toArray).size = _; rw [List.size_toArray, a2, HCSL.out]
        rw [← hZ] at P5
        have HP5 := Lib.hid P5
        have P6 := fun W => refbech_any 0 hrp (.slice none 0 0) [] false W (Byt.nil _ _) (Nat.zero_le _) hr2 (by simp)
        have hlow := bechS_good (h := hh) (d := []) (by simp; omega) a3 rfl false
        simp only [← HHH.out, hlow] at P6
        obtain ⟨Y, hY⟩ : ∃ Y : ByteArray, Y = ⟨(hh ++ [49] ++ letters l32 ([] ++ closeB hh [] false)).toArray⟩ := ⟨_, rfl⟩
        have hYs : Y.size = hh.length + 7 := by rw [hY]; show ((hh ++ [49] ++ letters l32 ([] ++ closeB hh [] false)).toArray).size = _; rw [List.size_toArray, splitOk_len, List.length_append, closeB_length]; simp
        simp only [← hY] at P6
        have HP6 := Lib.hid P6
        have dY : decide (0 < (Y.size : Int)) = true := decide_eq_true (by omega)
        have dY2 : 0 < Y.size := by omega
        have dZ : ((Z.size : Int) == (Sx.size : Int)) = true := by rw [hZs]; simp
        have HZS := Lib.hid hZs
        have HYS := Lib.hid hYs
        clear a1 a2 a3 a4 f3 P5 P6 hZ hlow hY hZs hYs
        go_wp2_with fail
        refine HP5.out.mono ?_
        rintro e w6 ⟨rfl, hb6⟩
        have HB6 := Lib.hid (HB5.out.trans (hb6.mono HB5.out.size))
        clear hb6
        go_wp2_with fail
        refine (HP6.out _).mono ?_
        rintro e w7 ⟨rfl, hb7⟩
        have HB7 := Lib.hid (HB6.out.trans (hb7.mono HB6.out.size))
        clear hb7
        go_wp2_with fail
        go_ret
        exact ⟨rfl, HB7.out⟩
      · have hkn : (ge != 0) = true := by simp only [bne_iff_ne, ne_eq]; exact hk0
        clear hk0
        go_wp2_with fail
        go_ret
        exact ⟨rfl, HB5.out⟩
end Go.Proofs.YtgiljhdjknglpaaDoor

/-
  TextReads returns true for every input, and leaves each argument as it was: any text is read as the one address that it is, or refused with the right error. Conditions: none beyond the statement's own (the listed variables hold what the program's text lays; the card ties them).
-/
namespace Go.Proofs.YtgiljhdjknglpaaDoor
open Go.ChangeShapes Go.WideShapes Go.ChangeAt Go.RowKit Go.ChangeMaps

set_option maxRecDepth 100000 in
theorem textReads_lifted (os : Os) (started : os.Started) (H : Type) (enc : TypeId × Value → H) :
    ReturnsInHanded {} Tryd.checked os 3 .any (fun w args => (Rows.textReadsSpec.pre enc Tryd.prog Tryd.f3 [] false w args ∧ laidMetH Tryd.prog laidL w) ∧ sizedMet enc Tryd.prog Tryd.f3 (OpenSpec.ofChange Rows.textReadsSpec) false w args)
      (Rows.textReadsSpec.post enc Tryd.prog Tryd.f3 false true false false) := by
  refine returnsInHanded_of_change_and (C := Tryd.checked) (X := fun w _ => laidMetH Tryd.prog laidL w) (fun _ _ _ hh h => h.of_heap hh) own started (by kernel_rfl) Tryd.func3
    (ChangeSpec.witness_shaped (enc := enc) (C := Tryd.checked) (os := os) (X := fun w _ => laidMetH Tryd.prog laidL w) false (World.laidAll Tryd.prog os laidL) #[.string ⟨#[]⟩, .string ⟨#[]⟩] 8 (World.laidAll_os _ _ _) (World.shaped_of_ZipB (by kernel_rfl) (by kernel_rfl)) (by kernel_rfl) (by kernel_rfl) (by kernel_rfl)
      (by rw [MakeChecks.laidMetH_plain _ _ _ (by kernel_rfl)]; exact laidMet_laidAll _ (by kernel_rfl) (by kernel_rfl))) ?_
  intro W base args ds gs before hval0 hW _ hsz hL _
  have hval : ∀ (j : Nat) t v, Tryd.f3.params[j]? = some t → args[j]? = some v → Value.okWide Tryd.prog W .any base t v := hval0
  have hW' := hW
  obtain ⟨p, q, hA0, hV, rfl, hfz, hnd⟩ := hW
  have hA : DataW.TrodAll enc Tryd.prog W 0 (fun _ => true) true Tryd.f3.params.toList args.toList ds p := hA0
  rw [Tryd.params3] at hA hval
  obtain ⟨v0, v1, d0, d1, p0, p1, rfl, rfl, rfl, h0, h1⟩ := trodAll_two hA
  obtain ⟨rfl, rfl⟩ := trodVars_none hV
  obtain ⟨s0, rfl, rfl, rfl, ws0⟩ := open_string Tryd.underlying9 (hval 0 9 v0 rfl rfl) h0
  obtain ⟨s1, rfl, rfl, rfl, ws1⟩ := open_string Tryd.underlying9 (hval 1 9 v1 rfl rfl) h1
  clear hA0 hval0
  have hr0 : s0.size ≤ 140737488351232 := by
    have h := sized_string hsz (j := 0) (t := 9) rfl rfl
    rw [Array.length_toList] at h
    exact h
  have hr1 : s1.size ≤ 140737488351232 := by
    have h := sized_string hsz (j := 1) (t := 9) rfl rfl
    rw [Array.length_toList] at h
    exact h
  refine (reads_law s0 s1 W (code_of_laid hL) (bech_of_laid hL) (by omega) (by omega)).mono fun e W' ⟨he, bel⟩ => ?_
  subst he
  exact ⟨_, rfl, _, _, _, [], _, [], hW', trodAll_mk1 (shut_bool Tryd.underlying4 _), trodAll_mk2 (shut_string Tryd.underlying9 ws0) (shut_string Tryd.underlying9 ws1), rfl, bel.frame _, fun h => by cases h⟩

theorem textReads_row : Rows.TextReadsSaid :=
  OpenClaim.holds_of_wide 3 Tryd.f3 rfl rfl rfl rfl rfl rfl rfl ⟨rfl, rfl, rfl, rfl, rfl⟩ rfl rfl rfl rfl rfl (by kernel_rfl) Tryd.func3 (by kernel_rfl)
    (of_decide_eq_true (by kernel_rfl)) (by unfold Func.isWrapper; first | (rw [if_pos (by decide +kernel)]; kernel_rfl) | (rw [if_neg (by decide +kernel)]; exact ⟨rfl, rfl⟩))
    (fun os started H enc _ => textReads_lifted os started H enc)

theorem textReads_holds : Rows.TextReadsCardSaid :=
  Claim7.holds_tied_plain_at .later [] [.data, .wider, .wider, .pinned, .pinned] true _ false
    textReads_row (fun _ h => by cases h) (by kernel_rfl) (fun _ h => by cases h) textReads_row_tie rfl ⟨rfl, rfl⟩ (by kernel_rfl) rfl
    (fun f fn hf hfn => by
      obtain rfl : f = 3 := Option.some.inj ((show Tryd.prog.funcNamed "strongbox/strongboxlaw03.TextReads" = some 3 by kernel_rfl).symm.trans hf) |>.symm
      obtain rfl : fn = Tryd.f3 := (Option.some.inj (Tryd.func3.symm.trans hfn)).symm
      exact ⟨by kernel_rfl, fun j t ht => by
        rw [Tryd.params3] at ht
        have hm : t ∈ [9, 9] := by simpa using Array.mem_of_getElem? ht
        have hall : ([9, 9].all fun u => !Tryd.prog.wantsStandIn u) = true := by kernel_rfl
        exact (show Tryd.prog.wantsStandIn t = false by simpa using List.all_eq_true.1 hall t hm)⟩)
    (by kernel_rfl)
#print axioms textReads_holds
end Go.Proofs.YtgiljhdjknglpaaDoor
