/-
  Texts joined: TGrp, BcSegw, BcSegf. Conditions: those of each.
-/
import Derived.Test.YtocblkacdoahfaaGreatDoorJ27
import Derived.Test.YtocblkacdoahfaaGreatDoorJ11
import Derived.Test.YtocblkacdoahfaaGreatDoorJ23
import Derived.Test.YtocblkacdoahfaaGreatDoorJ29
import Derived.Test.YtocblkacdoahfaaGreatDoorJ21
import Derived.Test.YtocblkacdoahfaaGreatDoorJ26
/-
  The law on values of some bits as values of others. Conditions: the listed table holds what its text lays.
-/
namespace Go.Proofs.YtocblkacdoahfaaGreatDoor.Tx
open Go.RowKit

theorem regS_code {f t : Int} {pad : Bool} {ds : List UInt8} (h : (regS f t pad ds).1 = 0) : 1 ≤ f ∧ f ≤ 8 ∧ 1 ≤ t ∧ t ≤ 8 ∧ ∀ d ∈ ds, d.toNat < 2 ^ f.toNat := by
  unfold regS at h
  split at h
  · cases h
  · next h1 =>
    split at h
    · cases h
    · next h2 =>
      refine ⟨by omega, by omega, by omega, by omega, fun d hd => ?_⟩
      rcases Nat.lt_or_ge d.toNat (2 ^ f.toNat) with h | h
      · exact h
      · exact absurd ⟨d, hd, h⟩ h2
theorem regS_back {f t : Int} {ds : List UInt8} (h : (regS f t true ds).1 = 0) (htf : t ≤ f) : regS t f false (regS f t true ds).2 = (0, ds) := by
  obtain ⟨h1, h2, h3, h4, h5⟩ := regS_code h
  obtain ⟨a, rfl⟩ : ∃ a : Nat, f = a := ⟨f.toNat, by omega⟩
  obtain ⟨b, rfl⟩ : ∃ b : Nat, t = b := ⟨t.toNat, by omega⟩
  exact reg_back (by omega) (by omega) (by omega) (by omega) (by omega) h5
theorem regS_length {f t : Int} {pad : Bool} {ds : List UInt8} (hl : ds.length ≤ 200) : (regS f t pad ds).2.length ≤ 2000 := by
  unfold regS
  split
  · simp
  · split
    · simp
    · have h1 : (bitsAll f.toNat ds).length ≤ 200 * 8 := by rw [bitsAll_length]; exact Nat.mul_le_mul hl (by omega)
      have h2 : (bitsAll f.toNat ds).length / t.toNat ≤ (bitsAll f.toNat ds).length := Nat.div_le_self _ _
      simp only
      split
      · split
        · simp only [List.length_append, outsN_length, List.length_cons, List.length_nil]; omega
        · simp only [outsN_length]; omega
      · split
        · simp
        · simp only [outsN_length]; omega

theorem drew_byt {w : World} {B k : Nat} {v : Value} {xs : List UInt8} (h : Byt w B v xs) : Byt (w.drewN k) B v xs := h.keep (fun _ _ _ => rfl)

end Go.Proofs.YtocblkacdoahfaaGreatDoor.Tx

/-
  text.isProgram, text.Segwit, text.FromSegwit. Conditions: the listed table holds what its text lays; sizes within the reach.
-/
namespace Go.Proofs.YtocblkacdoahfaaGreatDoor.Tx
open Go.RowKit

theorem fits_zero (n : Nat) : fitsB 0 n = ((n : Int) == 20 || (n : Int) == 32) := by
  unfold fitsB
  rw [if_pos rfl]
  have e1 : ((n : Int) == 20) = (n == 20) := by rw [Bool.eq_iff_iff, beq_iff_eq, beq_iff_eq]; omega
  have e2 : ((n : Int) == 32) = (n == 32) := by rw [Bool.eq_iff_iff, beq_iff_eq, beq_iff_eq]; omega
  rw [e1, e2]
theorem fits_more {v : Int} (hv : v ≠ 0) (n : Nat) : fitsB v n = (decide (2 ≤ (n : Int)) && decide ((n : Int) ≤ 40)) := by
  unfold fitsB
  rw [if_neg hv]
  have e1 : decide (2 ≤ (n : Int)) = decide (2 ≤ n) := decide_eq_decide.2 (by omega)
  have e2 : decide ((n : Int) ≤ 40) = decide (n ≤ 40) := decide_eq_decide.2 (by omega)
  rw [e1, e2]

set_option maxRecDepth 100000 in
set_option maxHeartbeats 800000 in
theorem isprog_any (v : Int) (n : Nat) (w : World) : Calls Tryz.prog 29 #[.int .i64 v, .int .i64 n] w fun e w' => e = .returned (.bool (fitsB v n)) ∧ w = w' := by
  obtain ⟨r, hr⟩ : ∃ r, r = fitsB v n := ⟨_, rfl⟩
  rw [← hr]
  by_cases hv : v = 0
  · subst hv
    rw [fits_zero] at hr
    obtain ⟨p, hp⟩ : ∃ p, ((n : Int) == 20) = p := ⟨_, rfl⟩
    obtain ⟨q, hq⟩ : ∃ q, ((n : Int) == 32) = q := ⟨_, rfl⟩
    rw [hp, hq] at hr
    subst hr
    cases p <;> cases q
    all_goals go_enter Tryz.func29, Tryz.ntmps29
    all_goals go_wp2
    all_goals go_ret
    all_goals exact ⟨rfl, rfl⟩
  · rw [fits_more hv] at hr
    have hv2 : (v == 0) = false := by simpa using hv
    obtain ⟨p, hp⟩ : ∃ p, decide (2 ≤ (n : Int)) = p := ⟨_, rfl⟩
    obtain ⟨q, hq⟩ : ∃ q, decide ((n : Int) ≤ 40) = q := ⟨_, rfl⟩
    rw [hp, hq] at hr
    subst hr
    clear hv
    cases p <;> cases q
    all_goals go_enter Tryz.func29, Tryz.ntmps29
    all_goals go_wp2
    all_goals go_ret
    all_goals exact ⟨rfl, rfl⟩

theorem segS_arg {h p : List UInt8} {ver : Int} (hv : ver < 0 ∨ 16 < ver) : segS h ver p = (1, []) := by unfold segS; rw [if_pos hv]
theorem segS_size {h p : List UInt8} {ver : Int} (hv : ¬ (ver < 0 ∨ 16 < ver)) (hf : fitsB ver p.length = false) : segS h ver p = (2, []) := by unfold segS; rw [if_neg hv, if_pos hf]
theorem segS_go {h p : List UInt8} {ver : Int} (hv : ¬ (ver < 0 ∨ 16 < ver)) (hf : fitsB ver p.length = true) : segS h ver p = bechS h (b8 ver :: (regS 8 5 true p).2) (decide (0 < ver)) := by unfold segS; rw [if_neg hv, if_neg (by rw [hf]; simp)]

set_option maxRecDepth 100000 in
set_option maxHeartbeats 6400000 in
theorem segwit_any (B : Nat) (s : ByteArray) (ver : Int) (x : Value) (p : List UInt8) (w : World) (hbe : BechIs w) (hx : Byt w B x p) (hB : B ≤ w.heap.size) (hs : s.size ≤ 140737488355328) (hl : p.length ≤ 2000) :
    Calls Tryz.prog 8 #[.string s, .int .i64 ver, x] w fun e w' => e = .returned (.tuple #[.string ⟨(segS s.data.toList ver p).2.toArray⟩, .int .i64 (segS s.data.toList ver p).1]) ∧ Below w.heap.size w w' := by
  obtain ⟨h, hh⟩ : ∃ h, h = s.data.toList := ⟨_, rfl⟩
  obtain ⟨r, hr⟩ : ∃ r, r = segS h ver p := ⟨_, rfl⟩
  rw [← hh, ← hr]
  have HH := Lib.hid hh
  have HX := Lib.hid hx
  have HBE := Lib.hid hbe
  obtain ⟨A, cx, hxf⟩ := hx.form
  subst hxf
  clear hx hbe hh
  by_cases h0 : ver < 0
  · rw [segS_arg (.inl h0)] at hr
    subst hr
    have d0 : decide (ver < 0) = true := decide_eq_true h0
    clear h0
    go_enter Tryz.func8, Tryz.ntmps8
    go_wp2_with fail
    go_ret2
    exact ⟨rfl, Below.refl _ _⟩
  · have d0 : decide (ver < 0) = false := decide_eq_false h0
    by_cases h1 : 16 < ver
    · rw [segS_arg (.inr h1)] at hr
      subst hr
      have d1 : decide (16 < ver) = true := decide_eq_true h1
      clear h0 h1
      go_enter Tryz.func8, Tryz.ntmps8
      go_wp2_with fail
      go_ret2
      exact ⟨rfl, Below.refl _ _⟩
    · have d1 : decide (16 < ver) = false := decide_eq_false h1
      have P := isprog_any ver p.length
      cases hf : fitsB ver p.length with
      | false =>
        rw [segS_size (by omega) hf] at hr
        subst hr
        rw [hf] at P
        have HP := Lib.hid P
        clear h0 h1 hf P
        go_enter Tryz.func8, Tryz.ntmps8
        go_wp2_with fail
        refine (HP.out _).mono ?_
        rintro e w1 ⟨rfl, rfl⟩
        go_wp2_with fail
        go_ret2
        exact ⟨rfl, Below.refl _ _⟩
      | true =>
        rw [segS_go (by omega) hf] at hr
        rw [hf] at P
        have hp40 := fitsB_le hf
        have HP := Lib.hid P
        have HR := Lib.hid hr
        have REG := Lib.hid (regroup_any B _ p 8 5 true w HX.out hB (by omega))
        have hrl := reg85_len p
        have hr0 := reg85 p
        obtain ⟨G, hG⟩ : ∃ G, G = regS 8 5 true p := ⟨_, rfl⟩
        rw [← hG] at REG hrl hr0 HR
        have HG0 := Lib.hid hr0
        have HRL := Lib.hid hrl
        have hw : IntKind.u8.wrap ver = ver := by rw [IntKind.wrap_u8]; omega
        have hpos : 0 ≤ ver := by omega
        have h16 : ver ≤ 16 := by omega
        clear h0 h1 hf P hr hrl hr0 hG
        go_enter Tryz.func8, Tryz.ntmps8
        go_wp2_with fail
        refine (HP.out _).mono ?_
        rintro e w1 ⟨rfl, rfl⟩
        go_wp2_with fail
        refine REG.out.mono ?_
        rintro e w2 ⟨v, rfl, hown, hb2⟩
        rw [HG0.out]
        have hby := Byt.of_own hown
        obtain ⟨A2, c2, rfl⟩ := hown.form
        have HB2 := Lib.hid hb2
        have hm1 : Byt (w2.alloc (.cells #[.int .u8 ver] 5)) (w2.heap.size + 1) (.slice (some ⟨w2.heap.size, 0, none⟩) 1 1) [b8 ver] :=
          Byt.made w2 _ [_] [b8 ver] (by rw [List.map_cons, List.map_nil, bv_b8_of hpos (by omega)]) (by unfold maxLen; simp)
        have hsz2 : (w2.alloc (.cells #[.int .u8 ver] 5)).heap.size = w2.heap.size + 1 := by simp
        have hbag := BagR.made (w2.alloc (.cells #[.int .u8 ver] 5)) 23 [.slice (some ⟨w2.heap.size, 0, none⟩) 1 1, .slice A2 G.2.length c2] [(.slice (some ⟨w2.heap.size, 0, none⟩) 1 1, [b8 ver]), (.slice A2 G.2.length c2, G.2)] rfl (by unfold maxLen; simp) (by
          intro q hq
          simp only [List.mem_cons, List.not_mem_nil, or_false] at hq
          rcases hq with rfl | rfl
          · rw [hsz2]; exact hm1
          · exact (byt_later hby _).more (by rw [hsz2]; omega))
        have hj : joined [((.slice (some ⟨w2.heap.size, 0, none⟩) 1 1 : Value), [b8 ver]), (.slice A2 G.2.length c2, G.2)] = b8 ver :: G.2 := by unfold joined; simp
        rw [hsz2] at hbag
        have C2 := concat_any (w2.heap.size + 1 + 1) _ _ ((w2.alloc (.cells #[.int .u8 ver] 5)).alloc (.cells #[.slice (some ⟨w2.heap.size, 0, none⟩) 1 1, .slice A2 G.2.length c2] 23)) hbag (by simp) (by rw [← joined_length, hj, List.length_cons, HRL.out]; omega)
        rw [hj] at C2
        have HC2 := Lib.hid C2
        have HB3 : Hid (Below w.heap.size w ((w2.alloc (.cells #[.int .u8 ver] 5)).alloc (.cells #[.slice (some ⟨w2.heap.size, 0, none⟩) 1 1, .slice A2 G.2.length c2] 23))) := Lib.hid ((hb2.alloc hb2.size _).alloc (by have := hb2.size; simp; omega) _)
        clear hm1 hsz2 hbag hj C2 hby hown hb2 REG
        go_wp2_with fail
        refine HC2.out.mono ?_
        intro e w3 hfr
        obtain ⟨v3, rfl, hown3, hb3⟩ := fresh_v hfr
        have HB4 := Lib.hid (HB3.out.trans (hb3.mono HB3.out.size))
        have P4 := bech32_any w3.heap.size s v3 (b8 ver :: G.2) (decide (0 < ver)) w3 (HBE.out.below HB4.out HBE.out.1) (Byt.of_own hown3) (Nat.le_refl _) hs (by rw [List.length_cons, HRL.out]; omega)
        rw [← HH.out, ← HR.out] at P4
        obtain ⟨dv, hdv⟩ : ∃ dv, decide (0 < ver) = dv := ⟨_, rfl⟩
        rw [hdv] at P4
        have HP4 := Lib.hid P4
        obtain ⟨A3, c3, rfl⟩ := hown3.form
        clear hfr hown3 hb3 P4
        go_wp2_with fail
        refine HP4.out.mono ?_
        rintro e w4 ⟨rfl, hb4⟩
        have HB5 := Lib.hid (HB4.out.trans (hb4.mono HB4.out.size))
        clear hb4
        go_wp2_with fail
        go_ret2
        exact ⟨rfl, HB5.out⟩
end Go.Proofs.YtocblkacdoahfaaGreatDoor.Tx

/-
  text.FromSegwit. Conditions: the listed table holds what its text lays; sizes within the reach.
-/
namespace Go.Proofs.YtocblkacdoahfaaGreatDoor.Tx
open Go.RowKit

/-- What reading an address answers, in memory. -/
def SegPost (w : World) (r : SegR) (e : Ending) (w' : World) : Prop :=
  ∃ v, e = .returned (.tuple #[.int .i64 r.v, v, .int .i64 r.e]) ∧ Byt w' w'.heap.size v r.p ∧ Below w.heap.size w w'
theorem segR_e {hrp : List UInt8} {r : FromR} (h : r.e ≠ 0) : segR hrp r = noG r.e := by unfold segR; rw [if_pos h]
theorem segR_h {hrp : List UInt8} {r : FromR} (h : r.e = 0) (h2 : r.h ≠ hrp) : segR hrp r = noG 7 := by unfold segR; rw [if_neg (by simpa using h), if_pos h2]
theorem segR_nil {hrp : List UInt8} {r : FromR} (h : r.e = 0) (h2 : r.h = hrp) (h3 : r.d = []) : segR hrp r = noG 3 := by unfold segR; rw [if_neg (by simpa using h), if_neg (by simpa using h2)]; simp only [h3]
theorem segR_form {hrp : List UInt8} {r : FromR} (h : r.e = 0) (h2 : r.h = hrp) {v : UInt8} {vs : List UInt8} (h3 : r.d = v :: vs) (h4 : 16 < v.toNat ∨ r.m ≠ decide (0 < v.toNat)) : segR hrp r = noG 3 := by
  unfold segR; rw [if_neg (by simpa using h), if_neg (by simpa using h2)]; simp only [h3]; rw [if_pos h4]
theorem segR_reg {hrp : List UInt8} {r : FromR} (h : r.e = 0) (h2 : r.h = hrp) {v : UInt8} {vs : List UInt8} (h3 : r.d = v :: vs) (h4 : ¬ (16 < v.toNat ∨ r.m ≠ decide (0 < v.toNat))) (h5 : (regS 5 8 false vs).1 ≠ 0) : segR hrp r = noG (regS 5 8 false vs).1 := by
  unfold segR; rw [if_neg (by simpa using h), if_neg (by simpa using h2)]; simp only [h3]; rw [if_neg h4, if_pos h5]
theorem segR_fit {hrp : List UInt8} {r : FromR} (h : r.e = 0) (h2 : r.h = hrp) {v : UInt8} {vs : List UInt8} (h3 : r.d = v :: vs) (h4 : ¬ (16 < v.toNat ∨ r.m ≠ decide (0 < v.toNat))) (h5 : (regS 5 8 false vs).1 = 0) (h6 : fitsB v.toNat (regS 5 8 false vs).2.length = false) : segR hrp r = noG 2 := by
  unfold segR; rw [if_neg (by simpa using h), if_neg (by simpa using h2)]; simp only [h3]; rw [if_neg h4, if_neg (by simpa using h5), if_pos h6]
theorem segR_ok {hrp : List UInt8} {r : FromR} (h : r.e = 0) (h2 : r.h = hrp) {v : UInt8} {vs : List UInt8} (h3 : r.d = v :: vs) (h4 : ¬ (16 < v.toNat ∨ r.m ≠ decide (0 < v.toNat))) (h5 : (regS 5 8 false vs).1 = 0) (h6 : fitsB v.toNat (regS 5 8 false vs).2.length = true) : segR hrp r = ⟨0, v.toNat, (regS 5 8 false vs).2⟩ := by
  unfold segR; rw [if_neg (by simpa using h), if_neg (by simpa using h2)]; simp only [h3]; rw [if_neg h4, if_neg (by simpa using h5), if_neg (by rw [h6]; simp)]

set_option maxRecDepth 100000 in
set_option maxHeartbeats 12800000 in
theorem fromseg_any (hrp s : ByteArray) (w : World) (hbe : BechIs w) (hs : s.size ≤ 140737488355328) :
    Calls Tryz.prog 9 #[.string hrp, .string s] w (SegPost w (fromG hrp.data.toList s.data.toList)) := by
  have F := frombech_any s w hbe hs
  obtain ⟨g, hg⟩ : ∃ g, g = fromG hrp.data.toList s.data.toList := ⟨_, rfl⟩
  rw [← hg]
  unfold fromG at hg
  have hok := fun he => fromS_ok (cs := s.data.toList) he
  obtain ⟨r, hr⟩ : ∃ r, r = fromS s.data.toList := ⟨_, rfl⟩
  rw [← hr] at F hg hok
  obtain ⟨H, hH⟩ : ∃ H : ByteArray, H = ⟨r.h.toArray⟩ := ⟨_, rfl⟩
  obtain ⟨k, hk⟩ : ∃ k, k = r.e := ⟨_, rfl⟩
  obtain ⟨m, hm⟩ : ∃ m, m = r.m := ⟨_, rfl⟩
  obtain ⟨d, hd⟩ : ∃ d, d = r.d := ⟨_, rfl⟩
  unfold BechPost at F
  rw [← hH, ← hk, ← hm, ← hd] at F
  have HF := Lib.hid F
  have HG := Lib.hid hg
  have HM := Lib.hid hm
  have HD := Lib.hid hd
  have hHd : H.data.toList = r.h := by rw [hH]
  clear F hg hr
  by_cases hk0 : k = 0
  · have hre : r.e = 0 := by omega
    obtain ⟨o1, o2, o3, o4⟩ := hok hre
    rw [← hd] at o3 o4
    have hdl : d.length ≤ 90 := by omega
    have HO3 := Lib.hid o3
    subst hk0
    obtain ⟨z, hz⟩ : ∃ z, (H.toList == hrp.toList) = z := ⟨_, rfl⟩
    cases z with
    | false =>
      have hne : r.h ≠ hrp.data.toList := fun e => by
        rw [toL, toL, hHd, e] at hz
        simp at hz
      have HR := Lib.hid (segR_h hre hne)
      clear hok o1 o2 o3 o4 hne hH hk hm hd hre hHd HO3
      go_enter Tryz.func9, Tryz.ntmps9
      go_wp2_with fail
      refine HF.out.mono ?_
      rintro e w1 ⟨v, rfl, hv, hb1⟩
      obtain ⟨A, c, rfl⟩ := hv.form
      clear hv
      go_wp2_with fail
      go_ret3
      exact ⟨.slice none 0 0, by rw [HG.out, HR.out]; rfl, by rw [HG.out, HR.out]; exact Byt.nil _ _, hb1⟩
    | true =>
      have heq : r.h = hrp.data.toList := by
        rw [toL, toL, hHd, beq_iff_eq] at hz
        exact hz
      cases hdc : d with
      | nil =>
        have HR := Lib.hid (segR_nil hre heq (hd.symm.trans hdc))
        rw [hdc] at HF
        clear hok o1 o2 o3 o4 heq hH hk hm hd hre hHd HO3 hdc
        go_enter Tryz.func9, Tryz.ntmps9
        go_wp2_with fail
        refine HF.out.mono ?_
        rintro e w1 ⟨v, rfl, hv, hb1⟩
        obtain ⟨A, c, rfl⟩ := hv.form
        clear hv
        go_wp2_with fail
        go_ret3
        exact ⟨.slice none 0 0, by rw [HG.out, HR.out]; rfl, by rw [HG.out, HR.out]; exact Byt.nil _ _, hb1⟩
      | cons q qs =>
        have hrd : r.d = q :: qs := hd.symm.trans hdc
        have HRD := Lib.hid hrd
        have HHE := Lib.hid heq
        have HRE := Lib.hid hre
        rw [hdc] at HF hdl
        have hq := q.toNat_lt
        obtain ⟨n, hn⟩ : ∃ n, n = qs.length := ⟨_, rfl⟩
        rw [List.length_cons, ← hn] at hdl
        have HN := Lib.hid hn
        obtain ⟨a16, ha16⟩ : ∃ b, decide (16 < (q.toNat : Int)) = b := ⟨_, rfl⟩
        obtain ⟨a0, ha0⟩ : ∃ b, decide (0 < (q.toNat : Int)) = b := ⟨_, rfl⟩
        have hf16 : (16 < q.toNat ∨ r.m ≠ decide (0 < q.toNat)) ↔ (a16 = true ∨ (m == a0) = false) := by
          have e1 : a16 = decide (16 < q.toNat) := by rw [← ha16]; exact decide_eq_decide.2 (by omega)
          have e2 : a0 = decide (0 < q.toNat) := by rw [← ha0]; exact decide_eq_decide.2 (by omega)
          rw [e1, e2, hm, decide_eq_true_eq, beq_eq_false_iff_ne]
        have HF16 := Lib.hid hf16
        clear hok o1 o2 o3 o4 heq hH hk hm hd hre hHd HO3 hdc hrd hn hf16
        have ha0N : decide (0 < q.toNat) = a0 := by rw [← ha0]; exact decide_eq_decide.2 (by omega)
        clear ha0
        have hn1 : ((n : Int) + 1 == 0) = false := by rw [beq_eq_false_iff_ne]; omega
        have hqs16 : 16 < q.toNat ↔ a16 = true := by rw [← ha16, decide_eq_true_eq]; omega
        cases a16 with
        | true =>
          have HR := Lib.hid (segR_form HRE.out HHE.out HRD.out (HF16.out.2 (.inl rfl)))
          clear hqs16
          go_enter Tryz.func9, Tryz.ntmps9
          go_wp2_with fail
          refine HF.out.mono ?_
          rintro e w1 ⟨v, rfl, hv, hb1⟩
          obtain ⟨A, c, hvf⟩ := hv.form
          subst hvf
          obtain ⟨A', c', e0, _, _, _, h4⟩ := hv
          obtain ⟨e1, e2, e3⟩ := Value.slice.inj e0
          subst e1 e3
          clear e2 e0
          obtain ⟨b, o, rfl, hb, hbc⟩ := h4 (by simp)
          have hc0 : w1.cell? ⟨b, o, none⟩ = some (.int .u8 (q.toNat : Int)) := hbc 0 q rfl
          have hpos : (0 : Int) < (n : Int) + 1 := by omega
          rw [List.length_cons, ← HN.out]
          clear hbc h4
          go_wp2_with fail
          go_ret3
          exact ⟨.slice none 0 0, by rw [HG.out, HR.out]; rfl, by rw [HG.out, HR.out]; exact Byt.nil _ _, hb1⟩
        | false =>
          have hnf16 : ¬ (16 < q.toNat) := fun h => by have := hqs16.1 h; cases this
          by_cases hma : m = a0
          · subst hma
            have hmm : (m == m) = true := by simp
            have hmn : (m != m) = false := by simp
            have hmx : (!m == m) = false := by cases m <;> rfl
            have hnf : ¬ (16 < q.toNat ∨ r.m ≠ decide (0 < q.toNat)) := fun h => by
              rcases HF16.out.1 h with h | h
              · cases h
              · rw [hmm] at h; cases h
            have hreg := fun h5 => segR_reg HRE.out HHE.out HRD.out hnf h5
            have hfit := fun h5 h6 => segR_fit HRE.out HHE.out HRD.out hnf h5 h6
            have hgood := fun h5 h6 => segR_ok HRE.out HHE.out HRD.out hnf h5 h6
            have hrl := regS_length (f := 5) (t := 8) (pad := false) (ds := qs) (by rw [← HN.out]; omega)
            have REG := fun (A2 : Option Addr) (c2 : Nat) (W : World) (hW : Byt W W.heap.size (.slice A2 n c2) qs) => regroup_any W.heap.size (.slice A2 n c2) qs 5 8 false W hW (Nat.le_refl _) (by rw [← HN.out]; omega)
            obtain ⟨G, hG⟩ : ∃ G, G = regS 5 8 false qs := ⟨_, rfl⟩
            rw [← hG] at hreg hfit hgood hrl
            simp only [← hG] at REG
            obtain ⟨k2, hk2⟩ : ∃ k2, k2 = G.1 := ⟨_, rfl⟩
            rw [← hk2] at hreg hfit hgood
            obtain ⟨np, hnp⟩ : ∃ np, np = G.2.length := ⟨_, rfl⟩
            rw [← hnp] at hfit hgood hrl
            have HREG := Lib.hid hreg
            have HFIT := Lib.hid hfit
            have HGOOD := Lib.hid hgood
            have HRG := Lib.hid REG
            have HK2 := Lib.hid hk2
            have HNP := Lib.hid hnp
            have hq255 : q.toNat < 256 := hq
            clear hqs16 hnf16 hnf hreg hfit hgood REG hG hk2 hnp
            go_enter Tryz.func9, Tryz.ntmps9
            go_wp2_with fail
            refine HF.out.mono ?_
            rintro e w1 ⟨v, rfl, hv, hb1⟩
            obtain ⟨A, c, hvf⟩ := hv.form
            subst hvf
            have hby := hv
            have hcap := hv.cap
            obtain ⟨A', c', e0, _, _, _, h4⟩ := hv
            obtain ⟨e1, e2, e3⟩ := Value.slice.inj e0
            subst e1 e3
            clear e2 e0
            obtain ⟨b, o, rfl, hb, hbc⟩ := h4 (by simp)
            have hc0 : w1.cell? ⟨b, o, none⟩ = some (.int .u8 (q.toNat : Int)) := hbc 0 q rfl
            have hpos : (0 : Int) < (n : Int) + 1 := by omega
            have hct := hby.tail (k := 1) (by simp)
            rw [List.length_cons, ← HN.out] at hcap hct ⊢
            rw [Nat.add_sub_cancel] at hct
            have hadd : (⟨b, o, none⟩ : Addr).add 1 = ⟨b, o + 1, none⟩ := by unfold Addr.add; simp
            have HB1 := Lib.hid hb1
            by_cases hc1 : c = 1
            · rw [if_pos hc1] at hct
              have hn0 : n = 0 := by have := hcap.1; omega
              have hrr := HRG.out (some ⟨b, o, none⟩) (c - 1) w1 hct
              rw [hc1, hn0] at hrr
              have HR1 := Lib.hid (show Calls Tryz.prog 30 #[.slice (some ⟨b, o, none⟩) 0 0, .int .i64 5, .int .i64 8, .bool false] w1 (RegPost w1 G) from hrr)
              clear hrr
              clear hbc h4 hby hct hb1 hcap hadd
              go_wp2_with fail
              refine HR1.out.mono ?_
              rintro e w2 ⟨v2, rfl, hown, hb2⟩
              rw [← HK2.out]
              have hby2 := Byt.of_own hown
              obtain ⟨A3, c3, rfl⟩ := hown.form
              rw [← HNP.out] at hby2 ⊢
              have HBY2 := Lib.hid hby2
              have HB2 := Lib.hid (HB1.out.trans (hb2.mono HB1.out.size))
              have ISP := Lib.hid (isprog_any (q.toNat : Int) np w2)
              clear hown hb2 hby2
              by_cases hk20 : k2 = 0
              · subst hk20
                cases hfb : fitsB (q.toNat : Int) np with
                | false =>
                  have HR := Lib.hid (HFIT.out rfl hfb)
                  rw [hfb] at ISP
                  clear hfb
                  go_wp2_with fail
                  refine ISP.out.mono ?_
                  rintro e w3 ⟨rfl, rfl⟩
                  go_wp2_with fail
                  go_ret3
                  exact ⟨.slice none 0 0, by rw [HG.out, HR.out]; rfl, by rw [HG.out, HR.out]; exact Byt.nil _ _, HB2.out⟩
                | true =>
                  have HR := Lib.hid (HGOOD.out rfl hfb)
                  rw [hfb] at ISP
                  clear hfb
                  go_wp2_with fail
                  refine ISP.out.mono ?_
                  rintro e w3 ⟨rfl, rfl⟩
                  go_wp2_with fail
                  go_ret3
                  exact ⟨.slice A3 np c3, by rw [HG.out, HR.out]; rfl, by rw [HG.out, HR.out]; exact HBY2.out, HB2.out⟩
              · have HR := Lib.hid (HREG.out hk20)
                have hkn : (k2 != 0) = true := by simp only [bne_iff_ne, ne_eq]; exact hk20
                clear hk20
                go_wp2_with fail
                go_ret3
                exact ⟨.slice none 0 0, by rw [HG.out, HR.out]; rfl, by rw [HG.out, HR.out]; exact Byt.nil _ _, HB2.out⟩
            · rw [if_neg hc1, Option.map_some, hadd] at hct
              have HR1 := Lib.hid (HRG.out (some ⟨b, o + 1, none⟩) (c - 1) w1 hct)
              clear hbc h4 hby hct hb1 hcap hadd
              go_wp2_with fail
              refine HR1.out.mono ?_
              rintro e w2 ⟨v2, rfl, hown, hb2⟩
              rw [← HK2.out]
              have hby2 := Byt.of_own hown
              obtain ⟨A3, c3, rfl⟩ := hown.form
              rw [← HNP.out] at hby2 ⊢
              have HBY2 := Lib.hid hby2
              have HB2 := Lib.hid (HB1.out.trans (hb2.mono HB1.out.size))
              have ISP := Lib.hid (isprog_any (q.toNat : Int) np w2)
              clear hown hb2 hby2
              by_cases hk20 : k2 = 0
              · subst hk20
                cases hfb : fitsB (q.toNat : Int) np with
                | false =>
                  have HR := Lib.hid (HFIT.out rfl hfb)
                  rw [hfb] at ISP
                  clear hfb
                  go_wp2_with fail
                  refine ISP.out.mono ?_
                  rintro e w3 ⟨rfl, rfl⟩
                  go_wp2_with fail
                  go_ret3
                  exact ⟨.slice none 0 0, by rw [HG.out, HR.out]; rfl, by rw [HG.out, HR.out]; exact Byt.nil _ _, HB2.out⟩
                | true =>
                  have HR := Lib.hid (HGOOD.out rfl hfb)
                  rw [hfb] at ISP
                  clear hfb
                  go_wp2_with fail
                  refine ISP.out.mono ?_
                  rintro e w3 ⟨rfl, rfl⟩
                  go_wp2_with fail
                  go_ret3
                  exact ⟨.slice A3 np c3, by rw [HG.out, HR.out]; rfl, by rw [HG.out, HR.out]; exact HBY2.out, HB2.out⟩
              · have HR := Lib.hid (HREG.out hk20)
                have hkn : (k2 != 0) = true := by simp only [bne_iff_ne, ne_eq]; exact hk20
                clear hk20
                go_wp2_with fail
                go_ret3
                exact ⟨.slice none 0 0, by rw [HG.out, HR.out]; rfl, by rw [HG.out, HR.out]; exact Byt.nil _ _, HB2.out⟩
          · have hne : (m != a0) = true := by simp only [bne_iff_ne, ne_eq]; exact hma
            have hne2 : (m == a0) = false := by simpa using hma
            have hmx : (!m == a0) = true := by revert hma; cases m <;> cases a0 <;> simp
            have HR := Lib.hid (segR_form HRE.out HHE.out HRD.out (HF16.out.2 (.inr hne2)))
            clear hqs16 hnf16 hma
            go_enter Tryz.func9, Tryz.ntmps9
            go_wp2_with fail
            refine HF.out.mono ?_
            rintro e w1 ⟨v, rfl, hv, hb1⟩
            obtain ⟨A, c, hvf⟩ := hv.form
            subst hvf
            have hby := hv
            have hcap := hv.cap
            obtain ⟨A', c', e0, _, _, _, h4⟩ := hv
            obtain ⟨e1, e2, e3⟩ := Value.slice.inj e0
            subst e1 e3
            clear e2 e0
            obtain ⟨b, o, rfl, hb, hbc⟩ := h4 (by simp)
            have hc0 : w1.cell? ⟨b, o, none⟩ = some (.int .u8 (q.toNat : Int)) := hbc 0 q rfl
            have hpos : (0 : Int) < (n : Int) + 1 := by omega
            rw [List.length_cons, ← HN.out] at hcap ⊢
            clear hbc h4 hby hcap
            go_wp2_with fail
            go_ret3
            exact ⟨.slice none 0 0, by rw [HG.out, HR.out]; rfl, by rw [HG.out, HR.out]; exact Byt.nil _ _, hb1⟩
  · have HR := Lib.hid (segR_e (hrp := hrp.data.toList) (r := r) (by rw [← hk]; exact hk0))
    have hkn : (k != 0) = true := by simp only [bne_iff_ne, ne_eq]; exact hk0
    have HK := Lib.hid hk
    clear hok hk0 hH hk hm hd hHd
    go_enter Tryz.func9, Tryz.ntmps9
    go_wp2_with fail
    refine HF.out.mono ?_
    rintro e w1 ⟨v, rfl, hv, hb1⟩
    obtain ⟨A, c, rfl⟩ := hv.form
    clear hv
    go_wp2_with fail
    go_ret3
    exact ⟨.slice none 0 0, by rw [HG.out, HR.out, HK.out]; rfl, by rw [HG.out, HR.out]; exact Byt.nil _ _, hb1⟩
end Go.Proofs.YtocblkacdoahfaaGreatDoor.Tx
