/-
  text.isProgram, text.Segwit, text.FromSegwit. Conditions: the listed table holds what its text lays; sizes within the reach.
-/
import Derived.Test.YtpaafkhlelljcaaDoorBcSeg
import Derived.Test.YtpaafkhlelljcaaDoorBcFrom
import Derived.Test.YtpaafkhlelljcaaDoorTGrp
namespace Go.Proofs.YtpaafkhlelljcaaDoor
open Go.RowKit

theorem fits_zero (n : Nat) : fitsB 0 n = ((n : Int) == 20 || (n : Int) == 32) := by
  unfold fitsB
  rw [if_pos rfl]
  have e1 : ((n : Int) == 20) = (n == 20) := by rw [Bool.eq_iff_iff, beq_iff_eq, beq_iff_eq]; omega
  have e2 : ((n : Int) == 32) = (n == 32) := by rw [Bool.eq_iff_iff, beq_iff_eq, beq_iff_eq]; omega
  rw [e1, e2]
theorem fits_more {v : Int} (hv : v ≠ 0) (n : Nat) : fitsB v n = (decide (2 ≤ (n : Int)) && decide ((n : Int) ≤ 40)) := by
  unfold fitsB
  rw [if_neg hv]
  have e1 : decide (2 ≤ (n : Int)) = decide (2 ≤ n) := decide_eq_decide.2 (by omega)
  have e2 : decide ((n : Int) ≤ 40) = decide (n ≤ 40) := decide_eq_decide.2 (by omega)
  rw [e1, e2]

set_option maxRecDepth 100000 in
set_option maxHeartbeats 800000 in
theorem isprog_any (v : Int) (n : Nat) (w : World) : Calls Tryd.prog 40 #[.int .i64 v, .int .i64 n] w fun e w' => e = .returned (.bool (fitsB v n)) ∧ w = w' := by
  obtain ⟨r, hr⟩ : ∃ r, r = fitsB v n := ⟨_, rfl⟩
  rw [← hr]
  by_cases hv : v = 0
  · subst hv
    rw [fits_zero] at hr
    obtain ⟨p, hp⟩ : ∃ p, ((n : Int) == 20) = p := ⟨_, rfl⟩
    obtain ⟨q, hq⟩ : ∃ q, ((n : Int) == 32) = q := ⟨_, rfl⟩
    rw [hp, hq] at hr
    subst hr
    cases p <;> cases q
    all_goals go_enter Tryd.func40, Tryd.ntmps40
    all_goals go_wp2
    all_goals go_ret
    all_goals exact ⟨rfl, rfl⟩
  · rw [fits_more hv] at hr
    have hv2 : (v == 0) = false := by simpa using hv
    obtain ⟨p, hp⟩ : ∃ p, decide (2 ≤ (n : Int)) = p := ⟨_, rfl⟩
    obtain ⟨q, hq⟩ : ∃ q, decide ((n : Int) ≤ 40) = q := ⟨_, rfl⟩
    rw [hp, hq] at hr
    subst hr
    clear hv
    cases p <;> cases q
    all_goals go_enter Tryd.func40, Tryd.ntmps40
    all_goals go_wp2
    all_goals go_ret
    all_goals exact ⟨rfl, rfl⟩

theorem segS_arg {h p : List UInt8} {ver : Int} (hv : ver < 0 ∨ 16 < ver) : segS h ver p = (1, []) := by unfold segS; rw [if_pos hv]
theorem segS_size {h p : List UInt8} {ver : Int} (hv : ¬ (ver < 0 ∨ 16 < ver)) (hf : fitsB ver p.length = false) : segS h ver p = (2, []) := by unfold segS; rw [if_neg hv, if_pos hf]
theorem segS_go {h p : List UInt8} {ver : Int} (hv : ¬ (ver < 0 ∨ 16 < ver)) (hf : fitsB ver p.length = true) : segS h ver p = bechS h (b8 ver :: (regS 8 5 true p).2) (decide (0 < ver)) := by unfold segS; rw [if_neg hv, if_neg (by rw [hf]; simp)]

set_option maxRecDepth 100000 in
set_option maxHeartbeats 6400000 in
theorem segwit_any (B : Nat) (s : ByteArray) (ver : Int) (x : Value) (p : List UInt8) (w : World) (hbe : BechIs w) (hx : Byt w B x p) (hB : B ≤ w.heap.size) (hs : s.size ≤ 140737488355328) (hl : p.length ≤ 2000) :
    Calls Tryd.prog 19 #[.string s, .int .i64 ver, x] w fun e w' => e = .returned (.tuple #[.string ⟨(segS s.data.toList ver p).2.toArray⟩, .int .i64 (segS s.data.toList ver p).1]) ∧ Below w.heap.size w w' := by
  obtain ⟨h, hh⟩ : ∃ h, h = s.data.toList := ⟨_, rfl⟩
  obtain ⟨r, hr⟩ : ∃ r, r = segS h ver p := ⟨_, rfl⟩
  rw [← hh, ← hr]
  have HH := Lib.hid hh
  have HX := Lib.hid hx
  have HBE := Lib.hid hbe
  obtain ⟨A, cx, hxf⟩ := hx.form
  subst hxf
  clear hx hbe hh
  by_cases h0 : ver < 0
  · rw [segS_arg (.inl h0)] at hr
    subst hr
    have d0 : decide (ver < 0) = true := decide_eq_true h0
    clear h0
    go_enter Tryd.func19, Tryd.ntmps19
    go_wp2_with fail
    go_ret2
    exact ⟨rfl, Below.refl _ _⟩
  · have d0 : decide (ver < 0) = false := decide_eq_false h0
    by_cases h1 : 16 < ver
    · rw [segS_arg (.inr h1)] at hr
      subst hr
      have d1 : decide (16 < ver) = true := decide_eq_true h1
      clear h0 h1
      go_enter Tryd.func19, Tryd.ntmps19
      go_wp2_with fail
      go_ret2
      exact ⟨rfl, Below.refl _ _⟩
    · have d1 : decide (16 < ver) = false := decide_eq_false h1
      have P := isprog_any ver p.length
      cases hf : fitsB ver p.length with
      | false =>
        rw [segS_size (by omega) hf] at hr
        subst hr
        rw [hf] at P
        have HP := Lib.hid P
        clear h0 h1 hf P
        go_enter Tryd.func19, Tryd.ntmps19
        go_wp2_with fail
        refine (HP.out _).mono ?_
        rintro e w1 ⟨rfl, rfl⟩
        go_wp2_with fail
        go_ret2
        exact ⟨rfl, Below.refl _ _⟩
      | true =>
        rw [segS_go (by omega) hf] at hr
        rw [hf] at P
        have hp40 := fitsB_le hf
        have HP := Lib.hid P
        have HR := Lib.hid hr
        have REG := Lib.hid (regroup_any B _ p 8 5 true w HX.out hB (by omega))
        have hrl := reg85_len p
        have hr0 := reg85 p
        obtain ⟨G, hG⟩ : ∃ G, G = regS 8 5 true p := ⟨_, rfl⟩
        rw [← hG] at REG hrl hr0 HR
        have HG0 := Lib.hid hr0
        have HRL := Lib.hid hrl
        have hw : IntKind.u8.wrap ver = ver := by rw [IntKind.wrap_u8]; omega
        have hpos : 0 ≤ ver := by omega
        have h16 : ver ≤ 16 := by omega
        clear h0 h1 hf P hr hrl hr0 hG
        go_enter Tryd.func19, Tryd.ntmps19
        go_wp2_with fail
        refine (HP.out _).mono ?_
        rintro e w1 ⟨rfl, rfl⟩
        go_wp2_with fail
        refine REG.out.mono ?_
        rintro e w2 ⟨v, rfl, hown, hb2⟩
        rw [HG0.out]
        have hby := Byt.of_own hown
        obtain ⟨A2, c2, rfl⟩ := hown.form
        have HB2 := Lib.hid hb2
        have hm1 : Byt (w2.alloc (.cells #[.int .u8 ver] 5)) (w2.heap.size + 1) (.slice (some ⟨w2.heap.size, 0, none⟩) 1 1) [b8 ver] :=
          Byt.made w2 _ [_] [b8 ver] (by rw [List.map_cons, List.map_nil, bv_b8_of hpos (by omega)]) (by unfold maxLen; simp)
        have hsz2 : (w2.alloc (.cells #[.int .u8 ver] 5)).heap.size = w2.heap.size + 1 := by simp
        have hbag := BagR.made (w2.alloc (.cells #[.int .u8 ver] 5)) 22 [.slice (some ⟨w2.heap.size, 0, none⟩) 1 1, .slice A2 G.2.length c2] [(.slice (some ⟨w2.heap.size, 0, none⟩) 1 1, [b8 ver]), (.slice A2 G.2.length c2, G.2)] rfl (by unfold maxLen; simp) (by
          intro q hq
          simp only [List.mem_cons, List.not_mem_nil, or_false] at hq
          rcases hq with rfl | rfl
          · rw [hsz2]; exact hm1
          · exact (byt_later hby _).more (by rw [hsz2]; omega))
        have hj : joined [((.slice (some ⟨w2.heap.size, 0, none⟩) 1 1 : Value), [b8 ver]), (.slice A2 G.2.length c2, G.2)] = b8 ver :: G.2 := by unfold joined; simp
        rw [hsz2] at hbag
        have C2 := concat_any (w2.heap.size + 1 + 1) _ _ ((w2.alloc (.cells #[.int .u8 ver] 5)).alloc (.cells #[.slice (some ⟨w2.heap.size, 0, none⟩) 1 1, .slice A2 G.2.length c2] 22)) hbag (by simp) (by rw [← joined_length, hj, List.length_cons, HRL.out]; omega)
        rw [hj] at C2
        have HC2 := Lib.hid C2
        have HB3 : Hid (Below w.heap.size w ((w2.alloc (.cells #[.int .u8 ver] 5)).alloc (.cells #[.slice (some ⟨w2.heap.size, 0, none⟩) 1 1, .slice A2 G.2.length c2] 22))) := Lib.hid ((hb2.alloc hb2.size _).alloc (by have := hb2.size; simp; omega) _)
        clear hm1 hsz2 hbag hj C2 hby hown hb2 REG
        go_wp2_with fail
        refine HC2.out.mono ?_
        intro e w3 hfr
        obtain ⟨v3, rfl, hown3, hb3⟩ := fresh_v hfr
        have HB4 := Lib.hid (HB3.out.trans (hb3.mono HB3.out.size))
        have P4 := bech32_any w3.heap.size s v3 (b8 ver :: G.2) (decide (0 < ver)) w3 (HBE.out.below HB4.out HBE.out.1) (Byt.of_own hown3) (Nat.le_refl _) hs (by rw [List.length_cons, HRL.out]; omega)
        rw [← HH.out, ← HR.out] at P4
        obtain ⟨dv, hdv⟩ : ∃ dv, decide (0 < ver) = dv := ⟨_, rfl⟩
        rw [hdv] at P4
        have HP4 := Lib.hid P4
        obtain ⟨A3, c3, rfl⟩ := hown3.form
        clear hfr hown3 hb3 P4
        go_wp2_with fail
        refine HP4.out.mono ?_
        rintro e w4 ⟨rfl, hb4⟩
        have HB5 := Lib.hid (HB4.out.trans (hb4.mono HB4.out.size))
        clear hb4
        go_wp2_with fail
        go_ret2
        exact ⟨rfl, HB5.out⟩
end Go.Proofs.YtpaafkhlelljcaaDoor
