/-
  The law on addresses of witness programs: what is written is as the reference writes it, and is read back. Conditions: the listed tables hold what their texts lay.
-/
import Derived.Test.YtpaafkhlelljcaaDoorBcSegf
import Derived.Test.YtpaafkhlelljcaaDoorBcRseg
import Derived.Test.YtpaafkhlelljcaaDoorB58
namespace Go.Proofs.YtpaafkhlelljcaaDoor
open Go.RowKit

set_option maxRecDepth 100000 in
set_option maxHeartbeats 12800000 in
theorem segwit_law (B : Nat) (s : ByteArray) (ver : Int) (x : Value) (xs : List UInt8) (w : World) (hc : CodeIs w) (hbe : BechIs w) (hx : Byt w B x xs) (hB : B ≤ w.heap.size) (hs : s.size ≤ 140737488355328) :
    Calls Tryd.prog 5 #[.string s, .int .i64 ver, x] w fun e w' => e = .returned (.bool true) ∧ Below w.heap.size w w' := by
  obtain ⟨A, c, hxf⟩ := hx.form
  subst hxf
  have HX := Lib.hid hx
  have HA := Lib.hid (awake_any w hc)
  have HBE := Lib.hid hbe
  clear hx hc hbe
  by_cases hbig : 100 < s.size
  · as_aux_lemma =>
      have d1 : decide (100 < (s.size : Int)) = true := decide_eq_true (by omega)
      go_enter Tryd.func5, Tryd.ntmps5
      go_wp2_with fail
      refine HA.out.mono ?_
      rintro e w1 ⟨rfl, hb1⟩
      have hs1 := hb1.size
      have HB1 := Lib.hid hb1
      have S1 := Lib.hid (short_any 60 B _ xs w1 (HX.out.below (hb1.mono hB)) (by omega))
      clear hb1
      go_wp2_with fail
      refine S1.out.mono ?_
      rintro e w1' ⟨⟨y, rfl, hy⟩, rfl⟩
      obtain ⟨A1, c1, rfl⟩ := hy.form
      obtain ⟨ys, hys⟩ : ∃ ys, ys = xs.take 60 := ⟨_, rfl⟩
      have hyl : ys.length ≤ 60 := by rw [hys, List.length_take]; omega
      rw [← hys] at hy ⊢
      have HY := Lib.hid hy
      have SP := Lib.hid (rcopy_any B _ ys w1 hy (by omega))
      clear hy hys S1 HX HA
      go_wp2_with fail
      obtain ⟨Sx, hSx⟩ : ∃ Sx, Sx = s.extract 0 100 := ⟨_, rfl⟩
      have HSX : Hid (Sx.size ≤ 140737488355328) := Lib.hid (by rw [hSx, ByteArray.size_extract]; omega)
      rw [← hSx]
      clear hSx d1 hs
      refine SP.out.mono ?_
      intro e w2 hfr
      obtain ⟨v2, rfl, hown, hb2⟩ := fresh_v hfr
      have hs2 := hb2.size
      have HB2 := Lib.hid (HB1.out.trans (hb2.mono hs1))
      have HY2 := Lib.hid (HY.out.below (hb2.mono (Nat.le_trans hB hs1)))
      obtain ⟨h, hh⟩ : ∃ h, h = Sx.data.toList := ⟨_, rfl⟩
      obtain ⟨r, hr⟩ : ∃ r, r = segS h ver ys := ⟨_, rfl⟩
      have P1 := segwit_any w2.heap.size Sx ver v2 ys w2 (HBE.out.below HB2.out HBE.out.1) (Byt.of_own hown) (Nat.le_refl _) HSX.out (by omega)
      rw [← hh, ← hr] at P1
      have HH := Lib.hid hh
      have HR := Lib.hid hr
      have HP1 := Lib.hid P1
      obtain ⟨A2, c2, hv2⟩ := hown.form
      subst hv2
      clear hfr hown hb2 SP P1 hh hr
      go_wp2_with fail
      refine HP1.out.mono ?_
      rintro e w3 ⟨rfl, hb3⟩
      have hs3 := hb3.size
      have HB3 := Lib.hid (HB2.out.trans (hb3.mono HB2.out.size))
      have HY3 := Lib.hid (HY2.out.below (hb3.mono (by omega)))
      obtain ⟨Z, hZ⟩ : ∃ Z : ByteArray, Z = ⟨r.2.toArray⟩ := ⟨_, rfl⟩
      obtain ⟨k, hk⟩ : ∃ k, k = r.1 := ⟨_, rfl⟩
      have P2 := rsegwit_any B Sx ver _ ys w3 HY3.out (by omega) HSX.out (by omega)
      rw [← HH.out, ← HR.out, ← hZ, ← hk] at P2
      rw [← hZ, ← hk]
      have HP2 := Lib.hid P2
      have HZ := Lib.hid hZ
      have HK := Lib.hid hk
      have hzz : (Z.toList == Z.toList) = true := by simp
      have hkk : (k == k) = true := by simp
      clear hb3 P2 hZ hk HP1
      go_wp2_with fail
      refine HP2.out.mono ?_
      rintro e w4 ⟨rfl, hb4⟩
      have hs4 := hb4.size
      have HB4 := Lib.hid (HB3.out.trans (hb4.mono (by have := HB3.out.size; omega)))
      have HY4 := Lib.hid (HY3.out.below (hb4.mono (by omega)))
      clear hb4 HP2
      by_cases hk0 : k = 0
      · subst hk0
        have hbk := seg_back (h := h) (ver := ver) (p := ys) (by rw [← HR.out, ← HK.out])
        rw [← HR.out] at hbk
        have hZd : Z.data.toList = r.2 := by rw [HZ.out]
        have hr2 : r.2.length ≤ 90 := by
          have he : (segS h ver ys).1 = 0 := by rw [← HR.out, ← HK.out]
          obtain ⟨_, _, _, e4⟩ := segS_ok he
          rw [e4] at he
          obtain ⟨q1, q2, q3⟩ := bechS_ok he
          rw [HR.out, e4, bechS_good (by omega) q2 q3]
          show (h ++ [49] ++ letters l32 (_ ++ closeB h _ _)).length ≤ 90
          rw [splitOk_len, List.length_append, closeB_length]
          omega
        have hZs : Z.size ≤ 90 := by show Z.data.size ≤ 90; rw [← Array.length_toList, hZd]; exact hr2
        have P4 := fromseg_any Sx Z w4 (HBE.out.below HB4.out HBE.out.1) (by omega)
        rw [hZd, ← HH.out, hbk] at P4
        unfold SegPost at P4
        dsimp only at P4
        have HP4 := Lib.hid P4
        have hvv : (ver == ver) = true := by simp
        clear P4 hbk hZd hr2
        go_wp2_with fail
        refine HP4.out.mono ?_
        rintro e w6 ⟨v, rfl, hv, hb6⟩
        obtain ⟨A6, c6, rfl⟩ := hv.form
        have EQ := Lib.hid (equal_yes _ _ _ _ _ _ w6 hv (HY4.out.below (hb6.mono (by omega))) rfl)
        have HB6 := Lib.hid (HB4.out.trans (hb6.mono (by have := HB4.out.size; omega)))
        clear hv hb6
        go_wp2_with fail
        refine EQ.out.mono ?_
        rintro e w7 ⟨rfl, rfl⟩
        go_wp2_with fail
        go_ret
        exact ⟨rfl, HB6.out⟩
      · have hkn : (k != 0) = true := by simp only [bne_iff_ne, ne_eq]; exact hk0
        clear hk0
        go_wp2_with fail
        go_ret
        exact ⟨rfl, HB4.out⟩
  · as_aux_lemma =>
      have d1 : decide (100 < (s.size : Int)) = false := decide_eq_false (by omega)
      go_enter Tryd.func5, Tryd.ntmps5
      go_wp2_with fail
      refine HA.out.mono ?_
      rintro e w1 ⟨rfl, hb1⟩
      have hs1 := hb1.size
      have HB1 := Lib.hid hb1
      have S1 := Lib.hid (short_any 60 B _ xs w1 (HX.out.below (hb1.mono hB)) (by omega))
      clear hb1
      go_wp2_with fail
      refine S1.out.mono ?_
      rintro e w1' ⟨⟨y, rfl, hy⟩, rfl⟩
      obtain ⟨A1, c1, rfl⟩ := hy.form
      obtain ⟨ys, hys⟩ : ∃ ys, ys = xs.take 60 := ⟨_, rfl⟩
      have hyl : ys.length ≤ 60 := by rw [hys, List.length_take]; omega
      rw [← hys] at hy ⊢
      have HY := Lib.hid hy
      have SP := Lib.hid (rcopy_any B _ ys w1 hy (by omega))
      clear hy hys S1 HX HA
      go_wp2_with fail
      obtain ⟨Sx, hSx⟩ : ∃ Sx, Sx = s := ⟨_, rfl⟩
      have HSX : Hid (Sx.size ≤ 140737488355328) := Lib.hid (by rw [hSx]; exact hs)
      rw [← hSx]
      clear hSx d1 hs
      refine SP.out.mono ?_
      intro e w2 hfr
      obtain ⟨v2, rfl, hown, hb2⟩ := fresh_v hfr
      have hs2 := hb2.size
      have HB2 := Lib.hid (HB1.out.trans (hb2.mono hs1))
      have HY2 := Lib.hid (HY.out.below (hb2.mono (Nat.le_trans hB hs1)))
      obtain ⟨h, hh⟩ : ∃ h, h = Sx.data.toList := ⟨_, rfl⟩
      obtain ⟨r, hr⟩ : ∃ r, r = segS h ver ys := ⟨_, rfl⟩
      have P1 := segwit_any w2.heap.size Sx ver v2 ys w2 (HBE.out.below HB2.out HBE.out.1) (Byt.of_own hown) (Nat.le_refl _) HSX.out (by omega)
      rw [← hh, ← hr] at P1
      have HH := Lib.hid hh
      have HR := Lib.hid hr
      have HP1 := Lib.hid P1
      obtain ⟨A2, c2, hv2⟩ := hown.form
      subst hv2
      clear hfr hown hb2 SP P1 hh hr
      go_wp2_with fail
      refine HP1.out.mono ?_
      rintro e w3 ⟨rfl, hb3⟩
      have hs3 := hb3.size
      have HB3 := Lib.hid (HB2.out.trans (hb3.mono HB2.out.size))
      have HY3 := Lib.hid (HY2.out.below (hb3.mono (by omega)))
      obtain ⟨Z, hZ⟩ : ∃ Z : ByteArray, Z = ⟨r.2.toArray⟩ := ⟨_, rfl⟩
      obtain ⟨k, hk⟩ : ∃ k, k = r.1 := ⟨_, rfl⟩
      have P2 := rsegwit_any B Sx ver _ ys w3 HY3.out (by omega) HSX.out (by omega)
      rw [← HH.out, ← HR.out, ← hZ, ← hk] at P2
      rw [← hZ, ← hk]
      have HP2 := Lib.hid P2
      have HZ := Lib.hid hZ
      have HK := Lib.hid hk
      have hzz : (Z.toList == Z.toList) = true := by simp
      have hkk : (k == k) = true := by simp
      clear hb3 P2 hZ hk HP1
      go_wp2_with fail
      refine HP2.out.mono ?_
      rintro e w4 ⟨rfl, hb4⟩
      have hs4 := hb4.size
      have HB4 := Lib.hid (HB3.out.trans (hb4.mono (by have := HB3.out.size; omega)))
      have HY4 := Lib.hid (HY3.out.below (hb4.mono (by omega)))
      clear hb4 HP2
      by_cases hk0 : k = 0
      · subst hk0
        have hbk := seg_back (h := h) (ver := ver) (p := ys) (by rw [← HR.out, ← HK.out])
        rw [← HR.out] at hbk
        have hZd : Z.data.toList = r.2 := by rw [HZ.out]
        have hr2 : r.2.length ≤ 90 := by
          have he : (segS h ver ys).1 = 0 := by rw [← HR.out, ← HK.out]
          obtain ⟨_, _, _, e4⟩ := segS_ok he
          rw [e4] at he
          obtain ⟨q1, q2, q3⟩ := bechS_ok he
          rw [HR.out, e4, bechS_good (by omega) q2 q3]
          show (h ++ [49] ++ letters l32 (_ ++ closeB h _ _)).length ≤ 90
          rw [splitOk_len, List.length_append, closeB_length]
          omega
        have hZs : Z.size ≤ 90 := by show Z.data.size ≤ 90; rw [← Array.length_toList, hZd]; exact hr2
        have P4 := fromseg_any Sx Z w4 (HBE.out.below HB4.out HBE.out.1) (by omega)
        rw [hZd, ← HH.out, hbk] at P4
        unfold SegPost at P4
        dsimp only at P4
        have HP4 := Lib.hid P4
        have hvv : (ver == ver) = true := by simp
        clear P4 hbk hZd hr2
        go_wp2_with fail
        refine HP4.out.mono ?_
        rintro e w6 ⟨v, rfl, hv, hb6⟩
        obtain ⟨A6, c6, rfl⟩ := hv.form
        have EQ := Lib.hid (equal_yes _ _ _ _ _ _ w6 hv (HY4.out.below (hb6.mono (by omega))) rfl)
        have HB6 := Lib.hid (HB4.out.trans (hb6.mono (by have := HB4.out.size; omega)))
        clear hv hb6
        go_wp2_with fail
        refine EQ.out.mono ?_
        rintro e w7 ⟨rfl, rfl⟩
        go_wp2_with fail
        go_ret
        exact ⟨rfl, HB6.out⟩
      · have hkn : (k != 0) = true := by simp only [bne_iff_ne, ne_eq]; exact hk0
        clear hk0
        go_wp2_with fail
        go_ret
        exact ⟨rfl, HB4.out⟩
end Go.Proofs.YtpaafkhlelljcaaDoor
