/-
  The law on bech32: what is written is as the reference writes it, and is read back. Conditions: the listed tables hold what their texts lay.
-/
import Derived.Test.YtpaafkhlelljcaaDoorBcFrom
import Derived.Test.YtpaafkhlelljcaaDoorBcRbech
import Derived.Test.YtpaafkhlelljcaaDoorTKept
import Derived.Test.YtpaafkhlelljcaaDoorB58
namespace Go.Proofs.YtpaafkhlelljcaaDoor
open Go.RowKit

set_option maxRecDepth 100000 in
set_option maxHeartbeats 12800000 in
theorem bech_law (B : Nat) (s : ByteArray) (x : Value) (xs : List UInt8) (m : Bool) (w : World) (hc : CodeIs w) (hbe : BechIs w) (hx : Byt w B x xs) (hB : B ≤ w.heap.size) (hs : s.size ≤ 140737488355328) :
    Calls Tryd.prog 3 #[.string s, x, .bool m] w fun e w' => e = .returned (.bool true) ∧ Below w.heap.size w w' := by
  obtain ⟨A, c, hxf⟩ := hx.form
  subst hxf
  have HX := Lib.hid hx
  have HA := Lib.hid (awake_any w hc)
  have HBE := Lib.hid hbe
  clear hx hc hbe
  by_cases hbig : 100 < s.size
  · as_aux_lemma =>
      have d1 : decide (100 < (s.size : Int)) = true := decide_eq_true (by omega)
      go_enter Tryd.func3, Tryd.ntmps3
      go_wp2_with fail
      refine HA.out.mono ?_
      rintro e w1 ⟨rfl, hb1⟩
      have hs1 := hb1.size
      have HB1 := Lib.hid hb1
      have S1 := Lib.hid (short_any 100 B _ xs w1 (HX.out.below (hb1.mono hB)) (by omega))
      clear hb1
      go_wp2_with fail
      refine S1.out.mono ?_
      rintro e w1' ⟨⟨y, rfl, hy⟩, rfl⟩
      obtain ⟨A1, c1, rfl⟩ := hy.form
      obtain ⟨ys, hys⟩ : ∃ ys, ys = xs.take 100 := ⟨_, rfl⟩
      have hyl : ys.length ≤ 100 := by rw [hys, List.length_take]; omega
      rw [← hys] at hy ⊢
      have HY := Lib.hid hy
      have SP := Lib.hid (spare_any B _ ys w1 hy (by omega) (by omega))
      clear hy hys S1 HX HA
      go_wp2_with fail
      obtain ⟨Sx, hSx⟩ : ∃ Sx, Sx = s.extract 0 100 := ⟨_, rfl⟩
      have HSX : Hid (Sx.size ≤ 140737488355328) := Lib.hid (by rw [hSx, ByteArray.size_extract]; omega)
      rw [← hSx]
      clear hSx d1 hs
      refine SP.out.mono ?_
      rintro e w2 ⟨rfl, hrow, hb2⟩
      have hs2 := hb2.size
      have hin := hrow.byt (n := ys.length) (c := ys.length + 9) (by rw [tinted_length]; omega) (by omega) (by unfold maxLen; omega)
      have htk : (tinted ys).take ys.length = ys := by unfold tinted; rw [List.take_left']; rfl
      rw [htk] at hin
      have HROW := Lib.hid hrow
      have HB2 := Lib.hid (HB1.out.trans (hb2.mono hs1))
      have HY2 := Lib.hid (HY.out.below (hb2.mono (Nat.le_trans hB hs1)))
      obtain ⟨h, hh⟩ : ∃ h, h = Sx.data.toList := ⟨_, rfl⟩
      obtain ⟨r, hr⟩ : ∃ r, r = bechS h ys m := ⟨_, rfl⟩
      have P1 := bech32_any w2.heap.size Sx _ ys m w2 (HBE.out.below HB2.out HBE.out.1) hin (Nat.le_refl _) HSX.out (by omega)
      rw [← hh, ← hr] at P1
      have HH := Lib.hid hh
      have HR := Lib.hid hr
      have HP1 := Lib.hid P1
      clear hrow hin htk hb2 SP P1 hh hr
      go_wp2_with fail
      refine HP1.out.mono ?_
      rintro e w3 ⟨rfl, hb3⟩
      have hs3 := hb3.size
      have HB3 := Lib.hid (HB2.out.trans (hb3.mono HB2.out.size))
      have HC3 := Lib.hid hb3
      have HY3 := Lib.hid (HY2.out.below (hb3.mono (by omega)))
      obtain ⟨Z, hZ⟩ : ∃ Z : ByteArray, Z = ⟨r.2.toArray⟩ := ⟨_, rfl⟩
      obtain ⟨k, hk⟩ : ∃ k, k = r.1 := ⟨_, rfl⟩
      have P2 := refbech_any B Sx _ ys m w3 HY3.out (by omega) HSX.out (by omega)
      rw [← HH.out, ← HR.out, ← hZ, ← hk] at P2
      rw [← hZ, ← hk]
      have HP2 := Lib.hid P2
      have HZ := Lib.hid hZ
      have HK := Lib.hid hk
      clear hb3 P2 hZ hk HP1
      go_wp2_with fail
      refine HP2.out.mono ?_
      rintro e w4 ⟨rfl, hb4⟩
      have hs4 := hb4.size
      have HB4 := Lib.hid (HB3.out.trans (hb4.mono (by have := HB3.out.size; omega)))
      have b24 := HC3.out.trans (hb4.mono hs3)
      have hrow4 : Row w4 w1.heap.size (tinted ys) := HROW.out.turns (Turns.of_below b24 (S := fun _ => False)) (fun h => h)
      have hall := hrow4.byt (n := ys.length + 9) (c := ys.length + 9) (by rw [tinted_length]; omega) (by omega) (by unfold maxLen; omega)
      rw [List.take_of_length_le (by rw [tinted_length]; omega)] at hall
      have HY4 := Lib.hid (HY3.out.below (hb4.mono (by omega)))
      have P3 := Lib.hid (kept_yes _ B _ _ ys w4 hall HY4.out (by omega))
      have hzz : (Z.toList == Z.toList) = true := by simp
      have hkk : (k == k) = true := by simp
      clear hb4 b24 hrow4 hall HP2
      go_wp2_with fail
      refine P3.out.mono ?_
      rintro e w5 ⟨rfl, kk, hw5⟩
      have b45 : Below w4.heap.size w4 w5 := by rw [hw5]; exact ⟨rfl, rfl, rfl, Nat.le_refl _, fun _ _ => rfl⟩
      have hs5 := b45.size
      have HB5 := Lib.hid (HB4.out.trans (b45.mono (by have := HB4.out.size; omega)))
      have HY5 := Lib.hid (HY4.out.below (b45.mono (by omega)))
      clear b45 hw5 P3
      by_cases hk0 : k = 0
      · subst hk0
        have hbk := bech_back (h := h) (d := ys) (m := m) (by rw [← HR.out, ← HK.out])
        rw [← HR.out] at hbk
        have hZd : Z.data.toList = r.2 := by rw [HZ.out]
        have hr2 : r.2.length ≤ 90 := by
          have he : (bechS h ys m).1 = 0 := by rw [← HR.out, ← HK.out]
          obtain ⟨q1, q2, q3⟩ := bechS_ok he
          rw [HR.out, bechS_good (by omega) q2 q3]
          show (h ++ [49] ++ letters l32 (ys ++ closeB h ys m)).length ≤ 90
          rw [splitOk_len, List.length_append, closeB_length]
          omega
        have hZs : Z.size ≤ 90 := by show Z.data.size ≤ 90; rw [← Array.length_toList, hZd]; exact hr2
        have P4 := frombech_any Z w5 (HBE.out.below HB5.out HBE.out.1) (by omega)
        rw [hZd, hbk] at P4
        have hSx2 : Sx = ⟨h.toArray⟩ := str_of _ HH.out
        unfold BechPost at P4
        dsimp only at P4
        rw [← hSx2] at P4
        have HP4 := Lib.hid P4
        have hss : (Sx.toList == Sx.toList) = true := by simp
        have hmm : (m == m) = true := by simp
        clear P4 hbk hZd hr2 hSx2
        go_wp2_with fail
        refine HP4.out.mono ?_
        rintro e w6 ⟨v, rfl, hv, hb6⟩
        obtain ⟨A6, c6, rfl⟩ := hv.form
        have EQ := Lib.hid (equal_yes _ _ _ _ _ _ w6 hv (HY5.out.below (hb6.mono (by omega))) rfl)
        have HB6 := Lib.hid (HB5.out.trans (hb6.mono (by have := HB5.out.size; omega)))
        clear hv hb6
        go_wp2_with fail
        refine EQ.out.mono ?_
        rintro e w7 ⟨rfl, rfl⟩
        go_wp2_with fail
        go_ret
        exact ⟨rfl, HB6.out⟩
      · have hkn : (k != 0) = true := by simp only [bne_iff_ne, ne_eq]; exact hk0
        clear hk0
        go_wp2_with fail
        go_ret
        exact ⟨rfl, HB5.out⟩
  · as_aux_lemma =>
      have d1 : decide (100 < (s.size : Int)) = false := decide_eq_false (by omega)
      go_enter Tryd.func3, Tryd.ntmps3
      go_wp2_with fail
      refine HA.out.mono ?_
      rintro e w1 ⟨rfl, hb1⟩
      have hs1 := hb1.size
      have HB1 := Lib.hid hb1
      have S1 := Lib.hid (short_any 100 B _ xs w1 (HX.out.below (hb1.mono hB)) (by omega))
      clear hb1
      go_wp2_with fail
      refine S1.out.mono ?_
      rintro e w1' ⟨⟨y, rfl, hy⟩, rfl⟩
      obtain ⟨A1, c1, rfl⟩ := hy.form
      obtain ⟨ys, hys⟩ : ∃ ys, ys = xs.take 100 := ⟨_, rfl⟩
      have hyl : ys.length ≤ 100 := by rw [hys, List.length_take]; omega
      rw [← hys] at hy ⊢
      have HY := Lib.hid hy
      have SP := Lib.hid (spare_any B _ ys w1 hy (by omega) (by omega))
      clear hy hys S1 HX HA
      go_wp2_with fail
      obtain ⟨Sx, hSx⟩ : ∃ Sx, Sx = s := ⟨_, rfl⟩
      have HSX : Hid (Sx.size ≤ 140737488355328) := Lib.hid (by rw [hSx]; exact hs)
      rw [← hSx]
      clear hSx d1 hs
      refine SP.out.mono ?_
      rintro e w2 ⟨rfl, hrow, hb2⟩
      have hs2 := hb2.size
      have hin := hrow.byt (n := ys.length) (c := ys.length + 9) (by rw [tinted_length]; omega) (by omega) (by unfold maxLen; omega)
      have htk : (tinted ys).take ys.length = ys := by unfold tinted; rw [List.take_left']; rfl
      rw [htk] at hin
      have HROW := Lib.hid hrow
      have HB2 := Lib.hid (HB1.out.trans (hb2.mono hs1))
      have HY2 := Lib.hid (HY.out.below (hb2.mono (Nat.le_trans hB hs1)))
      obtain ⟨h, hh⟩ : ∃ h, h = Sx.data.toList := ⟨_, rfl⟩
      obtain ⟨r, hr⟩ : ∃ r, r = bechS h ys m := ⟨_, rfl⟩
      have P1 := bech32_any w2.heap.size Sx _ ys m w2 (HBE.out.below HB2.out HBE.out.1) hin (Nat.le_refl _) HSX.out (by omega)
      rw [← hh, ← hr] at P1
      have HH := Lib.hid hh
      have HR := Lib.hid hr
      have HP1 := Lib.hid P1
      clear hrow hin htk hb2 SP P1 hh hr
      go_wp2_with fail
      refine HP1.out.mono ?_
      rintro e w3 ⟨rfl, hb3⟩
      have hs3 := hb3.size
      have HB3 := Lib.hid (HB2.out.trans (hb3.mono HB2.out.size))
      have HC3 := Lib.hid hb3
      have HY3 := Lib.hid (HY2.out.below (hb3.mono (by omega)))
      obtain ⟨Z, hZ⟩ : ∃ Z : ByteArray, Z = ⟨r.2.toArray⟩ := ⟨_, rfl⟩
      obtain ⟨k, hk⟩ : ∃ k, k = r.1 := ⟨_, rfl⟩
      have P2 := refbech_any B Sx _ ys m w3 HY3.out (by omega) HSX.out (by omega)
      rw [← HH.out, ← HR.out, ← hZ, ← hk] at P2
      rw [← hZ, ← hk]
      have HP2 := Lib.hid P2
      have HZ := Lib.hid hZ
      have HK := Lib.hid hk
      clear hb3 P2 hZ hk HP1
      go_wp2_with fail
      refine HP2.out.mono ?_
      rintro e w4 ⟨rfl, hb4⟩
      have hs4 := hb4.size
      have HB4 := Lib.hid (HB3.out.trans (hb4.mono (by have := HB3.out.size; omega)))
      have b24 := HC3.out.trans (hb4.mono hs3)
      have hrow4 : Row w4 w1.heap.size (tinted ys) := HROW.out.turns (Turns.of_below b24 (S := fun _ => False)) (fun h => h)
      have hall := hrow4.byt (n := ys.length + 9) (c := ys.length + 9) (by rw [tinted_length]; omega) (by omega) (by unfold maxLen; omega)
      rw [List.take_of_length_le (by rw [tinted_length]; omega)] at hall
      have HY4 := Lib.hid (HY3.out.below (hb4.mono (by omega)))
      have P3 := Lib.hid (kept_yes _ B _ _ ys w4 hall HY4.out (by omega))
      have hzz : (Z.toList == Z.toList) = true := by simp
      have hkk : (k == k) = true := by simp
      clear hb4 b24 hrow4 hall HP2
      go_wp2_with fail
      refine P3.out.mono ?_
      rintro e w5 ⟨rfl, kk, hw5⟩
      have b45 : Below w4.heap.size w4 w5 := by rw [hw5]; exact ⟨rfl, rfl, rfl, Nat.le_refl _, fun _ _ => rfl⟩
      have hs5 := b45.size
      have HB5 := Lib.hid (HB4.out.trans (b45.mono (by have := HB4.out.size; omega)))
      have HY5 := Lib.hid (HY4.out.below (b45.mono (by omega)))
      clear b45 hw5 P3
      by_cases hk0 : k = 0
      · subst hk0
        have hbk := bech_back (h := h) (d := ys) (m := m) (by rw [← HR.out, ← HK.out])
        rw [← HR.out] at hbk
        have hZd : Z.data.toList = r.2 := by rw [HZ.out]
        have hr2 : r.2.length ≤ 90 := by
          have he : (bechS h ys m).1 = 0 := by rw [← HR.out, ← HK.out]
          obtain ⟨q1, q2, q3⟩ := bechS_ok he
          rw [HR.out, bechS_good (by omega) q2 q3]
          show (h ++ [49] ++ letters l32 (ys ++ closeB h ys m)).length ≤ 90
          rw [splitOk_len, List.length_append, closeB_length]
          omega
        have hZs : Z.size ≤ 90 := by show Z.data.size ≤ 90; rw [← Array.length_toList, hZd]; exact hr2
        have P4 := frombech_any Z w5 (HBE.out.below HB5.out HBE.out.1) (by omega)
        rw [hZd, hbk] at P4
        have hSx2 : Sx = ⟨h.toArray⟩ := str_of _ HH.out
        unfold BechPost at P4
        dsimp only at P4
        rw [← hSx2] at P4
        have HP4 := Lib.hid P4
        have hss : (Sx.toList == Sx.toList) = true := by simp
        have hmm : (m == m) = true := by simp
        clear P4 hbk hZd hr2 hSx2
        go_wp2_with fail
        refine HP4.out.mono ?_
        rintro e w6 ⟨v, rfl, hv, hb6⟩
        obtain ⟨A6, c6, rfl⟩ := hv.form
        have EQ := Lib.hid (equal_yes _ _ _ _ _ _ w6 hv (HY5.out.below (hb6.mono (by omega))) rfl)
        have HB6 := Lib.hid (HB5.out.trans (hb6.mono (by have := HB5.out.size; omega)))
        clear hv hb6
        go_wp2_with fail
        refine EQ.out.mono ?_
        rintro e w7 ⟨rfl, rfl⟩
        go_wp2_with fail
        go_ret
        exact ⟨rfl, HB6.out⟩
      · have hkn : (k != 0) = true := by simp only [bne_iff_ne, ne_eq]; exact hk0
        clear hk0
        go_wp2_with fail
        go_ret
        exact ⟨rfl, HB5.out⟩
end Go.Proofs.YtpaafkhlelljcaaDoor
