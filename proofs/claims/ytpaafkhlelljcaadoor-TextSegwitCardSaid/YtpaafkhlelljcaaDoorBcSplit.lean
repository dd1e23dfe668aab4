/-
  text.split: the part ahead of the last 1, and the values behind it. Conditions: sizes within the reach.
-/
import Derived.Test.YtpaafkhlelljcaaDoorBcBech
import Derived.OwnWalk
namespace Go.Proofs.YtpaafkhlelljcaaDoor
open Go.RowKit

def SplitPost (w : World) (cs : List UInt8) (e : Ending) (w' : World) : Prop :=
  Below w.heap.size w w' ∧ (splitOk cs = true ∧ (∃ v, e = .returned (.tuple #[.string ⟨(headS cs).toArray⟩, v, .bool true]) ∧ Byt w' w'.heap.size v (valsS cs)) ∨
    splitOk cs = false ∧ e = .returned (.tuple #[.string ⟨#[]⟩, .slice none 0 0, .bool false]))
theorem splitOk_eq (cs : List UInt8) (p : Bool) (hp : cs.all okB = p) : splitOk cs = (p && (!(cs.any Lib.isUpperB && cs.any Lib.isLowerB) && (decide (1 ≤ oneAt (lowS cs)) && (decide (6 ≤ (tailS cs).length) && (tailS cs).all knownB)))) := by
  unfold splitOk; rw [hp]
theorem upto_list (s : ByteArray) (k : Nat) : (s.extract 0 k).data.toList = s.data.toList.take k := by
  rw [ByteArray.data_extract, Array.toList_extract]
  simp [List.extract]

set_option maxRecDepth 100000 in
set_option maxHeartbeats 6400000 in
theorem split_any (s : ByteArray) (w : World) (hs : s.size ≤ 60000) :
    Calls Tryd.prog 37 #[.string s] w (SplitPost w s.data.toList) := by
  have P := Lib.hid (printable_any s w (by omega))
  obtain ⟨h, hh⟩ : ∃ h, h = s.data.toList := ⟨_, rfl⟩
  have hhs : h.length = s.size := by rw [hh]; rfl
  cases hp : h.all okB with
  | false =>
    rw [← hh, hp] at P
    have hr := splitOk_eq h _ hp
    rw [Bool.false_and] at hr
    rw [← hh]
    have HR := Lib.hid hr
    clear hh hhs hp hr
    go_enter Tryd.func37, Tryd.ntmps37
    go_wp2_with fail
    refine P.out.mono ?_
    rintro e w1 ⟨rfl, rfl⟩
    go_wp2_with fail
    go_ret3
    exact ⟨Below.refl _ _, .inr ⟨HR.out, rfl⟩⟩
  | true =>
    rw [← hh, hp] at P
    have hr := splitOk_eq h _ hp
    rw [Bool.true_and] at hr
    have hasc := ok_ascii hp
    have C := Tryd.strings_ToLower_ascii s w (by omega) (by rw [← hh]; exact hasc)
    have U := fun W => Tryd.strings_ToUpper_ascii s W (by omega) (by rw [← hh]; exact hasc)
    have e1 : Lib.toLowerA s.data.toList = lowS h := by rw [← hh]; rfl
    have e2 : Lib.toUpperA s.data.toList = h.map Lib.upperB := by rw [← hh]; rfl
    rw [e1] at C
    simp only [e2] at U
    obtain ⟨low, hlow⟩ : ∃ low : ByteArray, low = ⟨(lowS h).toArray⟩ := ⟨_, rfl⟩
    obtain ⟨up, hup⟩ : ∃ up : ByteArray, up = ⟨(h.map Lib.upperB).toArray⟩ := ⟨_, rfl⟩
    have z1 : (s.toList == low.toList) = !h.any Lib.isUpperB := by rw [hlow, toL_mk, toL, ← hh, low_same]
    have z2 : (s.toList == up.toList) = !h.any Lib.isLowerB := by rw [hup, toL_mk, toL, ← hh, up_same]
    have hls : low.size = s.size := by rw [hlow]; show (lowS h).toArray.size = _; rw [List.size_toArray, lowS_length, hhs]
    have hone : Lib.lastIndexByte low 49 = oneAt (lowS h) := by rw [hlow]; rfl
    have hld : low.data.toList = lowS h := by rw [hlow]
    rw [← hlow] at C
    simp only [← hup] at U
    have LI := fun W => Tryd.strings_LastIndexByte low 49 (by omega) W
    simp only [hone] at LI
    rw [← hh]
    have HC := Lib.hid C
    have HU := Lib.hid U
    have HLI := Lib.hid LI
    have HLD := Lib.hid hld
    have HLS := Lib.hid hls
    have hs' := hs
    cases ha : h.any Lib.isUpperB with
    | false =>
      rw [ha] at z1 hr
      rw [Bool.false_and, Bool.not_false, Bool.true_and] at hr
      have HR := Lib.hid hr
      clear hh hhs hp hr hasc C U e1 e2 hlow hup hls hone hld LI z2 ha HU
      go_enter Tryd.func37, Tryd.ntmps37
      go_wp2_with fail
      refine P.out.mono ?_
      rintro e w1 ⟨rfl, rfl⟩
      go_wp2_with fail
      refine HC.out.mono ?_
      rintro e w2 ⟨rfl, hb2⟩
      go_wp2_with fail
      have HB := Lib.hid hb2
      clear hb2
      refine (HLI.out _).mono ?_
      rintro e w4 ⟨rfl, rfl⟩
      by_cases h1 : oneAt (lowS h) < 1
      · have hf : splitOk h = false := by rw [HR.out, decide_eq_false (by omega)]; rfl
        have HF := Lib.hid hf
        have d1 : decide (oneAt (lowS h) < 1) = true := decide_eq_true h1
        clear hf h1
        go_wp2_with fail
        go_ret3
        exact ⟨HB.out, .inr ⟨HF.out, rfl⟩⟩
      · have h1' : 1 ≤ oneAt (lowS h) := by omega
        obtain ⟨i, hi, hi49, _⟩ : ∃ i : Nat, oneAt (lowS h) = i ∧ (lowS h)[i]? = some 49 ∧ True := by
          rcases oneAt_spec (lowS h) with ⟨e, _⟩ | ⟨i, e, h2, _⟩
          · omega
          · exact ⟨i, e, h2, trivial⟩
        have hil := (List.getElem?_eq_some_iff.1 hi49).1
        have hsz : low.size = (lowS h).length := by show low.data.size = _; rw [← Array.length_toList, HLD.out]
        have hiz : i < low.size := by omega
        have hhead : headS h = (lowS h).take i := by unfold headS; rw [hi, Int.toNat_natCast]
        have htail : tailS h = (lowS h).drop (i + 1) := by unfold tailS; rw [hi, Int.toNat_natCast]
        have hE : (low.extract (i + 1) low.size).data.toList = tailS h := by rw [htail, ← HLD.out]; exact Lib.extract_to_end low (i + 1)
        have hH : low.extract 0 i = ⟨(headS h).toArray⟩ := str_of _ (by rw [upto_list, HLD.out, hhead])
        obtain ⟨E, hEE⟩ : ∃ E, E = low.extract (i + 1) low.size := ⟨_, rfl⟩
        rw [← hEE] at hE
        have hEs : E.size = (tailS h).length := by show E.data.size = _; rw [← Array.length_toList, hE]
        have hEl : E.size ≤ 60000 := by rw [hEs, htail, List.length_drop]; have := HLS.out; omega
        have PL := places_any E l32 w4 hEl (by decide)
        rw [hE] at PL
        have HPL := Lib.hid PL
        have hr2 : splitOk h = (decide (6 ≤ (tailS h).length) && (tailS h).all knownB) := by rw [HR.out, decide_eq_true h1']; rfl
        have HR2 := Lib.hid hr2
        have d1 : decide ((i : Int) < 1) = false := decide_eq_false (by omega)
        have hls60 : low.size ≤ 60000 := by have := HLS.out; omega
        have hi60 : i < 60000 := by omega
        have hi1 : (i : Int) + 1 ≤ (low.size : Int) := by omega
        have hi2 : (i : Int) ≤ (low.size : Int) := by omega
        have HH := Lib.hid hH
        obtain ⟨n, hn⟩ : ∃ n, n = (tailS h).length := ⟨_, rfl⟩
        have hn60 : n ≤ 60000 := by rw [hn, ← hEs]; exact hEl
        have HN := Lib.hid hn
        rw [hi]
        clear h1 h1' hi hi49 hil hsz hhead htail hE hH hEs hEl PL hr2 hn
        go_wp2_with fail
        rw [← hEE]
        clear hEE
        refine HPL.out.mono ?_
        rintro e w5 ⟨hb5, ⟨hall, rfl, hrow⟩ | ⟨⟨c, hcm, hneg⟩, rfl⟩⟩
        · have hk : (tailS h).all knownB = true := by
            rw [List.all_eq_true]
            intro c hc
            unfold knownB
            exact decide_eq_true (hall c hc)
          have HB5 := Lib.hid (HB.out.trans (hb5.mono HB.out.size))
          have hby := hrow.byt (n := n) (c := n) (by rw [placesB_length, HN.out]; omega) (by omega) (by unfold maxLen; omega)
          rw [List.take_of_length_le (by rw [placesB_length, HN.out]; omega)] at hby
          have HBY := Lib.hid hby
          have hr3 := HR2.out
          rw [hk, Bool.and_true, ← HN.out] at hr3
          have HR3 := Lib.hid hr3
          rw [← HN.out]
          clear hk hall hrow hb5 hby hr3
          by_cases h6 : n < 6
          · have d6 : decide ((n : Int) < 6) = true := decide_eq_true (by omega)
            have hf : splitOk h = false := by rw [HR3.out, decide_eq_false (by omega)]
            have HF := Lib.hid hf
            clear hf h6
            go_wp2_with fail
            go_ret3
            exact ⟨HB5.out, .inr ⟨HF.out, rfl⟩⟩
          · have d6 : decide ((n : Int) < 6) = false := decide_eq_false (by omega)
            have hf : splitOk h = true := by rw [HR3.out, decide_eq_true (by omega)]
            have HF := Lib.hid hf
            clear hf h6
            go_wp2_with fail
            go_ret3
            exact ⟨HB5.out, .inl ⟨HF.out, _, by rw [← HH.out]; rfl, HBY.out⟩⟩
        · have hf : splitOk h = false := by
            rw [HR2.out]
            have : (tailS h).all knownB = false := by
              rw [List.all_eq_false]
              exact ⟨c, hcm, by unfold knownB; rw [decide_eq_false (by omega)]; simp⟩
            rw [this, Bool.and_false]
          have HF := Lib.hid hf
          have HB5 := Lib.hid (HB.out.trans (hb5.mono HB.out.size))
          clear hf hb5 hcm hneg
          go_wp2_with fail
          go_ret3
          exact ⟨HB5.out, .inr ⟨HF.out, rfl⟩⟩
    | true =>
      cases hb : h.any Lib.isLowerB with
      | true =>
        rw [ha] at z1
        rw [hb] at z2
        rw [ha, hb, Bool.true_and, Bool.not_true, Bool.false_and] at hr
        have HR := Lib.hid hr
        clear hh hhs hp hr hasc C U e1 e2 hlow hup hls hone hld LI ha hb
        go_enter Tryd.func37, Tryd.ntmps37
        go_wp2_with fail
        refine P.out.mono ?_
        rintro e w1 ⟨rfl, rfl⟩
        go_wp2_with fail
        refine HC.out.mono ?_
        rintro e w2 ⟨rfl, hb2⟩
        go_wp2_with fail
        refine (HU.out _).mono ?_
        rintro e w3 ⟨rfl, hb3⟩
        have HB := Lib.hid (hb2.trans (hb3.mono hb2.size))
        go_wp2_with fail
        go_ret3
        exact ⟨HB.out, .inr ⟨HR.out, rfl⟩⟩
      | false =>
        rw [ha] at z1
        rw [hb] at z2
        rw [ha, hb, Bool.true_and, Bool.not_false, Bool.true_and] at hr
        have HR := Lib.hid hr
        clear hh hhs hp hr hasc C U e1 e2 hlow hup hls hone hld LI ha hb
        go_enter Tryd.func37, Tryd.ntmps37
        go_wp2_with fail
        refine P.out.mono ?_
        rintro e w1 ⟨rfl, rfl⟩
        go_wp2_with fail
        refine HC.out.mono ?_
        rintro e w2 ⟨rfl, hb2⟩
        go_wp2_with fail
        refine (HU.out _).mono ?_
        rintro e w3 ⟨rfl, hb3⟩
        have HB := Lib.hid (hb2.trans (hb3.mono hb2.size))
        clear hb2 hb3
        go_wp2_with fail
        refine (HLI.out _).mono ?_
        rintro e w4 ⟨rfl, rfl⟩
        by_cases h1 : oneAt (lowS h) < 1
        · have hf : splitOk h = false := by rw [HR.out, decide_eq_false (by omega)]; rfl
          have HF := Lib.hid hf
          have d1 : decide (oneAt (lowS h) < 1) = true := decide_eq_true h1
          clear hf h1
          go_wp2_with fail
          go_ret3
          exact ⟨HB.out, .inr ⟨HF.out, rfl⟩⟩
        · have h1' : 1 ≤ oneAt (lowS h) := by omega
          obtain ⟨i, hi, hi49, _⟩ : ∃ i : Nat, oneAt (lowS h) = i ∧ (lowS h)[i]? = some 49 ∧ True := by
            rcases oneAt_spec (lowS h) with ⟨e, _⟩ | ⟨i, e, h2, _⟩
            · omega
            · exact ⟨i, e, h2, trivial⟩
          have hil := (List.getElem?_eq_some_iff.1 hi49).1
          have hsz : low.size = (lowS h).length := by show low.data.size = _; rw [← Array.length_toList, HLD.out]
          have hiz : i < low.size := by omega
          have hhead : headS h = (lowS h).take i := by unfold headS; rw [hi, Int.toNat_natCast]
          have htail : tailS h = (lowS h).drop (i + 1) := by unfold tailS; rw [hi, Int.toNat_natCast]
          have hE : (low.extract (i + 1) low.size).data.toList = tailS h := by rw [htail, ← HLD.out]; exact Lib.extract_to_end low (i + 1)
          have hH : low.extract 0 i = ⟨(headS h).toArray⟩ := str_of _ (by rw [upto_list, HLD.out, hhead])
          obtain ⟨E, hEE⟩ : ∃ E, E = low.extract (i + 1) low.size := ⟨_, rfl⟩
          rw [← hEE] at hE
          have hEs : E.size = (tailS h).length := by show E.data.size = _; rw [← Array.length_toList, hE]
          have hEl : E.size ≤ 60000 := by rw [hEs, htail, List.length_drop]; have := HLS.out; omega
          have PL := places_any E l32 w4 hEl (by decide)
          rw [hE] at PL
          have HPL := Lib.hid PL
          have hr2 : splitOk h = (decide (6 ≤ (tailS h).length) && (tailS h).all knownB) := by rw [HR.out, decide_eq_true h1']; rfl
          have HR2 := Lib.hid hr2
          have d1 : decide ((i : Int) < 1) = false := decide_eq_false (by omega)
          have hls60 : low.size ≤ 60000 := by have := HLS.out; omega
          have hi60 : i < 60000 := by omega
          have hi1 : (i : Int) + 1 ≤ (low.size : Int) := by omega
          have hi2 : (i : Int) ≤ (low.size : Int) := by omega
          have HH := Lib.hid hH
          obtain ⟨n, hn⟩ : ∃ n, n = (tailS h).length := ⟨_, rfl⟩
          have hn60 : n ≤ 60000 := by rw [hn, ← hEs]; exact hEl
          have HN := Lib.hid hn
          rw [hi]
          clear h1 h1' hi hi49 hil hsz hhead htail hE hH hEs hEl PL hr2 hn
          go_wp2_with fail
          rw [← hEE]
          clear hEE
          refine HPL.out.mono ?_
          rintro e w5 ⟨hb5, ⟨hall, rfl, hrow⟩ | ⟨⟨c, hcm, hneg⟩, rfl⟩⟩
          · have hk : (tailS h).all knownB = true := by
              rw [List.all_eq_true]
              intro c hc
              unfold knownB
              exact decide_eq_true (hall c hc)
            have HB5 := Lib.hid (HB.out.trans (hb5.mono HB.out.size))
            have hby := hrow.byt (n := n) (c := n) (by rw [placesB_length, HN.out]; omega) (by omega) (by unfold maxLen; omega)
            rw [List.take_of_length_le (by rw [placesB_length, HN.out]; omega)] at hby
            have HBY := Lib.hid hby
            have hr3 := HR2.out
            rw [hk, Bool.and_true, ← HN.out] at hr3
            have HR3 := Lib.hid hr3
            rw [← HN.out]
            clear hk hall hrow hb5 hby hr3
            by_cases h6 : n < 6
            · have d6 : decide ((n : Int) < 6) = true := decide_eq_true (by omega)
              have hf : splitOk h = false := by rw [HR3.out, decide_eq_false (by omega)]
              have HF := Lib.hid hf
              clear hf h6
              go_wp2_with fail
              go_ret3
              exact ⟨HB5.out, .inr ⟨HF.out, rfl⟩⟩
            · have d6 : decide ((n : Int) < 6) = false := decide_eq_false (by omega)
              have hf : splitOk h = true := by rw [HR3.out, decide_eq_true (by omega)]
              have HF := Lib.hid hf
              clear hf h6
              go_wp2_with fail
              go_ret3
              exact ⟨HB5.out, .inl ⟨HF.out, _, by rw [← HH.out]; rfl, HBY.out⟩⟩
          · have hf : splitOk h = false := by
              rw [HR2.out]
              have : (tailS h).all knownB = false := by
                rw [List.all_eq_false]
                exact ⟨c, hcm, by unfold knownB; rw [decide_eq_false (by omega)]; simp⟩
              rw [this, Bool.and_false]
            have HF := Lib.hid hf
            have HB5 := Lib.hid (HB.out.trans (hb5.mono HB.out.size))
            clear hf hb5 hcm hneg
            go_wp2_with fail
            go_ret3
            exact ⟨HB5.out, .inr ⟨HF.out, rfl⟩⟩
end Go.Proofs.YtpaafkhlelljcaaDoor
