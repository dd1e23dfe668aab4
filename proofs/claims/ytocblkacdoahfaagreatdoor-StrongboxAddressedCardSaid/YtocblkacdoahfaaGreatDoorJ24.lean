/-
  Texts joined: BcBech, BcSplit, AscPure. Conditions: those of each.
-/
import Derived.Test.YtocblkacdoahfaaGreatDoorJ23
import Derived.OwnWalk
import Derived.Test.YtocblkacdoahfaaGreatDoorJ5
/-
  text.Bech32: a part for people, 1, values and their checksum. Conditions: the listed table holds what its text lays; sizes within the reach.
-/
namespace Go.Proofs.YtocblkacdoahfaaGreatDoor.Tx
open Go.RowKit

theorem str_app {a b : List UInt8} : (⟨a.toArray⟩ : ByteArray) ++ ⟨b.toArray⟩ = ⟨(a ++ b).toArray⟩ := by
  apply Go.WideShapes.bytes_inj
  simp
theorem str_of (s : ByteArray) {h : List UInt8} (e : h = s.data.toList) : s = ⟨h.toArray⟩ := Go.WideShapes.bytes_inj (by rw [e])
theorem vals_small {h d : List UInt8} {m : Bool} (hd : d.any wideB = false) : ∀ v ∈ d ++ closeB h d m, v.toNat < l32.size := fun v hv => by
  have e : l32.size = 32 := rfl
  rw [e]
  rcases List.mem_append.1 hv with h1 | h1
  · exact narrow hd v h1
  · exact closeB_small h d m v h1

set_option maxRecDepth 100000 in
set_option maxHeartbeats 3200000 in
theorem bech32_any (B : Nat) (s : ByteArray) (x : Value) (d : List UInt8) (m : Bool) (w : World) (hc : BechIs w) (hx : Byt w B x d) (hB : B ≤ w.heap.size) (hs : s.size ≤ 140737488355328) (hl : d.length ≤ 20000) :
    Calls Tryz.prog 31 #[.string s, x, .bool m] w fun e w' => e = .returned (.tuple #[.string ⟨(bechS s.data.toList d m).2.toArray⟩, .int .i64 (bechS s.data.toList d m).1]) ∧ Below w.heap.size w w' := by
  obtain ⟨A, cx, hxf⟩ := hx.form
  subst hxf
  have HX := Lib.hid hx
  have HC := Lib.hid hc
  have P := Lib.hid (part_any s w hs)
  have HS := Lib.hid hs
  obtain ⟨h, hh⟩ : ∃ h, h = s.data.toList := ⟨_, rfl⟩
  have hhs : h.length = s.size := by rw [hh]; rfl
  rw [← hh] at P ⊢
  have HH := Lib.hid hh
  have HHS := Lib.hid hhs
  obtain ⟨r, hr⟩ : ∃ r, r = bechS h d m := ⟨_, rfl⟩
  rw [← hr]
  by_cases h1 : 83 < h.length + d.length
  · have d1 : decide (90 < (s.size : Int) + 1 + (d.length : Int) + 6) = true := decide_eq_true (by omega)
    rw [bechS_size h1] at hr
    subst hr
    clear hx hc hh h1 hhs
    go_enter Tryz.func31, Tryz.ntmps31
    go_wp2_with fail
    go_ret2
    exact ⟨rfl, Below.refl _ _⟩
  · have d1 : decide (90 < (s.size : Int) + 1 + (d.length : Int) + 6) = false := decide_eq_false (by omega)
    have hh83 : h.length ≤ 83 := by omega
    cases hp : partOk h with
    | false =>
      rw [bechS_form h1 (.inl hp)] at hr
      subst hr
      rw [hp] at P
      clear hx hc hh h1 hhs hp
      go_enter Tryz.func31, Tryz.ntmps31
      go_wp2_with fail
      refine P.out.mono ?_
      rintro e w1 ⟨rfl, hb1⟩
      go_wp2_with fail
      go_ret2
      exact ⟨rfl, hb1⟩
    | true =>
      rw [hp] at P
      have K := Lib.hid (fun (W : World) (hb : Below w.heap.size w W) => contains_wide B _ d W (HX.out.below (hb.mono hB)) (Nat.le_trans hB hb.size))
      cases hd : d.any wideB with
      | true =>
        rw [bechS_form h1 (.inr hd)] at hr
        subst hr
        rw [hd] at K
        clear hx hc hh h1 hhs hp hd
        go_enter Tryz.func31, Tryz.ntmps31
        go_wp2_with fail
        refine P.out.mono ?_
        rintro e w1 ⟨rfl, hb1⟩
        have K1 := Lib.hid (K.out w1 hb1)
        go_wp2_with fail
        refine K1.out.mono ?_
        rintro e w2 ⟨rfl, rfl⟩
        go_wp2_with fail
        go_ret2
        exact ⟨rfl, hb1⟩
      | false =>
        rw [bechS_good h1 hp hd] at hr
        have HVS := Lib.hid (vals_small (h := h) (m := m) hd)
        have HR := Lib.hid hr
        rw [hd] at K
        have hcl := closeB_length h d m
        obtain ⟨L, hL⟩ : ∃ L, L = closeB h d m := ⟨_, rfl⟩
        rw [← hL] at hcl HVS HR
        have HL := Lib.hid hL
        have HCL := Lib.hid hcl
        clear hx hc hh h1 hhs hp hd hr hcl hL
        go_enter Tryz.func31, Tryz.ntmps31
        go_wp2_with fail
        refine P.out.mono ?_
        rintro e w1 ⟨rfl, hb1⟩
        have K1 := Lib.hid (K.out w1 hb1)
        have HB1 := Lib.hid hb1
        clear hb1
        go_wp2_with fail
        refine K1.out.mono ?_
        rintro e w2 ⟨rfl, rfl⟩
        have hs1 := HB1.out.size
        have S := sum32_any B s _ d m w1 (HC.out.below HB1.out HC.out.1) (HX.out.below (HB1.out.mono hB)) (by omega) (by have := HHS.out; omega) (by omega)
        rw [← HH.out, ← HL.out] at S
        have HSUM := Lib.hid S
        clear S K1
        go_wp2_with fail
        refine HSUM.out.mono ?_
        rintro e w2 ⟨g, rfl, hg, hrow, hb2⟩
        have hs2 := hb2.size
        have hby := hrow.byt (n := 6) (c := 6) (by rw [HCL.out]; omega) (by omega) (by unfold maxLen; omega)
        rw [List.take_of_length_le (by rw [HCL.out]; omega)] at hby
        have HB2 := Lib.hid (HB1.out.trans (hb2.mono hs1))
        have hbag := BagR.made w2 23 [.slice A d.length cx, .slice (some ⟨g, 0, none⟩) 6 6] [(.slice A d.length cx, d), (.slice (some ⟨g, 0, none⟩) 6 6, L)] rfl (by unfold maxLen; simp) (by
          intro p hp
          simp only [List.mem_cons, List.not_mem_nil, or_false] at hp
          rcases hp with rfl | rfl
          · exact (HX.out.below (HB2.out.mono hB)).more (Nat.le_trans hB HB2.out.size)
          · exact hby)
        have hj : joined [((.slice A d.length cx : Value), d), (.slice (some ⟨g, 0, none⟩) 6 6, L)] = d ++ L := by unfold joined; simp
        have C2 := concat_any (w2.heap.size + 1) _ _ (w2.alloc (.cells #[.slice A d.length cx, .slice (some ⟨g, 0, none⟩) 6 6] 23)) hbag (by simp) (by rw [← joined_length, hj, List.length_append, HCL.out]; omega)
        rw [hj] at C2
        have HC2 := Lib.hid C2
        have HB2' := Lib.hid (HB2.out.alloc HB2.out.size (.cells #[.slice A d.length cx, .slice (some ⟨g, 0, none⟩) 6 6] 23))
        obtain ⟨V, hV⟩ : ∃ V, V = d ++ L := ⟨_, rfl⟩
        have hVl : V.length = d.length + 6 := by rw [hV, List.length_append, HCL.out]
        rw [← hV] at HC2 HVS HR
        have HVL := Lib.hid hVl
        clear hVl
        clear hbag hj C2 hby hb2 hrow hV HSUM
        go_wp2_with fail
        refine HC2.out.mono ?_
        intro e w3 hfr
        obtain ⟨v3, rfl, hown3, hb3⟩ := fresh_v hfr
        have HB3 := Lib.hid (HB2'.out.trans (hb3.mono (by have := HB2'.out.size; simpa using this)))
        have C3 := Lib.hid (spell_any w3.heap.size v3 V l32 w3 (Byt.of_own hown3) (Nat.le_refl _) (by have := HVL.out; omega) HVS.out)
        obtain ⟨A3, c3, rfl⟩ := hown3.form
        clear hfr hown3 hb3
        go_wp2_with fail
        refine C3.out.mono ?_
        rintro e w4 ⟨rfl, hb4⟩
        have HB4 := Lib.hid (HB3.out.trans (hb4.mono HB3.out.size))
        have hss : s.size ≤ 83 := by have := HHS.out; omega
        obtain ⟨Z, hZ⟩ : ∃ Z : ByteArray, Z = ⟨(letters l32 V).toArray⟩ := ⟨_, rfl⟩
        have hZs : Z.size ≤ 20006 := by rw [hZ]; show (letters l32 V).toArray.size ≤ 20006; rw [List.size_toArray, letters_length]; have := HVL.out; omega
        rw [← hZ]
        have HZ := Lib.hid hZ
        obtain ⟨Y, hY⟩ : ∃ Y : ByteArray, Y = s ++ ⟨#[49]⟩ := ⟨_, rfl⟩
        have hYs : Y.size ≤ 84 := by rw [hY, ByteArray.size_append]; show s.size + 1 ≤ 84; omega
        have HY := Lib.hid hY
        rw [← hY]
        clear hb4 hZ C3 hY hs hss HS
        go_wp2_with fail
        go_ret2
        refine ⟨?_, HB4.out⟩
        rw [HR.out]
        have e1 : Y ++ Z = ⟨(h ++ [49] ++ letters l32 V).toArray⟩ := by
          rw [HY.out, HZ.out, str_of s HH.out]
          show (⟨h.toArray⟩ : ByteArray) ++ ⟨[49].toArray⟩ ++ _ = _
          rw [str_app, str_app]
        rw [← e1]
        rfl
end Go.Proofs.YtocblkacdoahfaaGreatDoor.Tx

/-
  text.split: the part ahead of the last 1, and the values behind it. Conditions: sizes within the reach.
-/
namespace Go.Proofs.YtocblkacdoahfaaGreatDoor.Tx
open Go.RowKit

def SplitPost (w : World) (cs : List UInt8) (e : Ending) (w' : World) : Prop :=
  Below w.heap.size w w' ∧ (splitOk cs = true ∧ (∃ v, e = .returned (.tuple #[.string ⟨(headS cs).toArray⟩, v, .bool true]) ∧ Byt w' w'.heap.size v (valsS cs)) ∨
    splitOk cs = false ∧ e = .returned (.tuple #[.string ⟨#[]⟩, .slice none 0 0, .bool false]))
theorem splitOk_eq (cs : List UInt8) (p : Bool) (hp : cs.all okB = p) : splitOk cs = (p && (!(cs.any Lib.isUpperB && cs.any Lib.isLowerB) && (decide (1 ≤ oneAt (lowS cs)) && (decide (6 ≤ (tailS cs).length) && (tailS cs).all knownB)))) := by
  unfold splitOk; rw [hp]
theorem upto_list (s : ByteArray) (k : Nat) : (s.extract 0 k).data.toList = s.data.toList.take k := by
  rw [ByteArray.data_extract, Array.toList_extract]
  simp [List.extract]

set_option maxRecDepth 100000 in
set_option maxHeartbeats 6400000 in
theorem split_any (s : ByteArray) (w : World) (hs : s.size ≤ 60000) :
    Calls Tryz.prog 61 #[.string s] w (SplitPost w s.data.toList) := by
  have P := Lib.hid (printable_any s w (by omega))
  obtain ⟨h, hh⟩ : ∃ h, h = s.data.toList := ⟨_, rfl⟩
  have hhs : h.length = s.size := by rw [hh]; rfl
  cases hp : h.all okB with
  | false =>
    rw [← hh, hp] at P
    have hr := splitOk_eq h _ hp
    rw [Bool.false_and] at hr
    rw [← hh]
    have HR := Lib.hid hr
    clear hh hhs hp hr
    go_enter Tryz.func61, Tryz.ntmps61
    go_wp2_with fail
    refine P.out.mono ?_
    rintro e w1 ⟨rfl, rfl⟩
    go_wp2_with fail
    go_ret3
    exact ⟨Below.refl _ _, .inr ⟨HR.out, rfl⟩⟩
  | true =>
    rw [← hh, hp] at P
    have hr := splitOk_eq h _ hp
    rw [Bool.true_and] at hr
    have hasc := ok_ascii hp
    have C := Tryz.strings_ToLower_ascii s w (by omega) (by rw [← hh]; exact hasc)
    have U := fun W => Tryz.strings_ToUpper_ascii s W (by omega) (by rw [← hh]; exact hasc)
    have e1 : Lib.toLowerA s.data.toList = lowS h := by rw [← hh]; rfl
    have e2 : Lib.toUpperA s.data.toList = h.map Lib.upperB := by rw [← hh]; rfl
    rw [e1] at C
    simp only [e2] at U
    obtain ⟨low, hlow⟩ : ∃ low : ByteArray, low = ⟨(lowS h).toArray⟩ := ⟨_, rfl⟩
    obtain ⟨up, hup⟩ : ∃ up : ByteArray, up = ⟨(h.map Lib.upperB).toArray⟩ := ⟨_, rfl⟩
    have z1 : (s.toList == low.toList) = !h.any Lib.isUpperB := by rw [hlow, toL_mk, toL, ← hh, low_same]
    have z2 : (s.toList == up.toList) = !h.any Lib.isLowerB := by rw [hup, toL_mk, toL, ← hh, up_same]
    have hls : low.size = s.size := by rw [hlow]; show (lowS h).toArray.size = _; rw [List.size_toArray, lowS_length, hhs]
    have hone : Lib.lastIndexByte low 49 = oneAt (lowS h) := by rw [hlow]; rfl
    have hld : low.data.toList = lowS h := by rw [hlow]
    rw [← hlow] at C
    simp only [← hup] at U
    have LI := fun W => Tryz.strings_LastIndexByte low 49 (by omega) W
    simp only [hone] at LI
    rw [← hh]
    have HC := Lib.hid C
    have HU := Lib.hid U
    have HLI := Lib.hid LI
    have HLD := Lib.hid hld
    have HLS := Lib.hid hls
    have hs' := hs
    cases ha : h.any Lib.isUpperB with
    | false =>
      rw [ha] at z1 hr
      rw [Bool.false_and, Bool.not_false, Bool.true_and] at hr
      have HR := Lib.hid hr
      clear hh hhs hp hr hasc C U e1 e2 hlow hup hls hone hld LI z2 ha HU
      go_enter Tryz.func61, Tryz.ntmps61
      go_wp2_with fail
      refine P.out.mono ?_
      rintro e w1 ⟨rfl, rfl⟩
      go_wp2_with fail
      refine HC.out.mono ?_
      rintro e w2 ⟨rfl, hb2⟩
      go_wp2_with fail
      have HB := Lib.hid hb2
      clear hb2
      refine (HLI.out _).mono ?_
      rintro e w4 ⟨rfl, rfl⟩
      by_cases h1 : oneAt (lowS h) < 1
      · have hf : splitOk h = false := by rw [HR.out, decide_eq_false (by omega)]; rfl
        have HF := Lib.hid hf
        have d1 : decide (oneAt (lowS h) < 1) = true := decide_eq_true h1
        clear hf h1
        go_wp2_with fail
        go_ret3
        exact ⟨HB.out, .inr ⟨HF.out, rfl⟩⟩
      · have h1' : 1 ≤ oneAt (lowS h) := by omega
        obtain ⟨i, hi, hi49, _⟩ : ∃ i : Nat, oneAt (lowS h) = i ∧ (lowS h)[i]? = some 49 ∧ True := by
          rcases oneAt_spec (lowS h) with ⟨e, _⟩ | ⟨i, e, h2, _⟩
          · omega
          · exact ⟨i, e, h2, trivial⟩
        have hil := (List.getElem?_eq_some_iff.1 hi49).1
        have hsz : low.size = (lowS h).length := by show low.data.size = _; rw [← Array.length_toList, HLD.out]
        have hiz : i < low.size := by omega
        have hhead : headS h = (lowS h).take i := by unfold headS; rw [hi, Int.toNat_natCast]
        have htail : tailS h = (lowS h).drop (i + 1) := by unfold tailS; rw [hi, Int.toNat_natCast]
        have hE : (low.extract (i + 1) low.size).data.toList = tailS h := by rw [htail, ← HLD.out]; exact Lib.extract_to_end low (i + 1)
        have hH : low.extract 0 i = ⟨(headS h).toArray⟩ := str_of _ (by rw [upto_list, HLD.out, hhead])
        obtain ⟨E, hEE⟩ : ∃ E, E = low.extract (i + 1) low.size := ⟨_, rfl⟩
        rw [← hEE] at hE
        have hEs : E.size = (tailS h).length := by show E.data.size = _; rw [← Array.length_toList, hE]
        have hEl : E.size ≤ 60000 := by rw [hEs, htail, List.length_drop]; have := HLS.out; omega
        have PL := places_any E l32 w4 hEl (by decide)
        rw [hE] at PL
        have HPL := Lib.hid PL
        have hr2 : splitOk h = (decide (6 ≤ (tailS h).length) && (tailS h).all knownB) := by rw [HR.out, decide_eq_true h1']; rfl
        have HR2 := Lib.hid hr2
        have d1 : decide ((i : Int) < 1) = false := decide_eq_false (by omega)
        have hls60 : low.size ≤ 60000 := by have := HLS.out; omega
        have hi60 : i < 60000 := by omega
        have hi1 : (i : Int) + 1 ≤ (low.size : Int) := by omega
        have hi2 : (i : Int) ≤ (low.size : Int) := by omega
        have HH := Lib.hid hH
        obtain ⟨n, hn⟩ : ∃ n, n = (tailS h).length := ⟨_, rfl⟩
        have hn60 : n ≤ 60000 := by rw [hn, ← hEs]; exact hEl
        have HN := Lib.hid hn
        rw [hi]
        clear h1 h1' hi hi49 hil hsz hhead htail hE hH hEs hEl PL hr2 hn
        go_wp2_with fail
        rw [← hEE]
        clear hEE
        refine HPL.out.mono ?_
        rintro e w5 ⟨hb5, ⟨hall, rfl, hrow⟩ | ⟨⟨c, hcm, hneg⟩, rfl⟩⟩
        · have hk : (tailS h).all knownB = true := by
            rw [List.all_eq_true]
            intro c hc
            unfold knownB
            exact decide_eq_true (hall c hc)
          have HB5 := Lib.hid (HB.out.trans (hb5.mono HB.out.size))
          have hby := hrow.byt (n := n) (c := n) (by rw [placesB_length, HN.out]; omega) (by omega) (by unfold maxLen; omega)
          rw [List.take_of_length_le (by rw [placesB_length, HN.out]; omega)] at hby
          have HBY := Lib.hid hby
          have hr3 := HR2.out
          rw [hk, Bool.and_true, ← HN.out] at hr3
          have HR3 := Lib.hid hr3
          rw [← HN.out]
          clear hk hall hrow hb5 hby hr3
          by_cases h6 : n < 6
          · have d6 : decide ((n : Int) < 6) = true := decide_eq_true (by omega)
            have hf : splitOk h = false := by rw [HR3.out, decide_eq_false (by omega)]
            have HF := Lib.hid hf
            clear hf h6
            go_wp2_with fail
            go_ret3
            exact ⟨HB5.out, .inr ⟨HF.out, rfl⟩⟩
          · have d6 : decide ((n : Int) < 6) = false := decide_eq_false (by omega)
            have hf : splitOk h = true := by rw [HR3.out, decide_eq_true (by omega)]
            have HF := Lib.hid hf
            clear hf h6
            go_wp2_with fail
            go_ret3
            exact ⟨HB5.out, .inl ⟨HF.out, _, by rw [← HH.out]; rfl, HBY.out⟩⟩
        · have hf : splitOk h = false := by
            rw [HR2.out]
            have : (tailS h).all knownB = false := by
              rw [List.all_eq_false]
              exact ⟨c, hcm, by unfold knownB; rw [decide_eq_false (by omega)]; simp⟩
            rw [this, Bool.and_false]
          have HF := Lib.hid hf
          have HB5 := Lib.hid (HB.out.trans (hb5.mono HB.out.size))
          clear hf hb5 hcm hneg
          go_wp2_with fail
          go_ret3
          exact ⟨HB5.out, .inr ⟨HF.out, rfl⟩⟩
    | true =>
      cases hb : h.any Lib.isLowerB with
      | true =>
        rw [ha] at z1
        rw [hb] at z2
        rw [ha, hb, Bool.true_and, Bool.not_true, Bool.false_and] at hr
        have HR := Lib.hid hr
        clear hh hhs hp hr hasc C U e1 e2 hlow hup hls hone hld LI ha hb
        go_enter Tryz.func61, Tryz.ntmps61
        go_wp2_with fail
        refine P.out.mono ?_
        rintro e w1 ⟨rfl, rfl⟩
        go_wp2_with fail
        refine HC.out.mono ?_
        rintro e w2 ⟨rfl, hb2⟩
        go_wp2_with fail
        refine (HU.out _).mono ?_
        rintro e w3 ⟨rfl, hb3⟩
        have HB := Lib.hid (hb2.trans (hb3.mono hb2.size))
        go_wp2_with fail
        go_ret3
        exact ⟨HB.out, .inr ⟨HR.out, rfl⟩⟩
      | false =>
        rw [ha] at z1
        rw [hb] at z2
        rw [ha, hb, Bool.true_and, Bool.not_false, Bool.true_and] at hr
        have HR := Lib.hid hr
        clear hh hhs hp hr hasc C U e1 e2 hlow hup hls hone hld LI ha hb
        go_enter Tryz.func61, Tryz.ntmps61
        go_wp2_with fail
        refine P.out.mono ?_
        rintro e w1 ⟨rfl, rfl⟩
        go_wp2_with fail
        refine HC.out.mono ?_
        rintro e w2 ⟨rfl, hb2⟩
        go_wp2_with fail
        refine (HU.out _).mono ?_
        rintro e w3 ⟨rfl, hb3⟩
        have HB := Lib.hid (hb2.trans (hb3.mono hb2.size))
        clear hb2 hb3
        go_wp2_with fail
        refine (HLI.out _).mono ?_
        rintro e w4 ⟨rfl, rfl⟩
        by_cases h1 : oneAt (lowS h) < 1
        · have hf : splitOk h = false := by rw [HR.out, decide_eq_false (by omega)]; rfl
          have HF := Lib.hid hf
          have d1 : decide (oneAt (lowS h) < 1) = true := decide_eq_true h1
          clear hf h1
          go_wp2_with fail
          go_ret3
          exact ⟨HB.out, .inr ⟨HF.out, rfl⟩⟩
        · have h1' : 1 ≤ oneAt (lowS h) := by omega
          obtain ⟨i, hi, hi49, _⟩ : ∃ i : Nat, oneAt (lowS h) = i ∧ (lowS h)[i]? = some 49 ∧ True := by
            rcases oneAt_spec (lowS h) with ⟨e, _⟩ | ⟨i, e, h2, _⟩
            · omega
            · exact ⟨i, e, h2, trivial⟩
          have hil := (List.getElem?_eq_some_iff.1 hi49).1
          have hsz : low.size = (lowS h).length := by show low.data.size = _; rw [← Array.length_toList, HLD.out]
          have hiz : i < low.size := by omega
          have hhead : headS h = (lowS h).take i := by unfold headS; rw [hi, Int.toNat_natCast]
          have htail : tailS h = (lowS h).drop (i + 1) := by unfold tailS; rw [hi, Int.toNat_natCast]
          have hE : (low.extract (i + 1) low.size).data.toList = tailS h := by rw [htail, ← HLD.out]; exact Lib.extract_to_end low (i + 1)
          have hH : low.extract 0 i = ⟨(headS h).toArray⟩ := str_of _ (by rw [upto_list, HLD.out, hhead])
          obtain ⟨E, hEE⟩ : ∃ E, E = low.extract (i + 1) low.size := ⟨_, rfl⟩
          rw [← hEE] at hE
          have hEs : E.size = (tailS h).length := by show E.data.size = _; rw [← Array.length_toList, hE]
          have hEl : E.size ≤ 60000 := by rw [hEs, htail, List.length_drop]; have := HLS.out; omega
          have PL := places_any E l32 w4 hEl (by decide)
          rw [hE] at PL
          have HPL := Lib.hid PL
          have hr2 : splitOk h = (decide (6 ≤ (tailS h).length) && (tailS h).all knownB) := by rw [HR.out, decide_eq_true h1']; rfl
          have HR2 := Lib.hid hr2
          have d1 : decide ((i : Int) < 1) = false := decide_eq_false (by omega)
          have hls60 : low.size ≤ 60000 := by have := HLS.out; omega
          have hi60 : i < 60000 := by omega
          have hi1 : (i : Int) + 1 ≤ (low.size : Int) := by omega
          have hi2 : (i : Int) ≤ (low.size : Int) := by omega
          have HH := Lib.hid hH
          obtain ⟨n, hn⟩ : ∃ n, n = (tailS h).length := ⟨_, rfl⟩
          have hn60 : n ≤ 60000 := by rw [hn, ← hEs]; exact hEl
          have HN := Lib.hid hn
          rw [hi]
          clear h1 h1' hi hi49 hil hsz hhead htail hE hH hEs hEl PL hr2 hn
          go_wp2_with fail
          rw [← hEE]
          clear hEE
          refine HPL.out.mono ?_
          rintro e w5 ⟨hb5, ⟨hall, rfl, hrow⟩ | ⟨⟨c, hcm, hneg⟩, rfl⟩⟩
          · have hk : (tailS h).all knownB = true := by
              rw [List.all_eq_true]
              intro c hc
              unfold knownB
              exact decide_eq_true (hall c hc)
            have HB5 := Lib.hid (HB.out.trans (hb5.mono HB.out.size))
            have hby := hrow.byt (n := n) (c := n) (by rw [placesB_length, HN.out]; omega) (by omega) (by unfold maxLen; omega)
            rw [List.take_of_length_le (by rw [placesB_length, HN.out]; omega)] at hby
            have HBY := Lib.hid hby
            have hr3 := HR2.out
            rw [hk, Bool.and_true, ← HN.out] at hr3
            have HR3 := Lib.hid hr3
            rw [← HN.out]
            clear hk hall hrow hb5 hby hr3
            by_cases h6 : n < 6
            · have d6 : decide ((n : Int) < 6) = true := decide_eq_true (by omega)
              have hf : splitOk h = false := by rw [HR3.out, decide_eq_false (by omega)]
              have HF := Lib.hid hf
              clear hf h6
              go_wp2_with fail
              go_ret3
              exact ⟨HB5.out, .inr ⟨HF.out, rfl⟩⟩
            · have d6 : decide ((n : Int) < 6) = false := decide_eq_false (by omega)
              have hf : splitOk h = true := by rw [HR3.out, decide_eq_true (by omega)]
              have HF := Lib.hid hf
              clear hf h6
              go_wp2_with fail
              go_ret3
              exact ⟨HB5.out, .inl ⟨HF.out, _, by rw [← HH.out]; rfl, HBY.out⟩⟩
          · have hf : splitOk h = false := by
              rw [HR2.out]
              have : (tailS h).all knownB = false := by
                rw [List.all_eq_false]
                exact ⟨c, hcm, by unfold knownB; rw [decide_eq_false (by omega)]; simp⟩
              rw [this, Bool.and_false]
            have HF := Lib.hid hf
            have HB5 := Lib.hid (HB.out.trans (hb5.mono HB.out.size))
            clear hf hb5 hcm hneg
            go_wp2_with fail
            go_ret3
            exact ⟨HB5.out, .inr ⟨HF.out, rfl⟩⟩
end Go.Proofs.YtocblkacdoahfaaGreatDoor.Tx

/-
  A number's digits, the least one first. Conditions: none (plain mathematics).
-/
namespace Go.Proofs.YtocblkacdoahfaaGreatDoor
open Go.RowKit

def valF (b : Nat) (ds : List UInt8) : Nat := ds.foldl (fun a d => a * b + d.toNat) 0
theorem valF_snoc (b : Nat) {ds : List UInt8} {i : Nat} {d : UInt8} (h : ds[i]? = some d) : valF b (ds.take (i + 1)) = valF b (ds.take i) * b + d.toNat := by
  unfold valF
  rw [List.take_add_one, h, List.foldl_append]
  rfl
/-- The j-th digit. -/
def digN (b N j : Nat) : UInt8 := b8 ((N / b ^ j % b : Nat) : Int)
def digitsL (b N k : Nat) : List UInt8 := (List.range k).map (digN b N)
theorem digitsL_length (b N k : Nat) : (digitsL b N k).length = k := by simp [digitsL]
theorem digitsL_succ (b N k : Nat) : digitsL b N (k + 1) = digitsL b N k ++ [digN b N k] := by simp [digitsL, List.range_succ]
theorem digitsL_at {b N k j : Nat} (h : j < k) : (digitsL b N k)[j]? = some (digN b N j) := by
  unfold digitsL
  rw [List.getElem?_map, List.getElem?_range h]
  rfl
theorem digN_nat {b N j : Nat} (h0 : 0 < b) (h : b ≤ 256) : (digN b N j).toNat = N / b ^ j % b := by
  have h1 := b8_toNat ((N / b ^ j % b : Nat) : Int)
  have h2 := Nat.mod_lt (N / b ^ j) h0
  unfold digN
  omega
/-- The digits of N, none of them for nothing. -/
def AscOf (b N : Nat) (out : List UInt8) : Prop := ∃ k, out = digitsL b N k ∧ N / b ^ k = 0 ∧ ∀ j, j < k → N / b ^ j ≠ 0
theorem AscOf.zero (b : Nat) : AscOf b 0 [] := ⟨0, rfl, by simp, fun j h => by omega⟩
theorem AscOf.unique {b N : Nat} {x y : List UInt8} (hx : AscOf b N x) (hy : AscOf b N y) : x = y := by
  obtain ⟨k, rfl, hk, hkj⟩ := hx
  obtain ⟨m, rfl, hm, hmj⟩ := hy
  have h1 : ¬ k < m := fun h => hmj k h hk
  have h2 : ¬ m < k := fun h => hkj m h hm
  have : k = m := by omega
  rw [this]
theorem digits_short {b N m n : Nat} (hb : 2 ≤ b) (hN : N < 2 ^ n) (h : ∀ j, j < m → N / b ^ j ≠ 0) : m ≤ n := by
  rcases Nat.lt_or_ge n m with hl | hl
  · exfalso
    refine h n hl (Nat.div_eq_of_lt (Nat.lt_of_lt_of_le hN ?_))
    exact Nat.pow_le_pow_left hb n
  · exact hl
theorem AscOf.short {b N : Nat} {out : List UInt8} {n : Nat} (h : AscOf b N out) (hb : 2 ≤ b) (hN : N < 2 ^ n) : out.length ≤ n := by
  obtain ⟨k, rfl, hk, hkj⟩ := h
  rw [digitsL_length]
  exact digits_short hb hN hkj
theorem valF_lt {b : Nat} (hb : b ≤ 256) (_h1 : 0 < b) (ds : List UInt8) (hd : ∀ d ∈ ds, d.toNat < b) : valF b ds < 2 ^ (8 * ds.length) := by
  obtain ⟨r, hr⟩ : ∃ r, r = ds.reverse := ⟨_, rfl⟩
  have hp : ds = r.reverse := by rw [hr, List.reverse_reverse]
  rw [hp] at hd ⊢
  clear hp hr ds
  induction r with
  | nil => simp [valF]
  | cons d r ih =>
    have hd0 := hd d (by simp)
    have ih := ih (fun e he => hd e (by rw [List.reverse_cons]; exact List.mem_append_left _ he))
    have e : valF b (d :: r).reverse = valF b r.reverse * b + d.toNat := by
      unfold valF
      rw [List.reverse_cons, List.foldl_append]
      rfl
    rw [e]
    simp only [List.length_reverse, List.length_cons] at ih ⊢
    have h2 : 2 ^ (8 * (r.length + 1)) = 2 ^ (8 * r.length) * 256 := by
      rw [Nat.mul_add, Nat.pow_add]
    have h3 : (valF b r.reverse + 1) * b ≤ 2 ^ (8 * r.length) * 256 := Nat.mul_le_mul ih hb
    have h4 : (valF b r.reverse + 1) * b = valF b r.reverse * b + b := by rw [Nat.add_mul, Nat.one_mul]
    omega

/-- One digit more of M * f + d, while the old digits of M are turned. -/
theorem carry_next {b f M N m cr : Nat} (hb : 2 ≤ b) (_hf : 0 < f) (hcr : cr < f) (h : N / b ^ m = cr + M / b ^ m * f) :
    (cr + M / b ^ m % b * f) % b = N / b ^ m % b ∧ N / b ^ (m + 1) = (cr + M / b ^ m % b * f) / b + M / b ^ (m + 1) * f ∧ (cr + M / b ^ m % b * f) / b < f := by
  have e1 : M / b ^ (m + 1) = M / b ^ m / b := by rw [Nat.pow_succ, Nat.div_div_eq_div_mul]
  have e2 : N / b ^ (m + 1) = N / b ^ m / b := by rw [Nat.pow_succ, Nat.div_div_eq_div_mul]
  rw [e1, e2, h]
  generalize M / b ^ m = x
  obtain ⟨q, r, hq, hr, hx⟩ : ∃ q r, x / b = q ∧ x % b = r ∧ x = b * q + r := ⟨_, _, rfl, rfl, (Nat.div_add_mod x b).symm⟩
  have hrb : r < b := by rw [← hr]; exact Nat.mod_lt _ (by omega)
  rw [hq, hr]
  have h1 : cr + x * f = cr + r * f + b * (q * f) := by
    rw [hx, Nat.add_mul, Nat.mul_assoc]; omega
  rw [h1]
  refine ⟨(Nat.add_mul_mod_self_left _ _ _).symm, Nat.add_mul_div_left _ _ (by omega), ?_⟩
  rw [Nat.div_lt_iff_lt_mul (by omega)]
  have h2 : r * f ≤ (b - 1) * f := Nat.mul_le_mul_right _ (by omega)
  have h3 : (b - 1) * f + f = f * b := by
    have : (b - 1 + 1) * f = b * f := by rw [Nat.sub_add_cancel (by omega)]
    rw [Nat.add_mul, Nat.one_mul] at this
    rw [this, Nat.mul_comm]
  omega
theorem div_next {b N m : Nat} : N / b ^ (m + 1) = N / b ^ m / b := by rw [Nat.pow_succ, Nat.div_div_eq_div_mul]
end Go.Proofs.YtocblkacdoahfaaGreatDoor
