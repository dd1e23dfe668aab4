/-
  text.Bech32: a part for people, 1, values and their checksum. Conditions: the listed table holds what its text lays; sizes within the reach.
-/
import Derived.Test.YtpaafkhlelljcaaDoorBcPart
import Derived.Test.YtpaafkhlelljcaaDoorB5C
namespace Go.Proofs.YtpaafkhlelljcaaDoor
open Go.RowKit

theorem str_app {a b : List UInt8} : (⟨a.toArray⟩ : ByteArray) ++ ⟨b.toArray⟩ = ⟨(a ++ b).toArray⟩ := by
  apply Go.WideShapes.bytes_inj
  simp
theorem str_of (s : ByteArray) {h : List UInt8} (e : h = s.data.toList) : s = ⟨h.toArray⟩ := Go.WideShapes.bytes_inj (by rw [e])
theorem vals_small {h d : List UInt8} {m : Bool} (hd : d.any wideB = false) : ∀ v ∈ d ++ closeB h d m, v.toNat < l32.size := fun v hv => by
  have e : l32.size = 32 := rfl
  rw [e]
  rcases List.mem_append.1 hv with h1 | h1
  · exact narrow hd v h1
  · exact closeB_small h d m v h1

set_option maxRecDepth 100000 in
set_option maxHeartbeats 3200000 in
theorem bech32_any (B : Nat) (s : ByteArray) (x : Value) (d : List UInt8) (m : Bool) (w : World) (hc : BechIs w) (hx : Byt w B x d) (hB : B ≤ w.heap.size) (hs : s.size ≤ 140737488355328) (hl : d.length ≤ 20000) :
    Calls Tryd.prog 11 #[.string s, x, .bool m] w fun e w' => e = .returned (.tuple #[.string ⟨(bechS s.data.toList d m).2.toArray⟩, .int .i64 (bechS s.data.toList d m).1]) ∧ Below w.heap.size w w' := by
  obtain ⟨A, cx, hxf⟩ := hx.form
  subst hxf
  have HX := Lib.hid hx
  have HC := Lib.hid hc
  have P := Lib.hid (part_any s w hs)
  have HS := Lib.hid hs
  obtain ⟨h, hh⟩ : ∃ h, h = s.data.toList := ⟨_, rfl⟩
  have hhs : h.length = s.size := by rw [hh]; rfl
  rw [← hh] at P ⊢
  have HH := Lib.hid hh
  have HHS := Lib.hid hhs
  obtain ⟨r, hr⟩ : ∃ r, r = bechS h d m := ⟨_, rfl⟩
  rw [← hr]
  by_cases h1 : 83 < h.length + d.length
  · have d1 : decide (90 < (s.size : Int) + 1 + (d.length : Int) + 6) = true := decide_eq_true (by omega)
    rw [bechS_size h1] at hr
    subst hr
    clear hx hc hh h1 hhs
    go_enter Tryd.func11, Tryd.ntmps11
    go_wp2_with fail
    go_ret2
    exact ⟨rfl, Below.refl _ _⟩
  · have d1 : decide (90 < (s.size : Int) + 1 + (d.length : Int) + 6) = false := decide_eq_false (by omega)
    have hh83 : h.length ≤ 83 := by omega
    cases hp : partOk h with
    | false =>
      rw [bechS_form h1 (.inl hp)] at hr
      subst hr
      rw [hp] at P
      clear hx hc hh h1 hhs hp
      go_enter Tryd.func11, Tryd.ntmps11
      go_wp2_with fail
      refine P.out.mono ?_
      rintro e w1 ⟨rfl, hb1⟩
      go_wp2_with fail
      go_ret2
      exact ⟨rfl, hb1⟩
    | true =>
      rw [hp] at P
      have K := Lib.hid (fun (W : World) (hb : Below w.heap.size w W) => contains_wide B _ d W (HX.out.below (hb.mono hB)) (Nat.le_trans hB hb.size))
      cases hd : d.any wideB with
      | true =>
        rw [bechS_form h1 (.inr hd)] at hr
        subst hr
        rw [hd] at K
        clear hx hc hh h1 hhs hp hd
        go_enter Tryd.func11, Tryd.ntmps11
        go_wp2_with fail
        refine P.out.mono ?_
        rintro e w1 ⟨rfl, hb1⟩
        have K1 := Lib.hid (K.out w1 hb1)
        go_wp2_with fail
        refine K1.out.mono ?_
        rintro e w2 ⟨rfl, rfl⟩
        go_wp2_with fail
        go_ret2
        exact ⟨rfl, hb1⟩
      | false =>
        rw [bechS_good h1 hp hd] at hr
        have HVS := Lib.hid (vals_small (h := h) (m := m) hd)
        have HR := Lib.hid hr
        rw [hd] at K
        have hcl := closeB_length h d m
        obtain ⟨L, hL⟩ : ∃ L, L = closeB h d m := ⟨_, rfl⟩
        rw [← hL] at hcl HVS HR
        have HL := Lib.hid hL
        have HCL := Lib.hid hcl
        clear hx hc hh h1 hhs hp hd hr hcl hL
        go_enter Tryd.func11, Tryd.ntmps11
        go_wp2_with fail
        refine P.out.mono ?_
        rintro e w1 ⟨rfl, hb1⟩
        have K1 := Lib.hid (K.out w1 hb1)
        have HB1 := Lib.hid hb1
        clear hb1
        go_wp2_with fail
        refine K1.out.mono ?_
        rintro e w2 ⟨rfl, rfl⟩
        have hs1 := HB1.out.size
        have S := sum32_any B s _ d m w1 (HC.out.below HB1.out HC.out.1) (HX.out.below (HB1.out.mono hB)) (by omega) (by have := HHS.out; omega) (by omega)
        rw [← HH.out, ← HL.out] at S
        have HSUM := Lib.hid S
        clear S K1
        go_wp2_with fail
        refine HSUM.out.mono ?_
        rintro e w2 ⟨g, rfl, hg, hrow, hb2⟩
        have hs2 := hb2.size
        have hby := hrow.byt (n := 6) (c := 6) (by rw [HCL.out]; omega) (by omega) (by unfold maxLen; omega)
        rw [List.take_of_length_le (by rw [HCL.out]; omega)] at hby
        have HB2 := Lib.hid (HB1.out.trans (hb2.mono hs1))
        have hbag := BagR.made w2 22 [.slice A d.length cx, .slice (some ⟨g, 0, none⟩) 6 6] [(.slice A d.length cx, d), (.slice (some ⟨g, 0, none⟩) 6 6, L)] rfl (by unfold maxLen; simp) (by
          intro p hp
          simp only [List.mem_cons, List.not_mem_nil, or_false] at hp
          rcases hp with rfl | rfl
          · exact (HX.out.below (HB2.out.mono hB)).more (Nat.le_trans hB HB2.out.size)
          · exact hby)
        have hj : joined [((.slice A d.length cx : Value), d), (.slice (some ⟨g, 0, none⟩) 6 6, L)] = d ++ L := by unfold joined; simp
        have C2 := concat_any (w2.heap.size + 1) _ _ (w2.alloc (.cells #[.slice A d.length cx, .slice (some ⟨g, 0, none⟩) 6 6] 22)) hbag (by simp) (by rw [← joined_length, hj, List.length_append, HCL.out]; omega)
        rw [hj] at C2
        have HC2 := Lib.hid C2
        have HB2' := Lib.hid (HB2.out.alloc HB2.out.size (.cells #[.slice A d.length cx, .slice (some ⟨g, 0, none⟩) 6 6] 22))
        obtain ⟨V, hV⟩ : ∃ V, V = d ++ L := ⟨_, rfl⟩
        have hVl : V.length = d.length + 6 := by rw [hV, List.length_append, HCL.out]
        rw [← hV] at HC2 HVS HR
        have HVL := Lib.hid hVl
        clear hVl
        clear hbag hj C2 hby hb2 hrow hV HSUM
        go_wp2_with fail
        refine HC2.out.mono ?_
        intro e w3 hfr
        obtain ⟨v3, rfl, hown3, hb3⟩ := fresh_v hfr
        have HB3 := Lib.hid (HB2'.out.trans (hb3.mono (by have := HB2'.out.size; simpa using this)))
        have C3 := Lib.hid (spell_any w3.heap.size v3 V l32 w3 (Byt.of_own hown3) (Nat.le_refl _) (by have := HVL.out; omega) HVS.out)
        obtain ⟨A3, c3, rfl⟩ := hown3.form
        clear hfr hown3 hb3
        go_wp2_with fail
        refine C3.out.mono ?_
        rintro e w4 ⟨rfl, hb4⟩
        have HB4 := Lib.hid (HB3.out.trans (hb4.mono HB3.out.size))
        have hss : s.size ≤ 83 := by have := HHS.out; omega
        obtain ⟨Z, hZ⟩ : ∃ Z : ByteArray, Z = ⟨(letters l32 V).toArray⟩ := ⟨_, rfl⟩
        have hZs : Z.size ≤ 20006 := by rw [hZ]; show (letters l32 V).toArray.size ≤ 20006; rw [List.size_toArray, letters_length]; have := HVL.out; omega
        rw [← hZ]
        have HZ := Lib.hid hZ
        obtain ⟨Y, hY⟩ : ∃ Y : ByteArray, Y = s ++ ⟨#[49]⟩ := ⟨_, rfl⟩
        have hYs : Y.size ≤ 84 := by rw [hY, ByteArray.size_append]; show s.size + 1 ≤ 84; omega
        have HY := Lib.hid hY
        rw [← hY]
        clear hb4 hZ C3 hY hs hss HS
        go_wp2_with fail
        go_ret2
        refine ⟨?_, HB4.out⟩
        rw [HR.out]
        have e1 : Y ++ Z = ⟨(h ++ [49] ++ letters l32 V).toArray⟩ := by
          rw [HY.out, HZ.out, str_of s HH.out]
          show (⟨h.toArray⟩ : ByteArray) ++ ⟨[49].toArray⟩ ++ _ = _
          rw [str_app, str_app]
        rw [← e1]
        rfl
end Go.Proofs.YtpaafkhlelljcaaDoor
