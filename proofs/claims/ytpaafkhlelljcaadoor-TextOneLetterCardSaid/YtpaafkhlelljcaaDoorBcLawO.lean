/-
  The law on one letter of a bech32 text that is another one. Conditions: the listed tables hold what their texts lay.
-/
import Derived.Test.YtpaafkhlelljcaaDoorBcFrom
import Derived.Test.YtpaafkhlelljcaaDoorB58
import Derived.Test.YtpaafkhlelljcaaDoorRefChk
import Derived.Deep.QuietTactic
import Derived.Test.YtpaafkhlelljcaaDoorBcCut
namespace Go.Proofs.YtpaafkhlelljcaaDoor
open Go.RowKit

def litL : ByteArray := ⟨#[113, 112, 122, 114, 121, 57, 120, 56, 103, 102, 50, 116, 118, 100, 119, 48, 115, 51, 106, 110, 53, 52, 107, 104, 99, 101, 54, 109, 117, 97, 55, 108]⟩
theorem one_set {h V : List UInt8} {a i : Nat} (ha : a < V.length) (hi : i < 32) :
    (h ++ [49] ++ letters l32 V).take (h.length + 1 + a) ++ (l32.data.toList.drop i).take 1 ++ (h ++ [49] ++ letters l32 V).drop (h.length + 1 + a + 1) = h ++ [49] ++ letters l32 (V.set a (b8 (i : Int))) := by
  have hl : (h ++ [49]).length = h.length + 1 := by simp
  have e1 : (h ++ [49] ++ letters l32 V).take (h.length + 1 + a) = h ++ [49] ++ (letters l32 V).take a := by
    rw [← hl, List.take_length_add_append]
  have e2 : (h ++ [49] ++ letters l32 V).drop (h.length + 1 + a + 1) = (letters l32 V).drop (a + 1) := by
    rw [Nat.add_assoc, ← hl, List.drop_length_add_append]
  have e3 : (l32.data.toList.drop i).take 1 = [l32.data.toList.getD i 0] := by
    have hi2 : i < l32.data.toList.length := by show i < 32; exact hi
    rw [List.drop_eq_getElem_cons hi2, List.take_succ_cons, List.take_zero, List.getD_eq_getElem?_getD, List.getElem?_eq_getElem hi2]
    rfl
  have e4 : letters l32 (V.set a (b8 (i : Int))) = (letters l32 V).take a ++ [l32.data.toList.getD i 0] ++ (letters l32 V).drop (a + 1) := by
    unfold letters
    rw [List.map_set, List.set_eq_take_append_cons_drop, if_pos (by rw [List.length_map]; exact ha), b8_nat32 i (by omega)]
    simp
  rw [e1, e2, e3, e4]
  simp
theorem letter_inj {v : UInt8} {i : Nat} (hv : v.toNat < 32) (hi : i < 32) (h : l32.data.toList.getD i 0 ≠ l32.data.toList.getD v.toNat 0) : v ≠ b8 (i : Int) := by
  rintro rfl
  rw [b8_nat32 i (by omega)] at h
  exact h rfl
theorem letters_get {V : List UInt8} {a : Nat} {v : UInt8} {h : List UInt8} (hv : V[a]? = some v) : (h ++ [49] ++ letters l32 V)[h.length + 1 + a]? = some (l32.data.toList.getD v.toNat 0) := by
  have hl : (h ++ [49]).length = h.length + 1 := by simp
  rw [List.getElem?_append_right (by rw [hl]; omega), hl, Nat.add_sub_cancel_left]
  unfold letters
  rw [List.getElem?_map, hv]
  rfl

set_option maxRecDepth 100000 in
set_option maxHeartbeats 12800000 in
theorem one_law (B : Nat) (s : ByteArray) (x : Value) (xs : List UInt8) (t : Int) (w : World) (hc : CodeIs w) (hbe : BechIs w) (hx : Byt w B x xs) (hB : B ≤ w.heap.size) (hs : s.size ≤ 140737488355328) (ht : -9223372036854775808 ≤ t ∧ t < 9223372036854775808) :
    Calls Tryd.prog 6 #[.string s, x, .int .i64 t] w fun e w' => e = .returned (.bool true) ∧ Below w.heap.size w w' := by
  have hxl := hx.len
  unfold maxLen at hxl
  obtain ⟨A, c, hxf⟩ := hx.form
  subst hxf
  have HX := Lib.hid hx
  have HA := Lib.hid (awake_any w hc)
  have HBE := Lib.hid hbe
  have hmod : (xs.length : Int).tmod 2 = ((xs.length % 2 : Nat) : Int) := by rw [Int.tmod_eq_emod_of_nonneg (by omega)]; omega
  obtain ⟨m, hm⟩ : ∃ m, (((xs.length : Int) % 2) == 0) = m := ⟨_, rfl⟩
  obtain ⟨h, hh⟩ : ∃ h, h = s.data.toList := ⟨_, rfl⟩
  have hhs : h.length = s.size := by rw [hh]; rfl
  have HH := Lib.hid hh
  have HHS := Lib.hid hhs
  clear hx hc hbe hmod hh hhs
  go_enter Tryd.func6, Tryd.ntmps6
  go_wp2_with fail
  refine HA.out.mono ?_
  rintro e w1 ⟨rfl, hb1⟩
  have hs1 := hb1.size
  have HB1 := Lib.hid hb1
  have S1 := Lib.hid (short_any 60 B _ xs w1 (HX.out.below (hb1.mono hB)) (by omega))
  clear hb1
  go_wp2_with fail
  refine S1.out.mono ?_
  rintro e w1' ⟨⟨y, rfl, hy⟩, rfl⟩
  obtain ⟨A1, c1, rfl⟩ := hy.form
  obtain ⟨ys, hys⟩ : ∃ ys, ys = xs.take 60 := ⟨_, rfl⟩
  have hyl : ys.length ≤ 60 := by rw [hys, List.length_take]; omega
  rw [← hys] at hy ⊢
  obtain ⟨r, hr⟩ : ∃ r, r = bechS h ys m := ⟨_, rfl⟩
  have P1 := bech32_any B s _ ys m w1 (HBE.out.below HB1.out HBE.out.1) hy (by omega) hs (by omega)
  rw [← HH.out, ← hr] at P1
  obtain ⟨Z, hZ⟩ : ∃ Z : ByteArray, Z = ⟨r.2.toArray⟩ := ⟨_, rfl⟩
  obtain ⟨k, hk⟩ : ∃ k, k = r.1 := ⟨_, rfl⟩
  rw [← hZ, ← hk] at P1
  have HP1 := Lib.hid P1
  have HZ := Lib.hid hZ
  have HK := Lib.hid hk
  have HR := Lib.hid hr
  clear hy hys S1 HX HA P1 hZ hk hr
  go_wp2_with fail
  refine HP1.out.mono ?_
  rintro e w2 ⟨rfl, hb2⟩
  have hs2 := hb2.size
  have HB2 := Lib.hid (HB1.out.trans (hb2.mono hs1))
  have hs2' := HB2.out.size
  clear hb2 HP1
  by_cases hk0 : k = 0
  · subst hk0
    have he : (bechS h ys m).1 = 0 := by rw [← HR.out, ← HK.out]
    obtain ⟨q1, q2, q3⟩ := bechS_ok he
    obtain ⟨V, hV⟩ : ∃ V, V = ys ++ closeB h ys m := ⟨_, rfl⟩
    have hr2 : r.2 = h ++ [49] ++ letters l32 V := by rw [HR.out, bechS_good (by omega) q2 q3, hV]
    have hVl : V.length = ys.length + 6 := by rw [hV, List.length_append, closeB_length]
    have hVs : ∀ v ∈ V, v.toNat < 32 := by rw [hV]; exact vals_small q3
    have hZd : Z.data.toList = h ++ [49] ++ letters l32 V := by rw [HZ.out]; exact hr2
    have hZs : Z.size = s.size + 1 + V.length := by show Z.data.size = _; rw [← Array.length_toList, hZd, splitOk_len, HHS.out]
    have hone : ∀ (a i : Nat) (v : UInt8), V[a]? = some v → v ≠ b8 (i : Int) → i < 32 → fromS (h ++ [49] ++ letters l32 (V.set a (b8 (i : Int)))) = noR 5 := fun a i v hv hne hi => by
      rw [hV] at hv ⊢
      exact bech_one he hv hne (by rw [b8_nat32 i (by omega)]; exact hi)
    have hs84 : s.size ≤ 83 := by have := HHS.out; omega
    have hZ90 : Z.size ≤ 150 := by omega
    have HONE := Lib.hid hone
    have HZD := Lib.hid hZd
    have HVS := Lib.hid hVs
    have HZS := Lib.hid hZs
    clear he q1 q2 q3 hV hr2 hVl hVs hZd hone hxl
    by_cases ht0 : t < 0
    · have d0 : decide (t < 0) = true := decide_eq_true ht0
      clear hZs ht0 ht
      go_wp2_with fail
      go_ret
      exact ⟨rfl, HB2.out⟩
    · have d0 : decide (t < 0) = false := decide_eq_false ht0
      by_cases ht1 : (V.length : Int) ≤ t
      · have d1 : decide ((Z.size : Int) - (s.size : Int) - 1 ≤ t) = true := decide_eq_true (by omega)
        clear hZs ht0 ht1 ht
        go_wp2_with fail
        go_ret
        exact ⟨rfl, HB2.out⟩
      · obtain ⟨a, rfl⟩ : ∃ a : Nat, t = a := ⟨t.toNat, by omega⟩
        have d1 : decide ((Z.size : Int) - (s.size : Int) - 1 ≤ (a : Int)) = false := decide_eq_false (by omega)
        have haV : a < V.length := by omega
        obtain ⟨v, hv⟩ : ∃ v, V[a]? = some v := ⟨_, List.getElem?_eq_getElem haV⟩
        obtain ⟨P, hP⟩ : ∃ P : Nat, P = s.size + 1 + a := ⟨_, rfl⟩
        have hPZ : P < Z.size := by omega
        have hPZ2 : (P : Int) < (Z.size : Int) := by omega
        have hPZ3 : (P : Int) + 1 ≤ (Z.size : Int) := by omega
        have hget := letters_get (h := h) hv
        rw [← HZD.out, HHS.out, ← hP, Lib.data_getElem? Z P hPZ] at hget
        have hZP : Z[P]'hPZ = l32.data.toList.getD v.toNat 0 := Option.some.inj hget
        have hPi : (a : Int) + ((s.size : Int) + 1) = (P : Int) := by omega
        have ha150 : a ≤ 150 := by omega
        have HV := Lib.hid hv
        have HP := Lib.hid hP
        have HHAV := Lib.hid haV
        have HZP := Lib.hid hZP
        clear hZs ht0 ht1 hv hP hget haV hZP ht
        go_wp2_with fail
        clear hPi d1
        go_loopw [9] (fun j wr => ∃ i : Nat, i ≤ 32 ∧ j = .int .i64 i ∧ Hid (Below w2.heap.size w2 wr)) (fun j _ => 32 - (intOf j).toNat)
        case atStart => exact ⟨0, by omega, rfl, Lib.hid (Below.refl _ _)⟩
        case round =>
          obtain ⟨i, hi, rfl, HBL⟩ := hrel
          by_cases h32 : i < 32
          · have h32i : (i : Int) < 32 := by omega
            have hli : l32.data.toList.getD i 0 = l32[i]'(by show i < l32.size; exact h32) := l32_at h32
            have hlit : (⟨#[113, 112, 122, 114, 121, 57, 120, 56, 103, 102, 50, 116, 118, 100, 119, 48, 115, 51, 106, 110, 53, 52, 107, 104, 99, 101, 54, 109, 117, 97, 55, 108]⟩ : ByteArray)[i]'(by show i < 32; exact h32) = l32.data.toList.getD i 0 := hli.symm
            obtain ⟨li, hlx⟩ : ∃ li, li = l32.data.toList.getD i 0 := ⟨_, rfl⟩
            obtain ⟨zp, hzp⟩ : ∃ zp, zp = Z[P]'hPZ := ⟨_, rfl⟩
            rw [← hlx] at hlit
            have hzp2 := hzp.symm
            have HLX := Lib.hid hlx
            have HZPX := Lib.hid hzp
            clear hli hlx hzp
            go_wp2_with fail
            by_cases hsame : li = zp
            · have hcmp : (((li.toNat : Int)) == (zp.toNat : Int)) = true := by rw [hsame]; simp
              have HBD := fun n : Nat => Lib.hid (HBL.out.trans (show Below w2.heap.size wr (wr.drewN n) from ⟨rfl, rfl, rfl, Nat.le_refl _, fun _ _ => rfl⟩))
              clear hsame
              go_quiet (fail)
              go_wp2_with fail
              exact ⟨⟨i + 1, by omega, by go_num, HBD _⟩, by simp [intOf]; omega⟩
            · have hcmp : (((li.toNat : Int)) == (zp.toNat : Int)) = false := by
                rw [beq_eq_false_iff_ne]
                intro h
                exact hsame (UInt8.toNat_inj.1 (by omega))
              have hne : v ≠ b8 (i : Int) := letter_inj (HVS.out v (List.mem_of_getElem? HV.out)) h32 (by rw [← HLX.out, ← HZP.out, ← HZPX.out]; exact hsame)
              have hfr := HONE.out a i v HV.out hne h32
              clear hsame
              go_quiet (fail)
              go_wp2_with fail
              obtain ⟨w3, hw3⟩ : ∃ x, x = wr.drewN nq := ⟨_, rfl⟩
              have HB3 : Hid (Below w2.heap.size w2 w3.drew) := Lib.hid (by rw [hw3]; exact HBL.out.trans ⟨rfl, rfl, rfl, Nat.le_refl _, fun _ _ => rfl⟩)
              have hE1 : (Z.extract 0 P).data.toList = Z.data.toList.take P := upto_list Z P
              have hE2 : ((⟨#[113, 112, 122, 114, 121, 57, 120, 56, 103, 102, 50, 116, 118, 100, 119, 48, 115, 51, 106, 110, 53, 52, 107, 104, 99, 101, 54, 109, 117, 97, 55, 108]⟩ : ByteArray).extract i (i + 1)).data.toList = (l32.data.toList.drop i).take 1 := by
                rw [ByteArray.data_extract, Array.toList_extract]
                show List.extract l32.data.toList i (i + 1) = _
                simp [List.extract]
              have hE3 : (Z.extract (P + 1) Z.size).data.toList = Z.data.toList.drop (P + 1) := Lib.extract_to_end Z (P + 1)
              have hT : Z.extract 0 P ++ (⟨#[113, 112, 122, 114, 121, 57, 120, 56, 103, 102, 50, 116, 118, 100, 119, 48, 115, 51, 106, 110, 53, 52, 107, 104, 99, 101, 54, 109, 117, 97, 55, 108]⟩ : ByteArray).extract i (i + 1) ++ Z.extract (P + 1) Z.size = ⟨(h ++ [49] ++ letters l32 (V.set a (b8 (i : Int)))).toArray⟩ := by
                apply Go.WideShapes.bytes_inj
                rw [ByteArray.data_append, ByteArray.data_append, Array.toList_append, Array.toList_append, hE1, hE2, hE3, HZD.out, HP.out, ← HHS.out, one_set HHAV.out h32]
              have hz1 : (Z.extract 0 P).size ≤ 150 := by rw [ByteArray.size_extract]; omega
              have hz2 : ((⟨#[113, 112, 122, 114, 121, 57, 120, 56, 103, 102, 50, 116, 118, 100, 119, 48, 115, 51, 106, 110, 53, 52, 107, 104, 99, 101, 54, 109, 117, 97, 55, 108]⟩ : ByteArray).extract i (i + 1)).size ≤ 32 := by rw [ByteArray.size_extract]; show min (i + 1) 32 - i ≤ 32; omega
              have hz3 : (Z.extract (P + 1) Z.size).size ≤ 150 := by rw [ByteArray.size_extract]; omega
              obtain ⟨E1, hE1d⟩ : ∃ E, E = Z.extract 0 P := ⟨_, rfl⟩
              obtain ⟨E2, hE2d⟩ : ∃ E, E = (⟨#[113, 112, 122, 114, 121, 57, 120, 56, 103, 102, 50, 116, 118, 100, 119, 48, 115, 51, 106, 110, 53, 52, 107, 104, 99, 101, 54, 109, 117, 97, 55, 108]⟩ : ByteArray).extract i (i + 1) := ⟨_, rfl⟩
              obtain ⟨E3, hE3d⟩ : ∃ E, E = Z.extract (P + 1) Z.size := ⟨_, rfl⟩
              rw [← hE1d, ← hE2d, ← hE3d] at hT
              rw [← hE1d] at hz1
              rw [← hE2d] at hz2
              rw [← hE3d] at hz3
              have hz12 : (E1 ++ E2).size ≤ 190 := by rw [ByteArray.size_append]; omega
              have hz123 : (E1 ++ E2 ++ E3).size ≤ 350 := by rw [ByteArray.size_append]; omega
              have F := frombech_any (E1 ++ E2 ++ E3) w3.drew (HBE.out.below (HB2.out.trans (HB3.out.mono hs2')) HBE.out.1) (by omega)
              have hTd : (E1 ++ E2 ++ E3).data.toList = h ++ [49] ++ letters l32 (V.set a (b8 (i : Int))) := by rw [hT]
              rw [hTd, hfr] at F
              have HF := Lib.hid F
              have e1' := hE1d.symm
              have e2' := hE2d.symm
              have e3' := hE3d.symm
              have hi1 : (i : Int) ≤ (i : Int) + 1 := by omega
              have hi0 : (0 : Int) ≤ (i : Int) + 1 := by omega
              have hm12 : E1.size + E2.size ≤ 9223372036854775807 := by omega
              have hm123 : E1.size + E2.size + E3.size ≤ 9223372036854775807 := by omega
              have hP0 : (0 : Int) ≤ (P : Int) + 1 := by omega
              have hPle : P ≤ Z.size := by omega
              have hw1 : IntKind.i64.wrap ((i : Int) + 1) = (i : Int) + 1 := IntWalk.i64_in _ (by omega)
              have hw2 : IntKind.i64.wrap ((P : Int) + 1) = (P : Int) + 1 := IntWalk.i64_in _ (by omega)
              have ht1 : ((i : Int) + 1).toNat = i + 1 := by omega
              have ht2 : ((P : Int) + 1).toNat = P + 1 := by omega
              have hi33 : (i : Int) + 1 ≤ 32 := by omega
              rw [← hw3]
              clear hE1 hE2 hE3 hT F hTd hfr hne hE1d hE2d hE3d hw3
              refine wp_region_held_drew (S := AnyW) (by kernel_rfl) ?_ (fun hHeld => ?_)
              · exact anyW _
              refine wpAnyH_take (i := 0) (oi := { dst := some 59, op := Go.Op.move (Go.Operand.tmp 7), type := 9, pos := "law.go:193", after := #[], guard := none }) (v := ?bv0) rfl (by kernel_rfl) (by kernel_rfl) (by kernel_rfl) (fun _ _ _ h => h) (Or.inl ⟨by rfl, ?by0⟩) (by assumption) ?br0
              case by0 => (intro w hSw; (try dsimp only at hSw); go_simp; try (with_reducible rfl))
              case br0 =>
              try simp only [Act.put, List.setIfInBounds_toArray, List.set_cons_zero, List.set_cons_succ]
              refine wpAnyH_take (i := 1) (oi := { dst := some 60, op := Go.Op.move (Go.Operand.tmp 2), type := 3, pos := "law.go:193", after := #[], guard := none }) (v := ?bv1) rfl (by kernel_rfl) (by kernel_rfl) (by kernel_rfl) (fun _ _ _ h => h) (Or.inl ⟨by rfl, ?by1⟩) (by assumption) ?br1
              case by1 => (intro w hSw; (try dsimp only at hSw); go_simp; try (with_reducible rfl))
              case br1 =>
              try simp only [Act.put, List.setIfInBounds_toArray, List.set_cons_zero, List.set_cons_succ]
              refine wpAnyH_take (i := 2) (oi := { dst := some 61, op := Go.Op.slice 9 (Go.Operand.tmp 59) none (some (Go.Operand.tmp 60)) none, type := 9, pos := "law.go:193", after := #[{ on := 0, ground := Go.Ground.data }, { on := 1, ground := Go.Ground.data }], guard := none }) (v := (.string E1)) rfl (by kernel_rfl) (by kernel_rfl) (by kernel_rfl) (fun _ _ _ h => h) (Or.inl ⟨by rfl, ?by2⟩) (by assumption) ?br2
              case by2 => (intro w hSw; (try dsimp only at hSw); go_simp; try (with_reducible rfl))
              case br2 =>
              try simp only [Act.put, List.setIfInBounds_toArray, List.set_cons_zero, List.set_cons_succ]
              refine wpAnyH_take (i := 3) (oi := { dst := some 62, op := Go.Op.move (Go.Operand.tmp 9), type := 3, pos := "law.go:193", after := #[], guard := none }) (v := ?bv3) rfl (by kernel_rfl) (by kernel_rfl) (by kernel_rfl) (fun _ _ _ h => h) (Or.inl ⟨by rfl, ?by3⟩) (by assumption) ?br3
              case by3 => (intro w hSw; (try dsimp only at hSw); go_simp; try (with_reducible rfl))
              case br3 =>
              try simp only [Act.put, List.setIfInBounds_toArray, List.set_cons_zero, List.set_cons_succ]
              refine wpAnyH_take (i := 4) (oi := { dst := some 63, op := Go.Op.move (Go.Operand.tmp 9), type := 3, pos := "law.go:193", after := #[], guard := none }) (v := ?bv4) rfl (by kernel_rfl) (by kernel_rfl) (by kernel_rfl) (fun _ _ _ h => h) (Or.inl ⟨by rfl, ?by4⟩) (by assumption) ?br4
              case by4 => (intro w hSw; (try dsimp only at hSw); go_simp; try (with_reducible rfl))
              case br4 =>
              try simp only [Act.put, List.setIfInBounds_toArray, List.set_cons_zero, List.set_cons_succ]
              refine wpAnyH_take (i := 5) (oi := { dst := some 64, op := Go.Op.binOp Go.BinOp.add 3 (Go.Operand.tmp 63) (Go.Operand.const (Go.Value.int Go.IntKind.i64 1)) 3, type := 3, pos := "law.go:193", after := #[{ on := 4, ground := Go.Ground.data }], guard := none }) (v := ?bv5) rfl (by kernel_rfl) (by kernel_rfl) (by kernel_rfl) (fun _ _ _ h => h) (Or.inl ⟨by rfl, ?by5⟩) (by assumption) ?br5
              case by5 => (intro w hSw; (try dsimp only at hSw); go_simp; try (with_reducible rfl))
              case br5 =>
              try simp only [Act.put, List.setIfInBounds_toArray, List.set_cons_zero, List.set_cons_succ]
              refine wpAnyH_take (i := 6) (oi := { dst := some 65, op := Go.Op.slice 9 (Go.Operand.const (Go.Value.string { data := #[113, 112, 122, 114, 121, 57, 120, 56, 103, 102, 50, 116, 118, 100, 119, 48, 115, 51, 106, 110, 53, 52, 107, 104, 99, 101, 54, 109, 117, 97, 55, 108] })) (some (Go.Operand.tmp 62)) (some (Go.Operand.tmp 64)) none, type := 9, pos := "law.go:193", after := #[{ on := 3, ground := Go.Ground.data }, { on := 5, ground := Go.Ground.data }], guard := none }) (v := (.string E2)) rfl (by kernel_rfl) (by kernel_rfl) (by kernel_rfl) (fun _ _ _ h => h) (Or.inl ⟨by rfl, ?by6⟩) (by assumption) ?br6
              case by6 => (intro w hSw; (try dsimp only at hSw); go_simp; try (with_reducible rfl))
              case br6 =>
              try simp only [Act.put, List.setIfInBounds_toArray, List.set_cons_zero, List.set_cons_succ]
              refine wpAnyH_take (i := 7) (oi := { dst := some 66, op := Go.Op.binOp Go.BinOp.add 9 (Go.Operand.tmp 61) (Go.Operand.tmp 65) 9, type := 9, pos := "law.go:193", after := #[{ on := 2, ground := Go.Ground.data }, { on := 6, ground := Go.Ground.data }], guard := none }) (v := (.string (E1 ++ E2))) rfl (by kernel_rfl) (by kernel_rfl) (by kernel_rfl) (fun _ _ _ h => h) (Or.inl ⟨by rfl, ?by7⟩) (by assumption) ?br7
              case by7 => (intro w hSw; (try dsimp only at hSw); go_simp; try (with_reducible rfl))
              case br7 =>
              try simp only [Act.put, List.setIfInBounds_toArray, List.set_cons_zero, List.set_cons_succ]
              refine wpAnyH_take (i := 8) (oi := { dst := some 67, op := Go.Op.move (Go.Operand.tmp 7), type := 9, pos := "law.go:193", after := #[], guard := none }) (v := ?bv8) rfl (by kernel_rfl) (by kernel_rfl) (by kernel_rfl) (fun _ _ _ h => h) (Or.inl ⟨by rfl, ?by8⟩) (by assumption) ?br8
              case by8 => (intro w hSw; (try dsimp only at hSw); go_simp; try (with_reducible rfl))
              case br8 =>
              try simp only [Act.put, List.setIfInBounds_toArray, List.set_cons_zero, List.set_cons_succ]
              refine wpAnyH_take (i := 9) (oi := { dst := some 68, op := Go.Op.move (Go.Operand.tmp 2), type := 3, pos := "law.go:193", after := #[], guard := none }) (v := ?bv9) rfl (by kernel_rfl) (by kernel_rfl) (by kernel_rfl) (fun _ _ _ h => h) (Or.inl ⟨by rfl, ?by9⟩) (by assumption) ?br9
              case by9 => (intro w hSw; (try dsimp only at hSw); go_simp; try (with_reducible rfl))
              case br9 =>
              try simp only [Act.put, List.setIfInBounds_toArray, List.set_cons_zero, List.set_cons_succ]
              refine wpAnyH_take (i := 10) (oi := { dst := some 69, op := Go.Op.binOp Go.BinOp.add 3 (Go.Operand.tmp 68) (Go.Operand.const (Go.Value.int Go.IntKind.i64 1)) 3, type := 3, pos := "law.go:193", after := #[{ on := 9, ground := Go.Ground.data }], guard := none }) (v := ?bv10) rfl (by kernel_rfl) (by kernel_rfl) (by kernel_rfl) (fun _ _ _ h => h) (Or.inl ⟨by rfl, ?by10⟩) (by assumption) ?br10
              case by10 => (intro w hSw; (try dsimp only at hSw); go_simp; try (with_reducible rfl))
              case br10 =>
              try simp only [Act.put, List.setIfInBounds_toArray, List.set_cons_zero, List.set_cons_succ]
              refine wpAnyH_take (i := 11) (oi := { dst := some 70, op := Go.Op.slice 9 (Go.Operand.tmp 67) (some (Go.Operand.tmp 69)) none none, type := 9, pos := "law.go:193", after := #[{ on := 8, ground := Go.Ground.data }, { on := 10, ground := Go.Ground.data }], guard := none }) (v := (.string E3)) rfl (by kernel_rfl) (by kernel_rfl) (by kernel_rfl) (fun _ _ _ h => h) (Or.inl ⟨by rfl, ?by11⟩) (by assumption) ?br11
              case by11 => (intro w hSw; (try dsimp only at hSw); go_simp; try (with_reducible rfl))
              case br11 =>
              try simp only [Act.put, List.setIfInBounds_toArray, List.set_cons_zero, List.set_cons_succ]
              refine wpAnyH_take (i := 12) (oi := { dst := some 71, op := Go.Op.binOp Go.BinOp.add 9 (Go.Operand.tmp 66) (Go.Operand.tmp 70) 9, type := 9, pos := "law.go:193", after := #[{ on := 7, ground := Go.Ground.data }, { on := 11, ground := Go.Ground.data }], guard := none }) (v := (.string (E1 ++ E2 ++ E3))) rfl (by kernel_rfl) (by kernel_rfl) (by kernel_rfl) (fun _ _ _ h => h) (Or.inl ⟨by rfl, ?by12⟩) (by assumption) ?br12
              case by12 => (intro w hSw; (try dsimp only at hSw); go_simp; try (with_reducible rfl))
              case br12 =>
              try simp only [Act.put, List.setIfInBounds_toArray, List.set_cons_zero, List.set_cons_succ]
              refine wpAnyH_ready (rs := [13]) (by kernel_rfl) (by simp) ?_
              refine AllReadyH.cons (o := { dst := some 72, op := Go.Op.call { callee := Go.Callee.value (Go.Operand.func 14), args := #[Go.Operand.tmp 71], argTypes := #[9] }, type := 33, pos := "law.go:193", after := #[{ on := 12, ground := Go.Ground.data }], guard := none }) rfl (fun K hK => ?_) (AllReadyH.nil)
              go_simp
              refine HF.out.mono ?_
              rintro e w4 ⟨vv, rfl, hvv, hb4⟩
              have HB4 := Lib.hid (HB3.out.trans (hb4.mono HB3.out.size))
              clear hvv hb4
              go_simp
              refine hK.out _ _ ?_ (fun hHeld => ?_)
              · exact anyW _
              clear hK K
              try simp only [Act.put, List.setIfInBounds_toArray, List.set_cons_zero, List.set_cons_succ]
              refine wpAnyH_take (i := 14) (oi := { dst := some 58, op := Go.Op.move (Go.Operand.tmp 72), type := 33, pos := "law.go:193", after := #[{ on := 13, ground := Go.Ground.data }], guard := none }) (v := ?b_13v14) rfl (by kernel_rfl) (by kernel_rfl) (by kernel_rfl) (fun _ _ _ h => h) (Or.inl ⟨by rfl, ?b_13y14⟩) (by assumption) ?b_13r14
              case b_13y14 => (intro w hSw; (try dsimp only at hSw); go_simp; try (with_reducible rfl))
              case b_13r14 =>
              try simp only [Act.put, List.setIfInBounds_toArray, List.set_cons_zero, List.set_cons_succ]
              refine wpAnyH_take (i := 15) (oi := { dst := some 73, op := Go.Op.extract (Go.Operand.tmp 58) 0, type := 9, pos := "law.go:193", after := #[{ on := 14, ground := Go.Ground.data }], guard := none }) (v := ?b_13v15) rfl (by kernel_rfl) (by kernel_rfl) (by kernel_rfl) (fun _ _ _ h => h) (Or.inl ⟨by rfl, ?b_13y15⟩) (by assumption) ?b_13r15
              case b_13y15 => (intro w hSw; (try dsimp only at hSw); go_simp; try (with_reducible rfl))
              case b_13r15 =>
              try simp only [Act.put, List.setIfInBounds_toArray, List.set_cons_zero, List.set_cons_succ]
              refine wpAnyH_take (i := 16) (oi := { dst := some 74, op := Go.Op.extract (Go.Operand.tmp 58) 1, type := 22, pos := "law.go:193", after := #[{ on := 14, ground := Go.Ground.data }, { on := 19, ground := Go.Ground.gcOnly Go.Departure.lateStores }], guard := none }) (v := ?b_13v16) rfl (by kernel_rfl) (by kernel_rfl) (by kernel_rfl) (fun _ _ _ h => h) (Or.inl ⟨by rfl, ?b_13y16⟩) (by assumption) ?b_13r16
              case b_13y16 => (intro w hSw; (try dsimp only at hSw); go_simp; try (with_reducible rfl))
              case b_13r16 =>
              try simp only [Act.put, List.setIfInBounds_toArray, List.set_cons_zero, List.set_cons_succ]
              refine wpAnyH_take (i := 17) (oi := { dst := some 75, op := Go.Op.extract (Go.Operand.tmp 58) 2, type := 4, pos := "law.go:193", after := #[{ on := 14, ground := Go.Ground.data }, { on := 20, ground := Go.Ground.gcOnly Go.Departure.lateStores }], guard := none }) (v := ?b_13v17) rfl (by kernel_rfl) (by kernel_rfl) (by kernel_rfl) (fun _ _ _ h => h) (Or.inl ⟨by rfl, ?b_13y17⟩) (by assumption) ?b_13r17
              case b_13y17 => (intro w hSw; (try dsimp only at hSw); go_simp; try (with_reducible rfl))
              case b_13r17 =>
              try simp only [Act.put, List.setIfInBounds_toArray, List.set_cons_zero, List.set_cons_succ]
              refine wpAnyH_take (i := 18) (oi := { dst := some 76, op := Go.Op.extract (Go.Operand.tmp 58) 3, type := 27, pos := "law.go:193", after := #[{ on := 14, ground := Go.Ground.data }, { on := 21, ground := Go.Ground.gcOnly Go.Departure.lateStores }], guard := none }) (v := ?b_13v18) rfl (by kernel_rfl) (by kernel_rfl) (by kernel_rfl) (fun _ _ _ h => h) (Or.inl ⟨by rfl, ?b_13y18⟩) (by assumption) ?b_13r18
              case b_13y18 => (intro w hSw; (try dsimp only at hSw); go_simp; try (with_reducible rfl))
              case b_13r18 =>
              try simp only [Act.put, List.setIfInBounds_toArray, List.set_cons_zero, List.set_cons_succ]
              refine wpAnyH_take (i := 19) (oi := { dst := some 10, op := Go.Op.assign (Go.Operand.tmp 73), type := 9, pos := "law.go:193", after := #[{ on := 15, ground := Go.Ground.data }, { on := 13, ground := Go.Ground.chain }, { on := 0, ground := Go.Ground.phase }, { on := 1, ground := Go.Ground.phase }, { on := 2, ground := Go.Ground.phase }, { on := 3, ground := Go.Ground.phase }, { on := 4, ground := Go.Ground.phase }, { on := 5, ground := Go.Ground.phase }, { on := 6, ground := Go.Ground.phase }, { on := 7, ground := Go.Ground.phase }, { on := 8, ground := Go.Ground.phase }, { on := 9, ground := Go.Ground.phase }, { on := 10, ground := Go.Ground.phase }, { on := 11, ground := Go.Ground.phase }, { on := 12, ground := Go.Ground.phase }, { on := 13, ground := Go.Ground.phase }, { on := 14, ground := Go.Ground.phase }, { on := 15, ground := Go.Ground.phase }, { on := 16, ground := Go.Ground.textOnly Go.Departure.lateStores }, { on := 17, ground := Go.Ground.textOnly Go.Departure.lateStores }, { on := 18, ground := Go.Ground.textOnly Go.Departure.lateStores }], guard := none }) (v := ?b_13v19) rfl (by kernel_rfl) (by kernel_rfl) (by kernel_rfl) (fun _ _ _ h => h) (Or.inl ⟨by rfl, ?b_13y19⟩) (by assumption) ?b_13r19
              case b_13y19 => (intro w hSw; (try dsimp only at hSw); go_simp; try (with_reducible rfl))
              case b_13r19 =>
              try simp only [Act.put, List.setIfInBounds_toArray, List.set_cons_zero, List.set_cons_succ]
              refine wpAnyH_take (i := 20) (oi := { dst := some 11, op := Go.Op.assign (Go.Operand.tmp 74), type := 22, pos := "law.go:193", after := #[{ on := 16, ground := Go.Ground.data }, { on := 19, ground := Go.Ground.chain }, { on := 0, ground := Go.Ground.phase }, { on := 1, ground := Go.Ground.phase }, { on := 2, ground := Go.Ground.phase }, { on := 3, ground := Go.Ground.phase }, { on := 4, ground := Go.Ground.phase }, { on := 5, ground := Go.Ground.phase }, { on := 6, ground := Go.Ground.phase }, { on := 7, ground := Go.Ground.phase }, { on := 8, ground := Go.Ground.phase }, { on := 9, ground := Go.Ground.phase }, { on := 10, ground := Go.Ground.phase }, { on := 11, ground := Go.Ground.phase }, { on := 12, ground := Go.Ground.phase }, { on := 13, ground := Go.Ground.phase }, { on := 14, ground := Go.Ground.phase }, { on := 15, ground := Go.Ground.phase }, { on := 16, ground := Go.Ground.phase }, { on := 17, ground := Go.Ground.textOnly Go.Departure.lateStores }, { on := 18, ground := Go.Ground.textOnly Go.Departure.lateStores }, { on := 19, ground := Go.Ground.phase }], guard := none }) (v := ?b_13v20) rfl (by kernel_rfl) (by kernel_rfl) (by kernel_rfl) (fun _ _ _ h => h) (Or.inl ⟨by rfl, ?b_13y20⟩) (by assumption) ?b_13r20
              case b_13y20 => (intro w hSw; (try dsimp only at hSw); go_simp; try (with_reducible rfl))
              case b_13r20 =>
              try simp only [Act.put, List.setIfInBounds_toArray, List.set_cons_zero, List.set_cons_succ]
              refine wpAnyH_take (i := 21) (oi := { dst := some 12, op := Go.Op.assign (Go.Operand.tmp 75), type := 4, pos := "law.go:193", after := #[{ on := 17, ground := Go.Ground.data }, { on := 20, ground := Go.Ground.chain }, { on := 0, ground := Go.Ground.phase }, { on := 1, ground := Go.Ground.phase }, { on := 2, ground := Go.Ground.phase }, { on := 3, ground := Go.Ground.phase }, { on := 4, ground := Go.Ground.phase }, { on := 5, ground := Go.Ground.phase }, { on := 6, ground := Go.Ground.phase }, { on := 7, ground := Go.Ground.phase }, { on := 8, ground := Go.Ground.phase }, { on := 9, ground := Go.Ground.phase }, { on := 10, ground := Go.Ground.phase }, { on := 11, ground := Go.Ground.phase }, { on := 12, ground := Go.Ground.phase }, { on := 13, ground := Go.Ground.phase }, { on := 14, ground := Go.Ground.phase }, { on := 15, ground := Go.Ground.phase }, { on := 16, ground := Go.Ground.phase }, { on := 17, ground := Go.Ground.phase }, { on := 18, ground := Go.Ground.textOnly Go.Departure.lateStores }, { on := 19, ground := Go.Ground.phase }, { on := 20, ground := Go.Ground.phase }], guard := none }) (v := ?b_13v21) rfl (by kernel_rfl) (by kernel_rfl) (by kernel_rfl) (fun _ _ _ h => h) (Or.inl ⟨by rfl, ?b_13y21⟩) (by assumption) ?b_13r21
              case b_13y21 => (intro w hSw; (try dsimp only at hSw); go_simp; try (with_reducible rfl))
              case b_13r21 =>
              try simp only [Act.put, List.setIfInBounds_toArray, List.set_cons_zero, List.set_cons_succ]
              refine wpAnyH_take (i := 22) (oi := { dst := some 13, op := Go.Op.assign (Go.Operand.tmp 76), type := 27, pos := "law.go:193", after := #[{ on := 18, ground := Go.Ground.data }, { on := 21, ground := Go.Ground.chain }, { on := 0, ground := Go.Ground.phase }, { on := 1, ground := Go.Ground.phase }, { on := 2, ground := Go.Ground.phase }, { on := 3, ground := Go.Ground.phase }, { on := 4, ground := Go.Ground.phase }, { on := 5, ground := Go.Ground.phase }, { on := 6, ground := Go.Ground.phase }, { on := 7, ground := Go.Ground.phase }, { on := 8, ground := Go.Ground.phase }, { on := 9, ground := Go.Ground.phase }, { on := 10, ground := Go.Ground.phase }, { on := 11, ground := Go.Ground.phase }, { on := 12, ground := Go.Ground.phase }, { on := 13, ground := Go.Ground.phase }, { on := 14, ground := Go.Ground.phase }, { on := 15, ground := Go.Ground.phase }, { on := 16, ground := Go.Ground.phase }, { on := 17, ground := Go.Ground.phase }, { on := 18, ground := Go.Ground.phase }, { on := 19, ground := Go.Ground.phase }, { on := 20, ground := Go.Ground.phase }, { on := 21, ground := Go.Ground.phase }], guard := none }) (v := ?b_13v22) rfl (by kernel_rfl) (by kernel_rfl) (by kernel_rfl) (fun _ _ _ h => h) (Or.inl ⟨by rfl, ?b_13y22⟩) (by assumption) ?b_13r22
              case b_13y22 => (intro w hSw; (try dsimp only at hSw); go_simp; try (with_reducible rfl))
              case b_13r22 =>
              try simp only [Act.put, List.setIfInBounds_toArray, List.set_cons_zero, List.set_cons_succ]
              refine wpAnyH_done (by kernel_rfl) ?_ _
              go_wp2_with fail
              exact ⟨⟨i + 1, by omega, by go_num, HB4⟩, by simp [intOf]; omega⟩
          · go_wp2_with fail
            go_ret
            exact ⟨rfl, HB2.out.trans (HBL.out.mono hs2')⟩
  · have hkn : (k != 0) = true := by simp only [bne_iff_ne, ne_eq]; exact hk0
    clear hk0
    go_wp2_with fail
    go_ret
    exact ⟨rfl, HB2.out⟩
end Go.Proofs.YtpaafkhlelljcaaDoor
