/-
  Texts joined: SnRkP, SnRkind, SnMem, SnApart, SnApEnd, SnLawM. Conditions: those of each.
-/
import Derived.Test.YtpfobbhoahnebaaJ10
import Derived.Deep.CutBlock
import Derived.Deep.DeepCutAuto
import Derived.Deep.DeepAppendRoom
import Derived.IntWalk
import Derived.Test.YtpfobbhoahnebaaJ9
import Derived.Test.YtpfobbhoahnebaaJ8
/-
  The reference's long test of a script's operations. Conditions: none.
-/
namespace Go.Proofs.Ytpfobbhoahnebaa
open Go.RowKit

theorem multiB_test {cs : List UInt8} {k : Nat} (hk : cs.length = k + 3) (h1 : 1 ≤ k) : multiB cs = (decide (1 ≤ smallB (cs.getD 0 0)) && decide (smallB (cs.getD 0 0) ≤ (k : Int)) && decide (smallB (cs.getD (k + 1) 0) = (k : Int)) && (cs.getD (k + 2) 0 == 174) && !((cs.drop 1).take k).any (· != 33)) := by
  unfold multiB
  rw [hk, if_neg (by omega), show k + 3 - 1 = k + 2 by omega, show k + 3 - 2 = k + 1 by omega, show k + 3 - 3 = k by omega, show ((k + 3 : Nat) : Int) - 3 = (k : Int) by omega]
  generalize (cs.getD (k + 2) 0 == 174) = a
  generalize decide (smallB (cs.getD (k + 1) 0) = (k : Int)) = b
  generalize decide (1 ≤ smallB (cs.getD 0 0)) = c
  generalize decide (smallB (cs.getD 0 0) ≤ (k : Int)) = d
  cases a <;> cases b <;> cases c <;> cases d <;> rfl
theorem multiB_few {cs : List UInt8} (hk : cs.length < 4) : multiB cs = false := by
  unfold multiB
  rw [if_pos hk]
theorem multiB_many {cs : List UInt8} (hk : 19 < cs.length) : multiB cs = false := by
  obtain ⟨k, hk2⟩ : ∃ k, cs.length = k + 3 := ⟨cs.length - 3, by omega⟩
  rw [multiB_test hk2 (by omega), decide_eq_false (p := smallB (cs.getD (k + 1) 0) = (k : Int)) (by have := smallB_bd (cs.getD (k + 1) 0); omega)]
  simp
/-- Where the last byte isn't 174, there is no such form. -/
theorem multiB_last {xs : List UInt8} {ops : List (UInt8 × List UInt8)} (hq : parseP xs = some ops) (h : multiB (ops.map (·.1)) = true) : ∃ fr, xs = fr ++ [174] := by
  have h4 := (multiB_yes h).1
  rw [List.length_map] at h4
  obtain ⟨k, hk⟩ : ∃ k, ops.length = k + 3 := ⟨ops.length - 3, by omega⟩
  rw [multiB_test (k := k) (by rw [List.length_map]; exact hk) (by omega)] at h
  simp only [Bool.and_eq_true, beq_iff_eq] at h
  obtain ⟨⟨⟨_, _⟩, hl⟩, _⟩ := h
  have hd : ops = ops.take (k + 2) ++ [ops[k + 2]] := by
    rw [← List.take_succ_eq_append_getElem (by omega), List.take_of_length_le (by omega)]
  have hc : ops[k + 2].1 = 174 := by
    rw [List.getD, List.getElem?_map, List.getElem?_eq_getElem (by omega)] at hl
    exact hl
  rw [hd] at hq
  obtain ⟨fr, e⟩ := last_code hq (by rw [hc]; decide)
  exact ⟨fr, by rw [e, hc]⟩
theorem multi_nolast {xs : List UInt8} (h : decide (0 < xs.length ∧ xs.getD (xs.length - 1) 0 = 174) = false) {ops : List (UInt8 × List UInt8)} (hq : parseP xs = some ops) : multiB (ops.map (·.1)) = false := by
  cases hm : multiB (ops.map (·.1)) with
  | false => rfl
  | true =>
    obtain ⟨fr, rfl⟩ := multiB_last hq hm
    refine absurd ?_ (of_decide_eq_false h)
    refine ⟨by simp, ?_⟩
    rw [List.getD, List.getElem?_append_right (by simp)]
    simp
theorem kind_data {xs : List UInt8} (hp : progB xs = none) (h1 : ¬ ∃ hs : List UInt8, hs.length = 20 ∧ xs = keyForm hs ∧ hs = (xs.drop 3).take 20) (h2 : ¬ ∃ hs : List UInt8, hs.length = 20 ∧ xs = scriptForm hs ∧ hs = (xs.drop 2).take 20)
    (h : ∀ ops, parseP xs = some ops → multiB (ops.map (·.1)) = false) : kindB xs = dataB xs := by
  cases hq : parseP xs with
  | none => rw [kindB_bad hp hq, dataB_none hq]
  | some ops => rw [kindB_rest hp hq h1 h2, if_neg (by rw [h ops hq]; decide)]
theorem BagR.none (w : World) (B : Nat) : BagR w B (.slice none 0 0) [] := ⟨⟨Option.none, 0, rfl, Nat.le_refl _, by unfold maxLen; omega, fun h => absurd rfl h⟩, fun _ h => by cases h⟩
end Go.Proofs.Ytpfobbhoahnebaa

/-
  The reference's Kind at any bytes. Conditions: sizes within the reach.
-/
namespace Go.Proofs.Ytpfobbhoahnebaa
open Go.RowKit

/-- A kind and its parts, as they can be read. -/
def KindR (w : World) (k : Int × List (List UInt8)) (e : Ending) (w' : World) : Prop :=
  ∃ v M, e = .returned (.tuple #[.int .i64 k.1, v]) ∧ M.map (·.2) = k.2 ∧ BagR w' w'.heap.size v M ∧ Below w.heap.size w w'
def R2 (xs : List UInt8) : Bool := decide (xs.length = 25 ∧ xs.take 3 = [118, 169, 20] ∧ xs.getD 23 0 = 136 ∧ xs.getD 24 0 = 172)
def R4 (xs : List UInt8) : Bool := decide (xs.length = 23 ∧ xs.take 2 = [169, 20] ∧ xs.getD 22 0 = 135)
theorem byt_cell {w : World} {B n c i : Nat} {A : Option Addr} {xs : List UInt8} (h : Byt w B (.slice A n c) xs) (hi : i < xs.length) : ∃ gb o, A = some ⟨gb, o, none⟩ ∧ gb < B ∧ w.cell? ⟨gb, o + i, none⟩ = some (.int .u8 ((xs.getD i 0).toNat : Int)) := by
  obtain ⟨A', c', e, _, _, _, h4⟩ := h
  obtain ⟨e1, _, _⟩ := Value.slice.inj e
  subst e1
  obtain ⟨gb, o, e', hb, hc⟩ := h4 (by rintro rfl; simp at hi)
  refine ⟨gb, o, e', hb, hc i _ ?_⟩
  rw [List.getD, List.getElem?_eq_getElem hi]
  rfl
theorem u8_beq (a b : UInt8) : ((a.toNat : Int) == (b.toNat : Int)) = decide (a = b) := by
  rw [Bool.eq_iff_iff]
  simp only [beq_iff_eq, decide_eq_true_eq]
  exact ⟨fun h => u8_ext (by omega), fun h => by rw [h]⟩

theorem byt_mid {w : World} {B gb o n c : Nat} {xs : List UInt8} (h : Byt w B (.slice (some ⟨gb, o, none⟩) n c) xs) (l k : Nat) (hk : 0 < k) (hlk : l + k ≤ xs.length) :
    Byt w B (.slice (some ⟨gb, o + l, none⟩) k (c - l)) ((xs.drop l).take k) ∧ ∀ W, (Instr.slice 22 (.slice (some ⟨gb, o, none⟩) n c) (some (.int .i64 (l : Int))) (some (.int .i64 ((l + k : Nat) : Int))) none).run Try.prog W = .ok (.slice (some ⟨gb, o + l, none⟩) k (c - l)) W := by
  obtain ⟨A', c', e, h1, hm, _, h4⟩ := h
  obtain ⟨e1, _, e3⟩ := Value.slice.inj e
  subst e1 e3
  obtain ⟨gb', o', e', hb, hc⟩ := h4 (by rintro rfl; simp at hlk; omega)
  injection e' with e'
  obtain ⟨x1, x2, _⟩ := Addr.mk.inj e'
  subst x1 x2
  have hlen : ((xs.drop l).take k).length = k := by simp; omega
  refine ⟨⟨_, _, by rw [hlen], by rw [hlen]; omega, by omega, (by intro h; cases h), fun hne => ⟨gb, o + l, rfl, hb, fun j u hu => ?_⟩⟩, fun W => ?_⟩
  · rw [List.getElem?_take] at hu
    split at hu
    · rw [List.getElem?_drop] at hu
      have := hc (l + j) u hu
      rw [show o + l + j = o + (l + j) by omega]
      exact this
    · cases hu
  · obtain ⟨i0, hi, hz0, hz1, hz2⟩ := info_parts info_u8
    have he : Try.prog.elem 22 = 5 := by kernel_rfl
    have ht : Try.prog.underlying 22 = some (.slice (Try.prog.elem 22)) := by rw [he]; exact slice_u8
    rw [run_slice_lh (ht := ht) (h0 := by omega) (h1 := by omega) (h2 := by omega), he]
    have h2 : ¬ c = l := by omega
    have hadd : (⟨gb, o, none⟩ : Addr).add l = ⟨gb, o + l, none⟩ := by unfold Addr.add; split <;> simp_all
    simp [sizeOf, typeInfo, hi, hz1, sliced, go_sem, h2]
    omega

set_option maxRecDepth 100000 in
set_option maxHeartbeats 12800000 in
theorem rkind_any (B : Nat) (x : Value) (xs : List UInt8) (w : World) (hx : Byt w B x xs) (hB : B ≤ w.heap.size) (hl : xs.length ≤ 60000000) :
    Calls Try.prog 27 #[x] w (KindR w (kindB xs)) := by
  have HX := Lib.hid hx
  obtain ⟨A, c, rfl⟩ := hx.form
  obtain ⟨n, hn⟩ : ∃ n, n = xs.length := ⟨_, rfl⟩
  rw [← hn] at HX hl ⊢
  have HN := Lib.hid hn
  obtain ⟨kk, hkk⟩ : ∃ k, k = kindB xs := ⟨_, rfl⟩
  rw [← hkk]
  have HKK := Lib.hid hkk
  clear hkk
  obtain ⟨r2, hr2⟩ : ∃ r, r = R2 xs := ⟨_, rfl⟩
  have HR2 := Lib.hid hr2
  obtain ⟨r4, hr4⟩ : ∃ r, r = R4 xs := ⟨_, rfl⟩
  have HR4 := Lib.hid hr4
  clear hx hn hr2 hr4
  go_enter Try.func27, Try.ntmps27
  go_upto_region 2 with fail
  go_cut [33] (fun s wx => s = .bool r2 ∧ Hid (Below w.heap.size w wx))
  case first => as_aux_lemma =>
    by_cases h25 : n = 25
    · have hlen : xs.length = 25 := by rw [← HN.out]; exact h25
      subst h25
      obtain ⟨gb, o, rfl, hb, q23⟩ := byt_cell (i := 23) HX.out (by omega)
      obtain ⟨gb', o', e', _, q24⟩ := byt_cell (i := 24) HX.out (by omega)
      injection e' with e'
      obtain ⟨y1, y2, _⟩ := Addr.mk.inj e'
      subst y1 y2
      have hm := Byt.made w 5 [.int .u8 118, .int .u8 169, .int .u8 20] [118, 169, 20] rfl (by unfold maxLen; simp)
      have hbw := byt_below (B := w.heap.size) w (.cells #[.int .u8 118, .int .u8 169, .int .u8 20] 5) (Nat.le_refl _)
      have hbeg := begins_any B _ _ _ xs [118, 169, 20] _ (HX.out.below (hbw.mono hB)) hm
      have c23 := (hbw.cell (p := ⟨gb, o + 23, none⟩) (by show gb < _; omega)).trans q23
      have c24 := (hbw.cell (p := ⟨gb, o + 24, none⟩) (by show gb < _; omega)).trans q24
      have e23 := u8_beq (xs.getD 23 0) 136
      have e24 := u8_beq (xs.getD 24 0) 172
      have hR : R2 xs = (decide (xs.take 3 = [118, 169, 20]) && (decide (xs.getD 23 0 = 136) && decide (xs.getD 24 0 = 172))) := by
        unfold R2
        rw [Bool.eq_iff_iff]
        simp [hlen]
      obtain ⟨b1, hb1⟩ : ∃ b, b = decide (xs.take 3 = [118, 169, 20]) := ⟨_, rfl⟩
      obtain ⟨b2, hb2⟩ : ∃ b, b = decide (xs.getD 23 0 = 136) := ⟨_, rfl⟩
      obtain ⟨b3, hb3⟩ : ∃ b, b = decide (xs.getD 24 0 = 172) := ⟨_, rfl⟩
      obtain ⟨u23, hu23⟩ : ∃ u : Int, u = ((xs.getD 23 0).toNat : Int) := ⟨_, rfl⟩
      obtain ⟨u24, hu24⟩ : ∃ u : Int, u = ((xs.getD 24 0).toNat : Int) := ⟨_, rfl⟩
      rw [← hb1, ← hb2, ← hb3, ← HR2.out] at hR
      rw [show ([118, 169, 20] : List UInt8).length = 3 from rfl, ← hb1] at hbeg
      rw [← hu23] at e23 c23
      rw [← hu24] at e24 c24
      rw [← hb2] at e23
      rw [← hb3] at e24
      have f23 : (u23 == 136) = b2 := e23
      have f24 : (u24 == 172) = b3 := e24
      have HBEG := Lib.hid hbeg
      have HR := Lib.hid hR
      have HBW := Lib.hid hbw
      clear hm hbw hbeg hR e23 e24 q23 q24 hlen e' hb1 hb2 hb3 hu23 hu24
      cases b1 with
      | false =>
        go_wp2_with fail
        refine HBEG.out.mono ?_
        rintro e w1 ⟨rfl, rfl⟩
        go_wp2_with fail
        go_meet
        exact ⟨by rw [HR.out]; rfl, HBW⟩
      | true =>
        cases b2 with
        | false =>
          go_wp2_with fail
          refine HBEG.out.mono ?_
          rintro e w1 ⟨rfl, rfl⟩
          go_wp2_with fail
          go_meet
          exact ⟨by rw [HR.out]; rfl, HBW⟩
        | true =>
          go_wp2_with fail
          refine HBEG.out.mono ?_
          rintro e w1 ⟨rfl, rfl⟩
          go_wp2_with fail
          go_meet
          exact ⟨by rw [HR.out]; rfl, HBW⟩
    · have e25 : ((n : Int) == 25) = false := by simp only [beq_eq_false_iff_ne, ne_eq]; omega
      have hR : R2 xs = false := decide_eq_false (by rw [← HN.out]; omega)
      have HR := Lib.hid (HR2.out.trans hR)
      clear hR h25
      go_wp2_with fail
      go_meet
      exact ⟨by rw [HR.out], Lib.hid (Below.refl _ _)⟩
  case rest => as_aux_lemma =>
    obtain ⟨rfl, hb1⟩ := hcut
    cases r2 with
    | true =>
      have hq := of_decide_eq_true HR2.out.symm
      obtain ⟨hs, hsl, hxs, hhs⟩ := (key_raw xs).1 hq
      have hlen := hq.1
      obtain rfl : n = 25 := by rw [HN.out]; exact hlen
      obtain ⟨gb, o, rfl, hgb, _⟩ := byt_cell (i := 0) HX.out (by omega)
      obtain ⟨hby, hsl2⟩ := byt_mid HX.out 3 20 (by decide) (by omega)
      rw [← hhs] at hby
      have hsl3 : ∀ W, (Instr.slice 22 (.slice (some ⟨gb, o, none⟩) 25 c) (some (.int .i64 3)) (some (.int .i64 23)) none).run Try.prog W = .ok (.slice (some ⟨gb, o + 3, none⟩) 20 (c - 3)) W := hsl2
      have HBY := Lib.hid hby
      have HSL := Lib.hid hsl
      have HK := Lib.hid (show kk = (1, [hs]) by rw [HKK.out, hxs]; exact kindB_key hs hsl)
      have HCP := Lib.hid (rcopy_any B _ hs wc (HBY.out.below (hb1.out.mono hB)) (by omega))
      clear hq hxs hhs hlen hby hsl2 hsl
      go_wp2_with fail
      refine HCP.out.mono ?_
      intro e w7 hfr
      obtain ⟨u7, rfl, hown7, hb7⟩ := fresh_v hfr
      obtain ⟨A7, c7, rfl⟩ := own_form hown7
      have hsz : w.heap.size ≤ w7.heap.size := Nat.le_trans hb1.out.size hb7.size
      have bag := Lib.hid (BagR.made w7 22 [.slice A7 hs.length c7] [(.slice A7 hs.length c7, hs)] rfl (by unfold maxLen; simp) (by intro p hp; simp only [List.mem_cons, List.not_mem_nil, or_false] at hp; subst hp; exact Byt.of_own hown7))
      have HBF := Lib.hid ((hb1.out.trans (hb7.mono hb1.out.size)).alloc hsz (.cells #[.slice A7 hs.length c7] 22))
      clear hfr hown7 hb7 hsz
      go_wp2_with fail
      go_ret2
      rw [HK.out]
      exact ⟨_, [(.slice A7 hs.length c7, hs)], rfl, rfl, bag.out.more (by simp), HBF.out⟩
    | false =>
      have HB1 := Lib.hid hb1.out
      have HXC := Lib.hid (HX.out.below (hb1.out.mono hB))
      have hws := hb1.out.size
      have hBw : B ≤ wc.heap.size := Nat.le_trans hB hws
      clear hb1
      go_upto_region 4 with fail
      go_cut [50] (fun s wx => s = .bool r4 ∧ Hid (Below w.heap.size w wx))
      case first => as_aux_lemma =>
        by_cases h23 : n = 23
        · have hlen : xs.length = 23 := by rw [← HN.out]; exact h23
          subst h23
          obtain ⟨gb, o, rfl, hb, q22⟩ := byt_cell (i := 22) HXC.out (by omega)
          have hm := Byt.made wc 5 [.int .u8 169, .int .u8 20] [169, 20] rfl (by unfold maxLen; simp)
          have hbw := byt_below (B := wc.heap.size) wc (.cells #[.int .u8 169, .int .u8 20] 5) (Nat.le_refl _)
          have hbeg := begins_any B _ _ _ xs [169, 20] _ (HXC.out.below (hbw.mono hBw)) hm
          have c22 := (hbw.cell (p := ⟨gb, o + 22, none⟩) (by show gb < _; omega)).trans q22
          have e22 := u8_beq (xs.getD 22 0) 135
          have hR : R4 xs = (decide (xs.take 2 = [169, 20]) && decide (xs.getD 22 0 = 135)) := by
            unfold R4
            rw [Bool.eq_iff_iff]
            simp [hlen]
          obtain ⟨b1, hb1⟩ : ∃ b, b = decide (xs.take 2 = [169, 20]) := ⟨_, rfl⟩
          obtain ⟨b2, hb2⟩ : ∃ b, b = decide (xs.getD 22 0 = 135) := ⟨_, rfl⟩
          obtain ⟨u22, hu22⟩ : ∃ u : Int, u = ((xs.getD 22 0).toNat : Int) := ⟨_, rfl⟩
          rw [← hb1, ← hb2, ← HR4.out] at hR
          rw [show ([169, 20] : List UInt8).length = 2 from rfl, ← hb1] at hbeg
          rw [← hu22] at e22 c22
          rw [← hb2] at e22
          have f22 : (u22 == 135) = b2 := e22
          have HBEG := Lib.hid hbeg
          have HR := Lib.hid hR
          have HBW := Lib.hid (HB1.out.trans (hbw.mono hws))
          clear hm hbw hbeg hR e22 q22 hlen hb1 hb2 hu22
          cases b1 with
          | false =>
            go_wp2_with fail
            refine HBEG.out.mono ?_
            rintro e w1 ⟨rfl, rfl⟩
            go_wp2_with fail
            go_meet
            exact ⟨by rw [HR.out]; rfl, HBW⟩
          | true =>
            go_wp2_with fail
            refine HBEG.out.mono ?_
            rintro e w1 ⟨rfl, rfl⟩
            go_wp2_with fail
            go_meet
            exact ⟨by rw [HR.out]; rfl, HBW⟩
        · have e23 : ((n : Int) == 23) = false := by simp only [beq_eq_false_iff_ne, ne_eq]; omega
          have hR : R4 xs = false := decide_eq_false (by rw [← HN.out]; omega)
          have HR := Lib.hid (HR4.out.trans hR)
          clear hR h23
          go_wp2_with fail
          go_meet
          exact ⟨by rw [HR.out], HB1⟩
      case rest => as_aux_lemma =>
        obtain ⟨rfl, hb2⟩ := hcut
        clear HB1 HXC hws hBw
        cases r4 with
        | true =>
          have hq := of_decide_eq_true HR4.out.symm
          obtain ⟨hs, hsl, hxs, hhs⟩ := (script_raw xs).1 hq
          have hlen := hq.1
          obtain rfl : n = 23 := by rw [HN.out]; exact hlen
          obtain ⟨gb, o, rfl, hgb, _⟩ := byt_cell (i := 0) HX.out (by omega)
          obtain ⟨hby, hsl2⟩ := byt_mid HX.out 2 20 (by decide) (by omega)
          rw [← hhs] at hby
          have hsl3 : ∀ W, (Instr.slice 22 (.slice (some ⟨gb, o, none⟩) 23 c) (some (.int .i64 2)) (some (.int .i64 22)) none).run Try.prog W = .ok (.slice (some ⟨gb, o + 2, none⟩) 20 (c - 2)) W := hsl2
          have HBY := Lib.hid hby
          have HSL := Lib.hid hsl
          have HK := Lib.hid (show kk = (2, [hs]) by rw [HKK.out, hxs]; exact kindB_script hs hsl)
          have HCP := Lib.hid (rcopy_any B _ hs wc (HBY.out.below (hb2.out.mono hB)) (by omega))
          clear hq hxs hhs hlen hby hsl2 hsl
          go_wp2_with fail
          refine HCP.out.mono ?_
          intro e w7 hfr
          obtain ⟨u7, rfl, hown7, hb7⟩ := fresh_v hfr
          obtain ⟨A7, c7, rfl⟩ := own_form hown7
          have hsz : w.heap.size ≤ w7.heap.size := Nat.le_trans hb2.out.size hb7.size
          have bag := Lib.hid (BagR.made w7 22 [.slice A7 hs.length c7] [(.slice A7 hs.length c7, hs)] rfl (by unfold maxLen; simp) (by intro p hp; simp only [List.mem_cons, List.not_mem_nil, or_false] at hp; subst hp; exact Byt.of_own hown7))
          have HBF := Lib.hid ((hb2.out.trans (hb7.mono hb2.out.size)).alloc hsz (.cells #[.slice A7 hs.length c7] 22))
          clear hfr hown7 hb7 hsz
          go_wp2_with fail
          go_ret2
          rw [HK.out]
          exact ⟨_, [(.slice A7 hs.length c7, hs)], rfl, rfl, bag.out.more (by simp), HBF.out⟩
        | false =>
          have nk : ¬ ∃ hs : List UInt8, hs.length = 20 ∧ xs = keyForm hs ∧ hs = (xs.drop 3).take 20 := fun h => absurd ((key_raw xs).2 h) (of_decide_eq_false HR2.out.symm)
          have ns : ¬ ∃ hs : List UInt8, hs.length = 20 ∧ xs = scriptForm hs ∧ hs = (xs.drop 2).take 20 := fun h => absurd ((script_raw xs).2 h) (of_decide_eq_false HR4.out.symm)
          have NK := Lib.hid nk
          have NS := Lib.hid ns
          have hrp := rprog_any B _ xs wc (HX.out.below (hb2.out.mono hB)) (Nat.le_trans hB hb2.out.size)
          unfold RProgV at hrp
          cases hp : progB xs with
          | some q =>
            obtain ⟨v, p⟩ := q
            obtain ⟨b0, b1, _, _⟩ := progB_bd hp
            rw [hp] at hrp
            dsimp only at hrp
            have hk := HKK.out
            rw [kindB_wit hp] at hk
            have HK := Lib.hid hk
            have HRP := Lib.hid hrp
            clear nk ns hrp hp hk
            go_wp2_with fail
            refine HRP.out.mono ?_
            rintro e w3 ⟨u3, rfl, hown3, hb3⟩
            obtain ⟨A3, c3, rfl⟩ := own_form hown3
            have HY3 := Lib.hid (Byt.of_own hown3)
            have HB3 := Lib.hid (hb2.out.trans (hb3.mono hb2.out.size))
            clear hown3 hb3
            have bagP := Lib.hid (BagR.made w3 22 [.slice A3 p.length c3] [(.slice A3 p.length c3, p)] rfl (by unfold maxLen; simp) (by intro q hq; simp only [List.mem_cons, List.not_mem_nil, or_false] at hq; subst hq; exact HY3.out))
            have HBP := Lib.hid (HB3.out.alloc HB3.out.size (.cells #[.slice A3 p.length c3] 22))
            by_cases hv : v = 0 ∧ p.length = 20
            · obtain ⟨rfl, h20⟩ := hv
              have e20 : ((p.length : Int) == 20) = true := by rw [h20]; rfl
              have HK2 := Lib.hid (show kk = (3, [p]) by rw [HK.out]; unfold witB; rw [if_pos ⟨rfl, h20⟩])
              clear h20
              go_wp2_with fail
              go_ret2
              rw [HK2.out]
              exact ⟨_, [(.slice A3 p.length c3, p)], rfl, rfl, bagP.out.more (by simp), HBP.out⟩
            by_cases hv2 : v = 0 ∧ p.length = 32
            · obtain ⟨rfl, h32⟩ := hv2
              have e20 : ((p.length : Int) == 20) = false := by rw [h32]; rfl
              have e32 : ((p.length : Int) == 32) = true := by rw [h32]; rfl
              have HK2 := Lib.hid (show kk = (4, [p]) by rw [HK.out]; unfold witB; rw [if_neg (by omega), if_pos ⟨rfl, h32⟩])
              clear h32 hv
              go_wp2_with fail
              go_ret2
              rw [HK2.out]
              exact ⟨_, [(.slice A3 p.length c3, p)], rfl, rfl, bagP.out.more (by simp), HBP.out⟩
            · have HK2 := Lib.hid (show kk = (7, [[b8 v], p]) by rw [HK.out]; unfold witB; rw [if_neg hv, if_neg hv2])
              have hw8 : IntKind.u8.wrap v = v := by rw [IntKind.wrap_u8]; omega
              have dge : decide ((0 : Int) ≤ v) = true := decide_eq_true b0
              have hmk := Byt.made w3 5 [.int .u8 v] [b8 v] (by rw [List.map_cons, bv_b8_of (by omega) (by omega)]; rfl) (by unfold maxLen; simp)
              have bag2 := BagR.made (w3.alloc (.cells #[.int .u8 v] 5)) 22 [.slice (some ⟨w3.heap.size, 0, none⟩) 1 1, .slice A3 p.length c3] [(.slice (some ⟨w3.heap.size, 0, none⟩) 1 1, [b8 v]), (.slice A3 p.length c3, p)] rfl (by unfold maxLen; simp)
                (by intro q hq; simp only [List.mem_cons, List.not_mem_nil, or_false] at hq; rcases hq with rfl | rfl; exact hmk.more (by simp); exact (byt_later HY3.out _).more (by simp))
              rw [World.size_alloc] at bag2
              have BAG2 := Lib.hid bag2
              have HBQ := Lib.hid ((HB3.out.alloc HB3.out.size (.cells #[.int .u8 v] 5)).alloc (by have := HB3.out.size; simp; omega) (.cells #[.slice (some ⟨w3.heap.size, 0, none⟩) 1 1, .slice A3 p.length c3] 22))
              clear hmk bag2
              by_cases hv0 : v = 0
              · subst hv0
                have e20 : ((p.length : Int) == 20) = false := by simp only [beq_eq_false_iff_ne, ne_eq]; omega
                have e32 : ((p.length : Int) == 32) = false := by simp only [beq_eq_false_iff_ne, ne_eq]; omega
                clear hv hv2
                go_wp2_with fail
                go_ret2
                rw [HK2.out]
                exact ⟨_, _, rfl, rfl, BAG2.out.more (by simp), HBQ.out⟩
              · have ev : (v == 0) = false := by simpa using hv0
                clear hv hv2 hv0
                go_wp2_with fail
                go_ret2
                rw [HK2.out]
                exact ⟨_, _, rfl, rfl, BAG2.out.more (by simp), HBQ.out⟩
          | none =>
            rw [hp] at hrp
            dsimp only at hrp
            have HP0 := Lib.hid hp
            have HRP := Lib.hid hrp
            obtain ⟨b13, hb13⟩ : ∃ b : Bool, b = decide (0 < xs.length ∧ xs.getD (xs.length - 1) 0 = 174) := ⟨_, rfl⟩
            have HB13 := Lib.hid hb13
            have hl2 : xs.length ≤ 60000000 := by rw [← HN.out]; exact hl
            have HL2 := Lib.hid hl2
            clear nk ns hrp hb13 hp hl2
            go_wp2_with fail
            refine HRP.out.mono ?_
            rintro e w3 ⟨rfl, hb3⟩
            have HB3 := Lib.hid (hb2.out.trans (hb3.mono hb2.out.size))
            clear hb3 hb2
            go_upto_region 13 with fail
            go_cut [94] (fun s wx => s = .bool b13 ∧ Hid (Below w.heap.size w wx))
            case first => as_aux_lemma =>
              by_cases hn0 : n = 0
              · have hR : b13 = false := by rw [HB13.out]; exact decide_eq_false (by have := HN.out; omega)
                subst hn0
                have HR := Lib.hid hR
                clear hR
                go_wp2_with fail
                go_meet
                exact ⟨by rw [HR.out], HB3⟩
              · obtain ⟨m, rfl⟩ : ∃ m, n = m + 1 := ⟨n - 1, by omega⟩
                have hm : xs.length = m + 1 := HN.out.symm
                obtain ⟨gb, o, rfl, hgb, hcell⟩ := byt_cell (i := m) HX.out (by omega)
                have cc : w3.cell? ⟨gb, o + m, none⟩ = some (.int .u8 ((xs.getD m 0).toNat : Int)) := (HB3.out.cell (p := ⟨gb, o + m, none⟩) (by show gb < _; omega)).trans hcell
                have ee := u8_beq (xs.getD m 0) 174
                have hR : b13 = decide (xs.getD m 0 = 174) := by
                  rw [HB13.out, hm, Nat.add_sub_cancel, Bool.eq_iff_iff]
                  simp
                obtain ⟨bb, hbb⟩ : ∃ b, b = decide (xs.getD m 0 = 174) := ⟨_, rfl⟩
                obtain ⟨u, hu⟩ : ∃ u : Int, u = ((xs.getD m 0).toNat : Int) := ⟨_, rfl⟩
                rw [← hu] at cc ee
                rw [← hbb] at ee hR
                have ff : (u == 174) = bb := ee
                have hw : IntKind.i64.wrap ((m : Int) + 1 - 1) = (m : Int) := by rw [Int.add_sub_cancel]; exact IntWalk.i64_in _ (by omega)
                have d0 : decide ((0 : Int) < (m : Int) + 1) = true := decide_eq_true (by omega)
                have d1 : (m : Int) < (m : Int) + 1 := by omega
                have HR := Lib.hid hR
                clear ee hcell hR hbb hu hn0 hm
                go_wp2_with fail
                go_meet
                exact ⟨by rw [HR.out], HB3⟩
            case rest => as_aux_lemma =>
              obtain ⟨rfl, hb4⟩ := hcut
              clear HB3 HRP
              go_upto_if 94 with fail
              go_cut [] (fun wx => Hid (kk = dataB xs) ∧ Hid (Below w.heap.size w wx))
              case first => as_aux_lemma =>
                cases b13 with
                | false =>
                  have HK := Lib.hid (HKK.out.trans (kind_data HP0.out NK.out NS.out (fun ops hq => multi_nolast HB13.out.symm hq)))
                  go_wp2_with fail
                  go_meet
                  exact ⟨HK, hb4⟩
                | true =>
                  have HRQ := Lib.hid (rparse_any B _ xs wc (HX.out.below (hb4.out.mono hB)) (Nat.le_trans hB hb4.out.size) HL2.out)
                  go_wp2_with fail
                  refine HRQ.out.mono ?_
                  intro e w5 hpr
                  obtain ⟨Av, cv, L, b, he, hops, hb5, hkr⟩ := rparsed_both hpr
                  have HB5 := Lib.hid (hb4.out.trans (hb5.mono hb4.out.size))
                  rcases hkr with ⟨rfl, hq, rfl⟩ | ⟨rfl, hq⟩
                  · subst he
                    have HK := Lib.hid (HKK.out.trans ((kindB_bad HP0.out hq).trans (dataB_none hq).symm))
                    clear hpr hops hb5 hq
                    go_wp2_with fail
                    go_meet
                    exact ⟨HK, HB5⟩
                  have hpl := parse_len hq
                  rw [List.length_map] at hpl
                  have hLn : L.length ≤ 60000000 := Nat.le_trans hpl HL2.out
                  have hkm : kk = if multiB (L.map Piece.code) = true then (5, keysB (L.map Piece.pair)) else dataB xs := by rw [HKK.out, kindB_rest HP0.out hq NK.out NS.out, ← codes_of rfl]
                  clear hpl hpr
                  have hw : IntKind.i64.wrap ((L.length : Int) - 3) = (L.length : Int) - 3 := IntWalk.i64_in _ (by omega)
                  by_cases h4 : L.length < 4
                  · rw [if_neg (by rw [multiB_few (by rw [List.length_map]; exact h4)]; decide)] at hkm
                    have HK := Lib.hid hkm
                    have hd : decide ((1 : Int) ≤ (L.length : Int) - 3) = false := decide_eq_false (by omega)
                    subst he
                    clear hops hb5 hq hkm h4
                    go_wp2_with fail
                    go_meet
                    exact ⟨HK, HB5⟩
                  by_cases h19 : 19 < L.length
                  · rw [if_neg (by rw [multiB_many (by rw [List.length_map]; exact h19)]; decide)] at hkm
                    have HK := Lib.hid hkm
                    have hd : decide ((1 : Int) ≤ (L.length : Int) - 3) = true := decide_eq_true (by omega)
                    have hd2 : decide ((L.length : Int) - 3 ≤ 16) = false := decide_eq_false (by omega)
                    subst he
                    clear hops hb5 hq hkm h4 h19
                    go_wp2_with fail
                    go_meet
                    exact ⟨HK, HB5⟩
                  obtain ⟨N, hN⟩ : ∃ N, L.length = N + 3 := ⟨L.length - 3, by omega⟩
                  have hN1 : 1 ≤ N := by omega
                  have hN16 : N ≤ 16 := by omega
                  obtain ⟨p0, hp0⟩ : ∃ p, L[0]? = some p := ⟨_, List.getElem?_eq_getElem (by omega)⟩
                  obtain ⟨p1, hp1⟩ : ∃ p, L[N + 1]? = some p := ⟨_, List.getElem?_eq_getElem (by omega)⟩
                  obtain ⟨p2, hp2⟩ : ∃ p, L[N + 2]? = some p := ⟨_, List.getElem?_eq_getElem (by omega)⟩
                  have hM := multiB_test (cs := L.map Piece.code) (k := N) (by rw [List.length_map]; exact hN) hN1
                  rw [code_at hp0, code_at hp1, code_at hp2, ← List.map_drop, ← List.map_take, List.any_map] at hM
                  have HKEY := Lib.hid (fun a0 => keys_of (ops := L.map Piece.pair) rfl (by rw [List.length_map]; exact hN) hp0 a0)
                  have hdat : ∀ p ∈ L, Byt w5 w5.heap.size p.at_ p.data := fun p hp => Byt.of_own (hops.2.1 p hp)
                  have hro := OpsR.of_rat hops
                  have HDAT := Lib.hid hdat
                  obtain ⟨A', c', e0, hl1, hl3, h3⟩ := hro
                  obtain ⟨e1, _, e3⟩ := Value.slice.inj e0
                  subst e1 e3
                  obtain ⟨gb, o, rfl, hgb, hc⟩ := h3 (by rintro rfl; simp at hN)
                  have q0 : w5.cell? ⟨gb, o, none⟩ = some (.int .u8 (p0.code.toNat : Int)) := (hc 0 _ hp0).1
                  have q1 : w5.cell? ⟨gb, o + (N + 1) * 2, none⟩ = some (.int .u8 (p1.code.toNat : Int)) := (hc _ _ hp1).1
                  have q2 : w5.cell? ⟨gb, o + (N + 2) * 2, none⟩ = some (.int .u8 (p2.code.toNat : Int)) := (hc _ _ hp2).1
                  have HC := Lib.hid hc
                  rw [hN] at he hw hl1
                  subst he
                  have hw3 : IntKind.i64.wrap ((N : Int) + 3 - 3) = (N : Int) := by rw [show (N : Int) + 3 - 3 = (N : Int) by omega]; exact IntWalk.i64_in _ (by omega)
                  have d0 : decide ((1 : Int) ≤ (N : Int)) = true := decide_eq_true (by omega)
                  have d00 : decide (1 ≤ N) = true := decide_eq_true (by omega)
                  have d16 : decide ((N : Int) ≤ 16) = true := decide_eq_true (by omega)
                  have d17 : decide (N ≤ 16) = true := decide_eq_true (by omega)
                  have t2 : ((N : Int) + 2).toNat = N + 2 := by omega
                  have t1 : ((N : Int) + 1).toNat = N + 1 := by omega
                  have i2 : (0 : Int) ≤ (N : Int) + 2 := by omega
                  have i2' : (N : Int) + 2 < (N : Int) + 3 := by omega
                  have i1 : (0 : Int) ≤ (N : Int) + 1 := by omega
                  have i1' : (N : Int) + 1 < (N : Int) + 3 := by omega
                  have i0' : (0 : Int) < (N : Int) + 3 := by omega
                  have HS1 := Lib.hid (fun W => rsmall_any p1.code W)
                  have HS0 := Lib.hid (fun W => rsmall_any p0.code W)
                  have sb1 := smallB_bd p1.code
                  have sb0 := smallB_bd p0.code
                  have e2 := u8_beq p2.code 174
                  have hM2 : (p2.code == 174) = decide (p2.code = 174) := by rw [Bool.eq_iff_iff]; simp
                  rw [hM2] at hM
                  obtain ⟨b2, hb2⟩ : ∃ b, b = decide (p2.code = 174) := ⟨_, rfl⟩
                  obtain ⟨s1, hs1⟩ : ∃ s, s = smallB p1.code := ⟨_, rfl⟩
                  obtain ⟨s0, hs0⟩ : ∃ s, s = smallB p0.code := ⟨_, rfl⟩
                  obtain ⟨u2, hu2⟩ : ∃ s : Int, s = (p2.code.toNat : Int) := ⟨_, rfl⟩
                  obtain ⟨u1, hu1⟩ : ∃ s : Int, s = (p1.code.toNat : Int) := ⟨_, rfl⟩
                  obtain ⟨u0, hu0⟩ : ∃ s : Int, s = (p0.code.toNat : Int) := ⟨_, rfl⟩
                  rw [← hu2] at q2 e2
                  rw [← hb2] at e2 hM
                  rw [← hu1] at q1 HS1
                  rw [← hu0] at q0 HS0
                  rw [← hs1] at HS1 sb1 hM
                  rw [← hs0] at HS0 sb0 hM HKEY
                  have f2 : (u2 == 174) = b2 := e2
                  have HLN := Lib.hid hN
                  clear hc h3 e0 hp0 hp1 hp2 hN h4 h19 hs1 hs0 hu1 hu0 hu2 hb2 e2 hM2 hLn hdat hq hops hb5 hw hl3
                  by_cases c0 : 1 ≤ s0
                  case neg =>
                    rw [decide_eq_false c0] at hM
                    rw [if_neg (by rw [hM]; simp)] at hkm
                    have HK := Lib.hid hkm
                    have dd : decide (1 ≤ s0) = false := decide_eq_false c0
                    clear hM hkm
                    go_wp2_with fail
                    refine (HS0.out _).mono ?_
                    rintro e w9 ⟨rfl, rfl⟩
                    go_wp2_with fail
                    go_meet
                    exact ⟨HK, HB5⟩
                  have dd0 : decide (1 ≤ s0) = true := decide_eq_true c0
                  by_cases c3 : s0 ≤ (N : Int)
                  case neg =>
                    rw [decide_eq_false c3] at hM
                    rw [if_neg (by rw [hM]; simp)] at hkm
                    have HK := Lib.hid hkm
                    have dd : decide (s0 ≤ (N : Int)) = false := decide_eq_false c3
                    clear hM hkm
                    go_wp2_with fail
                    refine (HS0.out _).mono ?_
                    rintro e w9 ⟨rfl, rfl⟩
                    go_wp2_with fail
                    refine (HS0.out _).mono ?_
                    rintro e w9 ⟨rfl, rfl⟩
                    go_wp2_with fail
                    go_meet
                    exact ⟨HK, HB5⟩
                  have dd3 : decide (s0 ≤ (N : Int)) = true := decide_eq_true c3
                  by_cases c1 : s1 = (N : Int)
                  case neg =>
                    rw [decide_eq_false c1] at hM
                    rw [if_neg (by rw [hM]; simp)] at hkm
                    have HK := Lib.hid hkm
                    have dd : (s1 == (N : Int)) = false := by simpa using c1
                    clear hM hkm
                    go_wp2_with fail
                    refine (HS0.out _).mono ?_
                    rintro e w9 ⟨rfl, rfl⟩
                    go_wp2_with fail
                    refine (HS0.out _).mono ?_
                    rintro e w9 ⟨rfl, rfl⟩
                    go_wp2_with fail
                    refine (HS1.out _).mono ?_
                    rintro e w9 ⟨rfl, rfl⟩
                    go_wp2_with fail
                    go_meet
                    exact ⟨HK, HB5⟩
                  have dd1 : (s1 == (N : Int)) = true := by simpa using c1
                  have ddn : ((N : Int) == (N : Int)) = true := by simp
                  cases b2 with
                  | false =>
                    rw [if_neg (by rw [hM]; simp)] at hkm
                    have HK := Lib.hid hkm
                    clear hM hkm
                    go_wp2_with fail
                    refine (HS0.out _).mono ?_
                    rintro e w9 ⟨rfl, rfl⟩
                    go_wp2_with fail
                    refine (HS0.out _).mono ?_
                    rintro e w9 ⟨rfl, rfl⟩
                    go_wp2_with fail
                    refine (HS1.out _).mono ?_
                    rintro e w9 ⟨rfl, rfl⟩
                    go_wp2_with fail
                    go_meet
                    exact ⟨HK, HB5⟩
                  | true =>
                    rw [decide_eq_true c0, decide_eq_true c3, decide_eq_true c1] at hM
                    simp only [Bool.true_and] at hM
                    obtain ⟨M, hMd⟩ : ∃ M, M = (L.drop 1).take N := ⟨_, rfl⟩
                    have hML : M.length = N := by rw [hMd]; have := HLN.out; simp; omega
                    have hMa : ∀ j, j < N → M[j]? = L[j + 1]? := fun j hj => by rw [hMd, List.getElem?_take, if_pos hj, List.getElem?_drop, Nat.add_comm]
                    have hMm : ∀ p ∈ M, p ∈ L := fun p hp => by rw [hMd] at hp; exact List.mem_of_mem_drop (List.mem_of_mem_take hp)
                    rw [← hMd] at hM HKEY
                    have hM' : multiB (L.map Piece.code) = !M.any (fun p => p.code != 33) := hM
                    have HM := Lib.hid hM'
                    have HKM := Lib.hid hkm
                    have HMA := Lib.hid hMa
                    have HMM := Lib.hid hMm
                    have HML := Lib.hid hML
                    have hw8 : IntKind.u8.wrap s0 = s0 := by rw [IntKind.wrap_u8]; omega
                    have hmade := Byt.made w5 5 [.int .u8 s0] [b8 s0] (by rw [List.map_cons, bv_b8_of (by omega) (by omega)]; rfl) (by unfold maxLen; simp)
                    obtain ⟨W0, hW0⟩ : ∃ W0, W0 = w5.alloc (.cells #[.int .u8 s0] 5) := ⟨_, rfl⟩
                    have hmade0 : Byt W0 (w5.heap.size + 1) (.slice (some ⟨w5.heap.size, 0, none⟩) 1 1) [b8 s0] := by rw [hW0]; exact hmade
                    have HMADE := Lib.hid hmade0
                    have hb0 : Below w5.heap.size w5 W0 := by rw [hW0]; exact byt_below _ _ (Nat.le_refl _)
                    have hz0 : W0.heap.size = w5.heap.size + 1 := by rw [hW0]; simp
                    have HB0 := Lib.hid hb0
                    have HZ0 := Lib.hid hz0
                    have hrow : (W0.alloc (.cells #[.slice (some ⟨w5.heap.size, 0, none⟩) 1 1] 22)).ownsRow (w5.heap.size + 1) 22 1 (.slice (some ⟨W0.heap.size, 0, none⟩) 1 1) 1 [.slice (some ⟨w5.heap.size, 0, none⟩) 1 1] :=
                      ⟨by simp, .inr ⟨W0.heap.size, 1, _, rfl, by omega, heap_alloc_new W0 _, Nat.le_refl _, by unfold maxLen; omega, rfl, rfl⟩⟩
                    rw [hz0] at hrow
                    have HROW := Lib.hid hrow
                    have HBR := Lib.hid (show Below (w5.heap.size + 1) W0 (W0.alloc (.cells #[.slice (some ⟨w5.heap.size, 0, none⟩) 1 1] 22)) from byt_below _ _ (by omega))
                    rw [hW0] at HROW HBR
                    clear hM hM' hMd hMa hMm hML hkm hmade hmade0 hb0 hz0 hrow
                    go_wp2_with fail
                    refine (HS0.out _).mono ?_
                    rintro e w9 ⟨rfl, rfl⟩
                    go_wp2_with fail
                    refine (HS0.out _).mono ?_
                    rintro e w9 ⟨rfl, rfl⟩
                    go_wp2_with fail
                    refine (HS1.out _).mono ?_
                    rintro e w9 ⟨rfl, rfl⟩
                    go_wp2_with fail
                    refine (HS0.out _).mono ?_
                    rintro e w9 ⟨rfl, rfl⟩
                    go_wp2_with fail
                    rw [← hW0] at HROW HBR ⊢
                    go_loopw [10, 11, 12] (fun s g t wr => ∃ (k : Nat) (v : Value), v = s ∧ 1 ≤ k ∧ k ≤ N + 1 ∧ t = .int .i64 (k : Int) ∧ (∃ G : Bool, g = .bool G ∧ Hid (G = !(M.take (k - 1)).any (fun p => p.code != 33))) ∧ Hid (wr.ownsRow (w5.heap.size + 1) 22 1 v k ((.slice (some ⟨w5.heap.size, 0, none⟩) 1 1) :: (M.take (k - 1)).map Piece.at_)) ∧ Hid (Below (w5.heap.size + 1) W0 wr)) (fun _ _ t _ => N + 1 - (intOf t).toNat)
                    case atStart => exact ⟨1, _, rfl, Nat.le_refl _, by omega, rfl, ⟨true, rfl, Lib.hid rfl⟩, HROW, HBR⟩
                    case round => as_aux_lemma =>
                      obtain ⟨k, v, hv, hk1, hk, rfl, ⟨G, rfl, hG⟩, hown, hbel⟩ := hrel
                      subst hv
                      by_cases hlt : k ≤ N
                      · obtain ⟨j, rfl⟩ : ∃ j, k = j + 1 := ⟨k - 1, by omega⟩
                        have hja := HMA.out j (by omega)
                        have hjM : j < M.length := by rw [HML.out]; omega
                        rw [List.getElem?_eq_getElem hjM] at hja
                        obtain ⟨c0', c1', Ap, cp, hpp⟩ := HC.out (j + 1) _ hja.symm
                        rw [Nat.add_sub_cancel] at hG hown
                        have hsn : (M.take (j + 1)).map Piece.at_ = (M.take j).map Piece.at_ ++ [M[j].at_] := by rw [List.take_succ_eq_append_getElem hjM, List.map_append]; rfl
                        have hgn : (!(M.take (j + 1)).any (fun p => p.code != 33)) = (G && decide (M[j].code = 33)) := by
                          rw [hG.out, List.take_succ_eq_append_getElem hjM, List.any_append]
                          by_cases h : M[j].code = 33 <;> simp [h]
                        obtain ⟨q, hq⟩ : ∃ q, q = M[j] := ⟨_, rfl⟩
                        rw [← hq] at c0' c1' hpp hsn hgn
                        have hbw : Below w5.heap.size w5 wr := HB0.out.trans (hbel.out.mono (by omega))
                        have r0 : wr.cell? ⟨gb, o + (j + 1) * 2, none⟩ = some (.int .u8 (q.code.toNat : Int)) := (hbw.cell (p := ⟨gb, _, none⟩) (by show gb < _; omega)).trans c0'
                        have r1 : wr.cell? ⟨gb, o + (j + 1) * 2 + 1, none⟩ = some (.slice Ap q.data.length cp) := (hbw.cell (p := ⟨gb, _, none⟩) (by show gb < _; omega)).trans (c1'.trans (by rw [hpp]))
                        have e33 := u8_beq q.code 33
                        obtain ⟨b33, hb33⟩ : ∃ b, b = decide (q.code = 33) := ⟨_, rfl⟩
                        obtain ⟨u33, hu33⟩ : ∃ u : Int, u = (q.code.toNat : Int) := ⟨_, rfl⟩
                        rw [← hb33] at e33 hgn
                        rw [← hu33] at e33 r0
                        have f33 : (u33 == 33) = b33 := e33
                        have HSN := Lib.hid hsn
                        have HGN := Lib.hid hgn
                        have HQ := Lib.hid hpp
                        have hd1 : decide (((j : Int) + 1) ≤ (N : Int)) = true := decide_eq_true (by omega)
                        have hd2 : decide (j + 1 ≤ N) = true := decide_eq_true (by omega)
                        have hd3 : decide (j < N) = true := decide_eq_true (by omega)
                        have hi3 : (j : Int) + 1 < (N : Int) + 3 := by omega
                        have hi4 : (0 : Int) ≤ (j : Int) + 1 := by omega
                        have hi5 : ((j : Int) + 1).toNat = j + 1 := by omega
                        have OWN2 := Lib.hid (World.ownsRow.alloc hown.out (.cells #[.slice Ap q.data.length cp] 22))
                        have hs1 : w5.heap.size + 1 ≤ wr.heap.size := by have := hbel.out.size; have := HZ0.out; omega
                        have HS1' := Lib.hid hs1
                        have CELL := Lib.hid (cell_of_row _ wr.heap.size 0 _ _ _ (heap_alloc_new wr (.cells #[.slice Ap q.data.length cp] 22)))
                        have BEL2 := Lib.hid (hbel.out.alloc (by omega) (.cells #[.slice Ap q.data.length cp] 22))
                        clear c0' c1' hq hpp hsn hgn hbw hs1 hja e33 hb33 hu33 hown hbel hG
                        cases G with
                        | false =>
                          go_wp2_with (at_builtin; refine wpList_append_bag rfl (.tmp 171) (.tmp 177) rfl (w5.heap.size + 1) _ (j + 1) _ rfl OWN2.out wr.heap.size (.slice Ap q.data.length cp) rfl CELL.out rfl (by omega) (by have := HS1'.out; simp; omega) ?_; intro v5 w6 hown5 hg5)
                          have ho5 : w6.ownsRow (w5.heap.size + 1) 22 1 v5 (j + 1 + 1) ((.slice (some ⟨w5.heap.size, 0, none⟩) 1 1) :: (M.take (j + 1)).map Piece.at_) := by rw [HSN.out, HQ.out]; exact hown5
                          have hb5 : Below (w5.heap.size + 1) W0 w6 := BEL2.out.grown hg5 (by have := HS1'.out; simp; omega) (fun i hi => (World.ownsRow.lt OWN2.out i hi).1)
                          have HO5 := Lib.hid ho5
                          have HB6 := Lib.hid hb5
                          clear hown5 hg5 ho5 hb5
                          go_roundw
                          case rel => exact ⟨j + 1 + 1, _, rfl, by omega, by omega, by go_num, ⟨false, rfl, Lib.hid (by rw [Nat.add_sub_cancel, HGN.out]; rfl)⟩, HO5, HB6⟩
                          case measure => simp [intOf]; omega
                        | true =>
                          go_wp2_with (at_builtin; refine wpList_append_bag rfl (.tmp 171) (.tmp 177) rfl (w5.heap.size + 1) _ (j + 1) _ rfl OWN2.out wr.heap.size (.slice Ap q.data.length cp) rfl CELL.out rfl (by omega) (by have := HS1'.out; simp; omega) ?_; intro v5 w6 hown5 hg5)
                          have ho5 : w6.ownsRow (w5.heap.size + 1) 22 1 v5 (j + 1 + 1) ((.slice (some ⟨w5.heap.size, 0, none⟩) 1 1) :: (M.take (j + 1)).map Piece.at_) := by rw [HSN.out, HQ.out]; exact hown5
                          have hb5 : Below (w5.heap.size + 1) W0 w6 := BEL2.out.grown hg5 (by have := HS1'.out; simp; omega) (fun i hi => (World.ownsRow.lt OWN2.out i hi).1)
                          have HO5 := Lib.hid ho5
                          have HB6 := Lib.hid hb5
                          clear hown5 hg5 ho5 hb5
                          go_roundw
                          case rel => exact ⟨j + 1 + 1, _, rfl, by omega, by omega, by go_num, ⟨b33, rfl, Lib.hid (by rw [Nat.add_sub_cancel, HGN.out]; rfl)⟩, HO5, HB6⟩
                          case measure => simp [intOf]; omega
                      · obtain rfl : k = N + 1 := by omega
                        rw [Nat.add_sub_cancel, List.take_of_length_le (by rw [HML.out]; exact Nat.le_refl _)] at hG hown
                        have hd1 : decide (((N : Int) + 1) ≤ (N : Int)) = false := decide_eq_false (by omega)
                        have hd2 : decide (N + 1 ≤ N) = false := decide_eq_false (by omega)
                        have hd3 : decide (N < N) = false := decide_eq_false (by omega)
                        have hbw : Below w5.heap.size w5 wr := HB0.out.trans (hbel.out.mono (by omega))
                        have HBW := Lib.hid (HB5.out.trans (hbw.mono HB5.out.size))
                        have hkm2 := HKM.out
                        rw [HM.out, ← hG.out] at hkm2
                        cases G with
                        | false =>
                          have HK := Lib.hid hkm2
                          clear hkm2 hbw
                          go_wp2_with fail
                          go_meet
                          exact ⟨Lib.hid (HK.out.trans (if_neg (by decide))), HBW⟩
                        | true =>
                          have HK := Lib.hid (hkm2.trans (if_pos rfl))
                          have HBN := Lib.hid hbw
                          clear hkm2 hbw
                          go_wp2_with fail
                          go_ret2
                          rw [HK.out]
                          refine ⟨v, partsL (.slice (some ⟨w5.heap.size, 0, none⟩) 1 1) s0 M, rfl, HKEY.out _, row_bag (base := w5.heap.size + 1) ?_ ?_, HBW.out⟩
                          · unfold partsL
                            rw [List.length_cons, List.length_map, HML.out, List.map_cons, List.map_map]
                            exact hown.out
                          · intro p hp
                            unfold partsL at hp
                            rcases List.mem_cons.1 hp with rfl | hp
                            · exact (HMADE.out.below hbel.out).more (by have := hbel.out.size; have := HZ0.out; omega)
                            · obtain ⟨q, hq, rfl⟩ := List.mem_map.1 hp
                              exact ((HDAT.out q (HMM.out q hq)).below HBN.out).more HBN.out.size
              case rest => as_aux_lemma =>
                obtain ⟨hkd, hb6⟩ := hcut
                clear hb4
                by_cases hn0 : n = 0
                · have hxs : xs = [] := List.eq_nil_of_length_eq_zero (by rw [← HN.out]; exact hn0)
                  have HK := Lib.hid (show kk = (0, []) by rw [hkd.out, hxs]; rfl)
                  subst hn0
                  clear hxs
                  go_wp2_with fail
                  go_ret2
                  rw [HK.out]
                  exact ⟨_, [], rfl, rfl, BagR.none _ _, hb6.out⟩
                obtain ⟨a, t, hat⟩ : ∃ a t, xs = a :: t := by
                  cases hxx : xs with
                  | nil => exact absurd (by rw [HN.out, hxx]; rfl) hn0
                  | cons a t => exact ⟨a, t, rfl⟩
                have hnt : n = t.length + 1 := by rw [HN.out, hat]; rfl
                subst hnt
                have hkd2 := hkd.out
                have hx2 := HX.out
                have hl3 := HL2.out
                rw [hat] at hkd2 hx2 hl3
                rw [List.length_cons] at hl3
                obtain ⟨gb, o, rfl, hgb, hcell⟩ := byt_cell (i := 0) hx2 (by simp)
                have hcell2 : wc.cell? ⟨gb, o, none⟩ = some (.int .u8 (a.toNat : Int)) := (hb6.out.cell (p := ⟨gb, o, none⟩) (by show gb < _; omega)).trans hcell
                have e106 := u8_beq a 106
                obtain ⟨htl, hsl⟩ := byt_tail hx2
                obtain ⟨At, hAt⟩ : ∃ At, At = (if c = 1 then some (⟨gb, o, none⟩ : Addr) else some ⟨gb, o + 1, none⟩) := ⟨_, rfl⟩
                rw [← hAt] at htl
                simp only [← hAt] at hsl
                have HTL := Lib.hid (htl.below (hb6.out.mono hB))
                have hBc : B ≤ wc.heap.size := Nat.le_trans hB hb6.out.size
                have HPU := Lib.hid (rpushes_any B _ t wc HTL.out hBc (by omega))
                rw [dataB_cons] at hkd2
                obtain ⟨u6, hu6⟩ : ∃ u : Int, u = (a.toNat : Int) := ⟨_, rfl⟩
                rw [← hu6] at e106 hcell2
                have d0 : decide ((0 : Int) < (t.length : Int) + 1) = true := decide_eq_true (by omega)
                have i0 : (0 : Int) < (t.length : Int) + 1 := by omega
                have HT3 := Lib.hid hl3
                by_cases h6 : a = 106
                case neg =>
                  have f6 : (u6 == 106) = false := e106.trans (decide_eq_false h6)
                  have HK := Lib.hid (hkd2.trans (if_neg (fun h => h6 h.1)))
                  clear hkd2 hx2 htl hAt e106 hu6 hcell hat hl3 hn0 hl
                  go_wp2_with fail
                  go_ret2
                  rw [HK.out]
                  exact ⟨_, [], rfl, rfl, BagR.none _ _, hb6.out⟩
                have f6 : (u6 == 106) = true := e106.trans (decide_eq_true h6)
                cases hpt : pushesB t with
                | false =>
                  have HK := Lib.hid (hkd2.trans (if_neg (fun h => by rw [hpt] at h; exact absurd h.2 (by decide))))
                  rw [hpt] at HPU
                  clear hkd2 hx2 htl hAt e106 hu6 hcell hat hl3 hn0 hl hpt
                  go_wp2_with fail
                  refine HPU.out.mono ?_
                  rintro e w7 ⟨rfl, hb7⟩
                  have HB7 := Lib.hid (hb6.out.trans (hb7.mono hb6.out.size))
                  clear hb7
                  go_wp2_with fail
                  go_ret2
                  rw [HK.out]
                  exact ⟨_, [], rfl, rfl, BagR.none _ _, HB7.out⟩
                | true =>
                  have HK := Lib.hid (hkd2.trans (if_pos ⟨h6, hpt⟩))
                  rw [hpt] at HPU
                  clear hkd2 hx2 htl hAt e106 hu6 hcell hat hl3 hn0 hl hpt h6
                  go_wp2_with fail
                  refine HPU.out.mono ?_
                  rintro e w7 ⟨rfl, hb7⟩
                  have HB7 := Lib.hid (hb6.out.trans (hb7.mono hb6.out.size))
                  have HCP := Lib.hid (rcopy_any B _ t w7 (HTL.out.below (hb7.mono hBc)) (by have := HT3.out; omega))
                  clear hb7
                  go_wp2_with fail
                  refine HCP.out.mono ?_
                  intro e w8 hfr
                  obtain ⟨u8, rfl, hown8, hb8⟩ := fresh_v hfr
                  obtain ⟨A8, c8, rfl⟩ := own_form hown8
                  have hsz : w.heap.size ≤ w8.heap.size := Nat.le_trans HB7.out.size hb8.size
                  have bag := Lib.hid (BagR.made w8 22 [.slice A8 t.length c8] [(.slice A8 t.length c8, t)] rfl (by unfold maxLen; simp) (by intro p hp; simp only [List.mem_cons, List.not_mem_nil, or_false] at hp; subst hp; exact Byt.of_own hown8))
                  have HBF := Lib.hid ((HB7.out.trans (hb8.mono HB7.out.size)).alloc hsz (.cells #[.slice A8 t.length c8] 22))
                  clear hfr hown8 hb8 hsz
                  go_wp2_with fail
                  go_ret2
                  rw [HK.out]
                  exact ⟨_, [(.slice A8 t.length c8, t)], rfl, rfl, bag.out.more (by simp), HBF.out⟩
end Go.Proofs.Ytpfobbhoahnebaa

/-
  Lists of bytes with memory of their own: what a store changes, and what an append leaves of the old one. Conditions: sizes within the reach.
-/
namespace Go.Proofs.Ytpfobbhoahnebaa
open Go.RowKit

/-- The slice value x is a row of bytes of its own. -/
def Mem (w : World) (x : Value) (ys : List UInt8) : Prop := w.ownsRow 0 5 1 x ys.length (ys.map bv)

theorem Mem.form {w : World} {x : Value} {ys : List UInt8} (h : Mem w x ys) : ∃ A c, x = .slice A ys.length c := own_form h

/-- A row that isn't empty: its block. -/
theorem Mem.block {w : World} {A : Option Addr} {n c : Nat} {ys : List UInt8} (h : Mem w (.slice A n c) ys) (hn : 0 < ys.length) : ∃ g, A = some ⟨g, 0, none⟩ ∧ n = ys.length ∧ g < w.heap.size ∧ n ≤ c ∧ c ≤ maxLen := by
  rcases h.2 with ⟨_, h0⟩ | ⟨g, cap, cur, e, _, hg, hnc, hcm, _, _⟩
  · omega
  · injection e with e1 e2 e3
    subst e1 e2 e3
    exact ⟨g, rfl, rfl, (Array.getElem?_eq_some_iff.1 hg).1, hnc, hcm⟩

theorem Mem.cell {w : World} {g n c k : Nat} {q : UInt8} {ys : List UInt8} (h : Mem w (.slice (some ⟨g, 0, none⟩) n c) ys) (hk : ys[k]? = some q) : w.cell? ⟨g, k, none⟩ = some (bv q) := by
  have hc := World.ownsRow.cells h (g := g) rfl k (bv q) (by rw [List.getElem?_map, hk]; rfl)
  have hadd : (⟨g, 0, none⟩ : Addr).add k = ⟨g, 0 + k, none⟩ := by unfold Addr.add; split <;> simp_all
  rw [hadd, Nat.zero_add] at hc
  exact hc

theorem Mem.free {w : World} {g n c : Nat} {ys : List UInt8} (h : Mem w (.slice (some ⟨g, 0, none⟩) n c) ys) (k : Nat) : w.frozen? ⟨g, k, none⟩ = false := by
  rcases h.2 with ⟨e, _⟩ | ⟨g', cap, cur, e, _, hg, _⟩
  · cases e
  · injection e with e1 _ _
    injection e1 with e1
    injection e1 with e1
    subst e1
    simp [World.frozen?, hg]

theorem Mem.set {w : World} {g n c : Nat} {ys : List UInt8} (h : Mem w (.slice (some ⟨g, 0, none⟩) n c) ys) (k : Nat) (q : UInt8) : Mem (w.setCell ⟨g, k, none⟩ (bv q)) (.slice (some ⟨g, 0, none⟩) n c) (ys.set k q) := by
  unfold Mem at h ⊢
  rw [List.length_set]
  refine ⟨by simp, ?_⟩
  rcases h.2 with ⟨e, _⟩ | ⟨g', cap, cur, e, hb, hg, hnc, hcm, hcs, ht⟩
  · cases e
  · have e' := e
    injection e' with e1 _ _
    injection e1 with e1
    injection e1 with e1
    subst e1
    refine .inr ⟨g, cap, cur.setIfInBounds k (bv q), e, hb, ?_, hnc, hcm, by simpa using hcs, ?_⟩
    · simp [World.setCell, Array.getElem?_modify, hg]
    · rw [Array.toList_setIfInBounds, List.map_set, ← ht]
      exact List.take_set

theorem Mem.turns {S : Nat → Prop} {w w' : World} {x : Value} {ys : List UInt8} (h : Mem w x ys) (ht : Turns S w w') (hS : ∀ k, x.ownBlock = some k → ¬ S k) : Mem w' x ys := own_turns h ht hS

/-- What an append leaves to be seen through the old slice. -/
theorem append_sees {P : Program} (w : World) (base : Nat) (t ty e : TypeId) (i : TypeInfo) (z : Value) (ht : P.underlying t = some (.slice e)) (hi : P.info? e = some i) (hz : i.zero = some z)
    (hsize : i.size = 1) (hby : i.bytes = 1) (g n cap : Nat) (xs : List Value) (hown : w.ownsRow base e 1 (.slice (some ⟨g, 0, none⟩) n cap) n xs)
    (ad : Addr) (m c : Nat) (news : List Value) (hl : news.length = m * 1) (hnews : ∀ j u, news[j]? = some u → w.cell? (ad.add j) = some u) (h1 : ∀ u ∈ news, u.oneCell' = true)
    (hb : n + m ≤ 140737488355328) (v' : Value) (w' : World) (hr : (Builtin.append_ #[t, t] ty #[.slice (some ⟨g, 0, none⟩) n cap, .slice (some ad) m c]).run P w = .ok v' w') :
    ∀ j u, xs[j]? = some u → w'.cell? ⟨g, j, none⟩ = some u := by
  have hadd : ∀ j, (⟨g, 0, none⟩ : Addr).add j = ⟨g, j, none⟩ := by intro j; unfold Addr.add; split <;> simp_all
  intro j u hj
  by_cases hroom : n + m ≤ cap
  · obtain ⟨w2, hr2, hown2, _⟩ := run_append_own_spare (P := P) w base t ty e i 1 ht hi hsize g n cap xs hown ad m c news hl hnews h1 hroom
    rw [hr2] at hr
    injection hr with _ hw
    subst hw
    have := hown2.cells (g := g) rfl j u (by rw [List.getElem?_append_left (List.getElem?_eq_some_iff.1 hj).1]; exact hj)
    rw [hadd] at this
    exact this
  · have holds : ∀ j u, xs[j]? = some u → w.cell? ((⟨g, 0, none⟩ : Addr).add j) = some u := hown.cells (g := g) rfl
    have hr2 := run_append_grow (P := P) w t ty e i z ht hi hz ⟨g, 0, none⟩ n cap xs (by rw [hsize]; exact hown.1) holds ad m c news (by rw [hsize]; exact hl) hnews (by omega) (by omega)
      (growslice_fits (by omega) (by rw [hby]; omega))
    rw [hr2] at hr
    injection hr with _ hw
    subst hw
    have hc := holds j u hj
    rw [hadd] at hc
    exact (World.cell?_alloc_lt w.drew _ ⟨g, j, none⟩ (World.block_lt_of_cell? w _ hc)).trans hc

/-- What stays to be seen of a list, once it is one's own: its first bytes, in a block below B. -/
def Sees (w : World) (B : Nat) (x : Value) (ys : List UInt8) : Prop :=
  ∀ g n c, x = .slice (some ⟨g, 0, none⟩) n c → g < B ∧ ∀ j q, ys[j]? = some q → w.cell? ⟨g, j, none⟩ = some (bv q)

theorem Mem.sees {w : World} {x : Value} {ys : List UInt8} {B : Nat} (h : Mem w x ys) (hB : ∀ k, x.ownBlock = some k → k < B) : Sees w B x ys := by
  rintro g n c rfl
  exact ⟨hB g rfl, fun j q hq => h.cell hq⟩

theorem Sees.turns {S : Nat → Prop} {w w' : World} {B : Nat} {x : Value} {ys : List UInt8} (h : Sees w B x ys) (ht : Turns S w w') (hB : B ≤ w.heap.size) (hS : ∀ k, x.ownBlock = some k → ¬ S k) : Sees w' B x ys := by
  rintro g n c rfl
  obtain ⟨h1, h2⟩ := h g n c rfl
  exact ⟨h1, fun j q hq => (ht.cell (p := ⟨g, j, none⟩) (Nat.lt_of_lt_of_le h1 hB) (hS g rfl)).trans (h2 j q hq)⟩

/-- At the operation: three bytes more. -/
theorem wpList_append_sees {P : Program} {w : World} {ops : Array Oper} {rest : List Oper} {o : Oper} {a : Act} {Q : Exit → Act → World → Prop} (hgd : o.guard = none) (s x : Operand) (t : TypeId)
    (ho : o.op = .call { callee := .builtin .append, args := #[s, x], argTypes := #[t, t] })
    (i : TypeInfo) (ht : P.underlying t = some (.slice 5)) (hi : P.info? 5 = some i)
    (hz : i.zero = some (.int .u8 0)) (hsize : i.size = 1) (hby : i.bytes = 1)
    (v : Value) (xs : List UInt8) (hs : a.eval s = v) (hown : Mem w v xs)
    (ad : Addr) (m c : Nat) (ys : List UInt8) (hx : a.eval x = .slice (some ad) m c) (hm : ys.length = m) (hm0 : 0 < m) (hnews : ∀ j u, (ys.map bv)[j]? = some u → w.cell? (ad.add j) = some u) (hb : xs.length + m ≤ 140737488355328)
    (h : ∀ g cap w', Mem w' (.slice (some ⟨g, 0, none⟩) (xs.length + m) cap) (xs ++ ys) → w.grownBy w' v.ownBlock → (v.ownBlock = some g ∨ g = w.heap.size) → Sees w' w.heap.size v xs →
      wpList P ops Q rest (a.put o.dst (.slice (some ⟨g, 0, none⟩) (xs.length + m) cap)) w') :
    wpList P ops Q (o :: rest) a w := by
  refine wpList_plain hgd fun K hK => ?_
  have h1 : ∀ u ∈ ys.map bv, u.oneCell' = true := by intro u hu; obtain ⟨q, _, rfl⟩ := List.mem_map.1 hu; rfl
  obtain ⟨v', w', hr, h2, h3, _, h5⟩ := run_append_own_at (P := P) w 0 t o.type 5 i (.int .u8 0) 1 1 ht hi hz hsize hby rfl (by decide) v xs.length (xs.map bv) hown ad m c (ys.map bv)
      (by simp [hm]) hnews h1 (by unfold maxLen; omega) (by omega) (Nat.zero_le _)
  have hmem : Mem w' v' (xs ++ ys) := by
    unfold Mem
    rw [List.length_append, List.map_append, hm]
    exact h2
  obtain ⟨A, cap, rfl⟩ := hmem.form
  obtain ⟨g, rfl, _, _, _⟩ := hmem.block (by rw [List.length_append]; omega)
  have hl : (xs ++ ys).length = xs.length + m := by rw [List.length_append, hm]
  rw [hl] at hr hmem h5
  have hat : v.ownBlock = some g ∨ g = w.heap.size := by
    rcases h5 with h5 | h5
    · exact .inl h5.symm
    · right; simpa [Value.ownBlock] using h5
  have hsees : Sees w' w.heap.size v xs := by
    rintro g0 n0 c0 rfl
    have hn0 : n0 = xs.length := by obtain ⟨A', c', e⟩ := hown.form; injection e
    subst hn0
    have hlt : g0 < w.heap.size := (World.ownsRow.lt hown g0 rfl).2
    refine ⟨hlt, fun j q hq => ?_⟩
    exact append_sees w 0 t o.type 5 i (.int .u8 0) ht hi hz hsize hby g0 xs.length c0 (xs.map bv) hown ad m c (ys.map bv) (by simp [hm]) hnews h1 (by omega) _ _ hr j (bv q) (by rw [List.getElem?_map, hq]; rfl)
  unfold Oper.wp execOp
  simp only [ho, resolve, invoke, builtin, Sem.run_bind, Sem.run_pure, Result.andThen_ok, List.map_toArray, List.map_cons, List.map_nil, hs, hx, hr]
  exact hK _ _ (h g cap w' hmem h3 hat hsees)

/-- Apart's pattern: the bytes of list i. -/
def pat (i n : Nat) : List UInt8 := (List.range n).map fun (k : Nat) => b8 (7 * (i : Int) + (k : Int))
theorem pat_length (i n : Nat) : (pat i n).length = n := by simp [pat]
theorem pat_at {i n k : Nat} (h : k < n) : (pat i n)[k]? = some (b8 (7 * (i : Int) + k)) := by
  unfold pat
  rw [List.getElem?_map, List.getElem?_range h]
  rfl
theorem pat_of {i n : Nat} {c : List UInt8} (hl : c.length = n) (h : ∀ t, t < n → c[t]? = some (b8 (7 * (i : Int) + t))) : c = pat i n := by
  apply List.ext_getElem?
  intro t
  by_cases ht : t < n
  · rw [h t ht, pat_at ht]
  · rw [List.getElem?_eq_none (by omega), List.getElem?_eq_none (by rw [pat_length]; omega)]

/-- The lists: where they lie, and that no two of them (and none and their own row) share a block. -/
structure Lists (w : World) (L m : Nat) (x : Nat → Value) : Prop where
  list : ∀ i, i < m → w.cell? ⟨L, i, none⟩ = some (x i)
  apart : ∀ i j k, i < m → j < m → i ≠ j → (x i).ownBlock = some k → (x j).ownBlock ≠ some k
  off : ∀ i, i < m → (x i).ownBlock ≠ some L
  low : ∀ i k, i < m → (x i).ownBlock = some k → k < w.heap.size

/-- Any of the lists' blocks. -/
def Any (m : Nat) (x : Nat → Value) (k : Nat) : Prop := ∃ j, j < m ∧ (x j).ownBlock = some k

/-- Their contents. -/
def St (w : World) (m : Nat) (x : Nat → Value) (ns : Nat → Nat) (c : Nat → List UInt8) : Prop := ∀ j, j < m → (c j).length = ns j ∧ Mem w (x j) (c j)

def upd (c : Nat → List UInt8) (i : Nat) (ys : List UInt8) : Nat → List UInt8 := fun j => if j = i then ys else c j

theorem St.set {w w0 : World} {L m : Nat} {x : Nat → Value} {ns : Nat → Nat} {c : Nat → List UInt8} {i g n cap : Nat} (h : St w m x ns c) (hL : Lists w0 L m x) (hi : i < m) (hx : x i = .slice (some ⟨g, 0, none⟩) n cap) (k : Nat) (q : UInt8) :
    St (w.setCell ⟨g, k, none⟩ (bv q)) m x ns (upd c i ((c i).set k q)) := by
  intro j hj
  unfold upd
  by_cases hji : j = i
  · subst hji
    rw [if_pos rfl, List.length_set]
    refine ⟨(h j hj).1, ?_⟩
    have := (h j hj).2
    rw [hx] at this ⊢
    exact this.set k q
  · rw [if_neg hji]
    refine ⟨(h j hj).1, (h j hj).2.turns ((Turns.refl (fun b => b = g) w).setCell (fun _ => rfl) _) ?_⟩
    intro b hb e
    subst e
    exact hL.apart j i _ hj hi hji hb (by rw [hx]; rfl)

end Go.Proofs.Ytpfobbhoahnebaa

/-
  The references' Apart: true, where no two lists share memory. Conditions: each list a row of its own, sizes within the reach.
-/
namespace Go.Proofs.Ytpfobbhoahnebaa
open Go.RowKit

section
variable {w0 wr w' : World} {L m : Nat} {x : Nat → Value} {ns : Nat → Nat}

/-- Before byte k of list i is written over. -/
def Up1 (w0 : World) (m : Nat) (x : Nat → Value) (ns : Nat → Nat) (i k : Nat) (wr : World) : Prop :=
  ∃ c, St wr m x ns c ∧ (∀ j, j < i → c j = pat j (ns j)) ∧ (∀ t, t < k → (c i)[t]? = some (b8 (7 * (i : Int) + t))) ∧ Turns (Any m x) w0 wr

theorem Up1.next {i g n cap k : Nat} {c : Nat → List UInt8} (hL : Lists w0 L m x) (hi : i < m) (hx : x i = .slice (some ⟨g, 0, none⟩) n cap) (hk : k < ns i)
    (hs : St wr m x ns c) (h1 : ∀ j, j < i → c j = pat j (ns j)) (h2 : ∀ t, t < k → (c i)[t]? = some (b8 (7 * (i : Int) + t))) (h3 : Turns (Any m x) w0 wr) :
    Up1 w0 m x ns i (k + 1) (wr.setCell ⟨g, k, none⟩ (bv (b8 (7 * (i : Int) + k)))) := by
  refine ⟨_, hs.set hL hi hx k _, fun j hj => ?_, fun t ht => ?_, h3.setCell (fun _ => ⟨i, hi, by rw [hx]; rfl⟩) _⟩
  · unfold upd
    rw [if_neg (by omega)]
    exact h1 j hj
  · unfold upd
    rw [if_pos rfl]
    by_cases htk : t = k
    · subst htk
      rw [List.getElem?_set_self (by rw [(hs i hi).1]; exact hk)]
    · rw [List.getElem?_set_ne (by omega)]
      exact h2 t (by omega)

theorem Up1.turn {i : Nat} {c : Nat → List UInt8} (hs : St wr m x ns c) (h1 : ∀ j, j < i → c j = pat j (ns j)) (h2 : ∀ t, t < ns i → (c i)[t]? = some (b8 (7 * (i : Int) + t))) (hi : i < m) (h3 : Turns (Any m x) w0 wr) :
    Up1 w0 m x ns (i + 1) 0 wr := by
  refine ⟨c, hs, fun j hj => ?_, fun t ht => by omega, h3⟩
  by_cases hji : j = i
  · subst hji
    exact pat_of (hs j hi).1 h2
  · exact h1 j (by omega)

/-- Before list i is appended to. -/
def Up2 (w0 : World) (m : Nat) (x : Nat → Value) (ns : Nat → Nat) (i : Nat) (wr : World) : Prop :=
  (∀ j, j < m → i ≤ j → Mem wr (x j) (pat j (ns j))) ∧ (∀ j, j < i → Sees wr w0.heap.size (x j) (pat j (ns j))) ∧ Turns (Any m x) w0 wr

theorem Up2.first {c : Nat → List UInt8} {i : Nat} (him : i = m) (hs : St wr m x ns c) (h1 : ∀ j, j < i → c j = pat j (ns j)) (h3 : Turns (Any m x) w0 wr) : Up2 w0 m x ns 0 wr := by
  subst him
  refine ⟨fun j hj _ => ?_, fun j hj => by omega, h3⟩
  rw [← h1 j hj]
  exact (hs j hj).2

theorem Up2.next {w3 : World} {i g n : Nat} {o : Obj} {v : Value} (hL : Lists w0 L m x) (hi : i < m) (hn : ns i = n) (h : Up2 w0 m x ns i wr)
    (hg : (wr.alloc o).grownBy w3 (x i).ownBlock) (hat : (x i).ownBlock = some g ∨ g = (wr.alloc o).heap.size) (hs : Sees w3 (wr.alloc o).heap.size (x i) (pat i (ns i))) :
    Up2 w0 m x ns (i + 1) (w3.setCell ⟨g, n + 2, none⟩ v) := by
  obtain ⟨h1, h2, h3⟩ := h
  have hsz := h3.size
  have ht : Turns (fun k => (x i).ownBlock = some k ∨ wr.heap.size ≤ k) wr (w3.setCell ⟨g, n + 2, none⟩ v) := by
    refine (((Turns.refl _ wr).alloc o).grown hg (fun k hk _ => .inl hk)).setCell (fun _ => ?_) v
    rcases hat with hat | hat
    · exact .inl hat
    · right
      show wr.heap.size ≤ g
      rw [hat]
      simp
  have hoff : ∀ j, j < m → j ≠ i → ∀ k, (x j).ownBlock = some k → ¬ ((x i).ownBlock = some k ∨ wr.heap.size ≤ k) := by
    intro j hj hji k hk
    rintro (e | e)
    · exact hL.apart j i k hj hi hji hk e
    · have := hL.low j k hj hk; omega
  refine ⟨fun j hj hij => (h1 j hj (by omega)).turns ht (hoff j hj (by omega)), fun j hj => ?_, h3.trans ht (fun k hk hS => ?_)⟩
  · by_cases hji : j = i
    · subst hji
      rintro g0 n0 c0 hx
      obtain ⟨_, hc⟩ := hs g0 n0 c0 hx
      refine ⟨hL.low j g0 hi (by rw [hx]; rfl), fun t q hq => ?_⟩
      refine (World.cell?_setCell_other _ _ _ _ ?_).trans (hc t q hq)
      intro e
      injection e with _ e2
      have := (List.getElem?_eq_some_iff.1 hq).1
      rw [pat_length] at this
      omega
    · exact (h2 j (by omega)).turns ht hsz (hoff j (by omega) hji)
  · rcases hS with hS | hS
    · exact ⟨i, hi, hS⟩
    · omega
end

set_option maxRecDepth 100000 in
set_option maxHeartbeats 3200000 in
theorem apart_yes (L m cap : Nat) (x : Nat → Value) (ns : Nat → Nat) (w : World) (hm : m ≤ 100) (hL : Lists w L m x) (hn : ∀ i, i < m → ns i ≤ 60000000)
    (h0 : ∃ c, St w m x ns c) (hLw : L < w.heap.size) :
    Calls Try.prog 31 #[.slice (some ⟨L, 0, none⟩) m cap] w fun e w' => e = .returned (.bool true) ∧ Turns (Any m x) w w' := by
  obtain ⟨i0, hi, hz0, hz1, hz2⟩ := info_parts info_u8
  have hform : ∀ j, j < m → ∃ A c, x j = .slice A (ns j) c ∧ ns j ≤ c ∧ c ≤ maxLen ∧ (0 < ns j → ∃ g, A = some ⟨g, 0, none⟩) := by
    obtain ⟨c, hc⟩ := h0
    intro j hj
    obtain ⟨hcl, hmem⟩ := hc j hj
    rcases hmem.2 with ⟨e, h0⟩ | ⟨g, cap, cur, e, _, hg, hnc, hcm, _, _⟩
    · exact ⟨none, 0, by rw [e, ← hcl, h0], by omega, by unfold maxLen; omega, fun h => by omega⟩
    · exact ⟨_, cap, by rw [e, hcl], by omega, hcm, fun _ => ⟨g, rfl⟩⟩
  have HF := Lib.hid hform
  clear hform
  have hLoff : ¬ Any m x L := fun ⟨j, hj, e⟩ => hL.off j hj e
  go_enter Try.func31, Try.ntmps31
  go_wp2_with fail
  go_loopw [3] (fun s wr => ∃ i : Nat, i ≤ m ∧ s = .int .i64 i ∧ Up1 w m x ns i 0 wr) (fun s _ => m - (intOf s).toNat)
  case atStart =>
    obtain ⟨c, hc⟩ := h0
    exact ⟨0, Nat.zero_le _, rfl, c, hc, fun j hj => by omega, fun t ht => by omega, Turns.refl _ _⟩
  case round =>
    obtain ⟨i, him, rfl, hup⟩ := hrel
    by_cases hlt : i < m
    · go_wp2_with fail
      go_loopw [4] (fun s wr => ∃ k : Nat, k ≤ ns i ∧ s = .int .i64 k ∧ Up1 w m x ns i k wr) (fun s _ => ns i - (intOf s).toNat)
      case atStart => exact ⟨0, Nat.zero_le _, rfl, hup⟩
      case round =>
        clear hup
        obtain ⟨k, hk, rfl, c, hs, h1, h2, h3⟩ := hrel
        have hli := (h3.cell (p := ⟨L, i, none⟩) hLw hLoff).trans (hL.list i hlt)
        have hnk := hn i hlt
        obtain ⟨hcl, hmem⟩ := hs i hlt
        obtain ⟨A, cc, hx⟩ := hmem.form
        rw [hcl] at hx
        rw [hx] at hli hmem
        by_cases hkl : k < ns i
        · obtain ⟨g, rfl, _, hg, hcc, hcm⟩ := hmem.block (by omega)
          obtain ⟨z, hz⟩ : ∃ z : Int, bv (c i)[k] = .int .u8 z := ⟨_, rfl⟩
          have hcell := hmem.cell (List.getElem?_eq_getElem (by omega : k < (c i).length))
          rw [hz] at hcell
          have hfree := hmem.free k
          have hnext := Up1.next hL hlt hx hkl hs h1 h2 h3
          rw [bv_b8] at hnext
          have hne : L ≠ g := by intro e; exact hL.off i hlt (by rw [hx, e]; rfl)
          have HN := Lib.hid hnext
          clear hnext hs h1 h2 h3 hcl hmem hz hx h0
          go_wp2_with fail
          refine ⟨⟨k + 1, by omega, by go_num, HN.out⟩, by simp [intOf]; omega⟩
        · go_wp2_with fail
          refine ⟨⟨i + 1, by omega, by go_num, Up1.turn hs h1 (fun t ht => h2 t (by omega)) hlt h3⟩, by simp [intOf]; omega⟩
    · obtain ⟨c, hs, h1, h2, h3⟩ := hup
      have hup2 := Up2.first (by omega : i = m) hs h1 h3
      clear hs h1 h2 h3 h0
      go_wp2_with fail
      go_loopw [5] (fun s wr => ∃ i : Nat, i ≤ m ∧ s = .int .i64 i ∧ Up2 w m x ns i wr) (fun s _ => m - (intOf s).toNat)
      case atStart => exact ⟨0, Nat.zero_le _, rfl, hup2⟩
      case round =>
        clear hup2
        obtain ⟨i, him, rfl, hup⟩ := hrel
        by_cases hlt : i < m
        · have hli := (hup.2.2.cell (p := ⟨L, i, none⟩) hLw hLoff).trans (hL.list i hlt)
          have hmem := hup.1 i hlt (Nat.le_refl _)
          obtain ⟨A, cc, hx⟩ := hmem.form
          rw [pat_length] at hx
          rw [hx] at hli
          have hnk := hn i hlt
          obtain ⟨n, hni⟩ : ∃ n, n = ns i := ⟨_, rfl⟩
          rw [← hni] at hx hli hnk
          obtain ⟨ps, hps⟩ : ∃ ps, ps = pat i (ns i) := ⟨_, rfl⟩
          have hpl : ps.length = n := by rw [hps, pat_length, hni]
          have hown : Mem (wr.alloc (.cells #[.int .u8 99, .int .u8 98, .int .u8 97] 5)) (.slice A n cc) ps := by
            rw [← hx, hps]
            exact hmem.turns ((Turns.refl (fun _ => False) wr).alloc _) (fun _ _ h => h)
          have hnews : ∀ j u, (([99, 98, 97] : List UInt8).map bv)[j]? = some u → (wr.alloc (.cells #[.int .u8 99, .int .u8 98, .int .u8 97] 5)).cell? ((⟨wr.heap.size, 0, none⟩ : Addr).add j) = some u := by
            intro j u hj
            have hadd : (⟨wr.heap.size, 0, none⟩ : Addr).add j = ⟨wr.heap.size, j, none⟩ := by unfold Addr.add; split <;> simp_all
            rw [hadd, cell_of_row _ wr.heap.size j _ _ _ (heap_alloc_new wr _)]
            match j, hj with
            | 0, hj => exact hj
            | 1, hj => exact hj
            | 2, hj => exact hj
          have HU := Lib.hid hup
          have HX := Lib.hid hx
          have HI := Lib.hid hni
          have HP := Lib.hid hps
          have HO := Lib.hid hown
          have HW := Lib.hid hnews
          clear hup hx hmem hni hps hown hnews
          go_wp2_with (at_builtin; refine wpList_append_sees rfl (.tmp 44) (.tmp 45) 22 rfl i0 slice_u8 hi hz0 hz1 hz2 (.slice A n cc) ps rfl HO.out ⟨wr.heap.size, 0, none⟩ 3 3 [99, 98, 97] rfl rfl (by omega) HW.out (by omega) ?_; intro g c2 w3 hm3 hg3 hat3 hs3; have hc3 := hm3.cell (k := n + 2) (q := 97) (by rw [← hpl, List.getElem?_append_right (by omega)]; simp); have hf3 := hm3.free (n + 2); rw [hpl]; have HM3 := Lib.hid hm3; have HG3 := Lib.hid hg3; have HA3 := Lib.hid hat3; have HS3 := Lib.hid hs3; clear hm3 hg3 hat3 hs3)
          refine ⟨⟨i + 1, by omega, by go_num, Up2.next hL hlt HI.out.symm HU.out (by rw [HX.out]; exact HG3.out) (by rw [HX.out]; exact HA3.out) (by rw [HX.out, ← HP.out]; exact HS3.out)⟩, by simp [intOf]; omega⟩
        · have hS : ∀ j, j < m → Sees wr w.heap.size (x j) (pat j (ns j)) := fun j hj => hup.2.1 j (by omega)
          have hT := hup.2.2
          have HS := Lib.hid hS
          have HT := Lib.hid hT
          clear hup hS hT
          go_wp2_with fail
          go_loopw [7] (fun s wx => ∃ j : Nat, j ≤ m ∧ s = .int .i64 j ∧ wx = wr) (fun s _ => m - (intOf s).toNat)
          case atStart => exact ⟨0, Nat.zero_le _, rfl, rfl⟩
          case round =>
            obtain ⟨j, hjm, rfl, rfl⟩ := hrel
            by_cases hjlt : j < m
            · go_wp2_with fail
              go_loopw [8] (fun s wx => ∃ k : Nat, k ≤ ns j ∧ s = .int .i64 k ∧ wx = wr) (fun s _ => ns j - (intOf s).toNat)
              case atStart => exact ⟨0, Nat.zero_le _, rfl, rfl⟩
              case round =>
                obtain ⟨k, hk, rfl, rfl⟩ := hrel
                have hlj := (HT.out.cell (p := ⟨L, j, none⟩) hLw hLoff).trans (hL.list j hjlt)
                obtain ⟨A, cc, hx, hcc, hcm, hA⟩ := HF.out j hjlt
                rw [hx] at hlj
                have hnk := hn j hjlt
                obtain ⟨n, hni⟩ : ∃ n, n = ns j := ⟨_, rfl⟩
                rw [← hni] at hlj hk hcc hA hnk ⊢
                by_cases hkl : k < n
                · obtain ⟨g, rfl⟩ := hA (by omega)
                  have hcell := (HS.out j hjlt _ _ _ hx).2 k _ (pat_at (by omega))
                  rw [bv_b8] at hcell
                  clear hx hni
                  go_wp2_with fail
                  exact ⟨⟨k + 1, by omega, by go_num, trivial⟩, by simp [intOf]; omega⟩
                · clear hx hni
                  go_wp2_with fail
                  exact ⟨⟨j + 1, by omega, by go_num, trivial⟩, by simp [intOf]; omega⟩
            · go_wp2_with fail
              go_ret
              exact ⟨rfl, HT.out⟩

end Go.Proofs.Ytpfobbhoahnebaa

/-
  Rows of parts as Apart wants them; how long the parts are. Conditions: none.
-/
namespace Go.Proofs.Ytpfobbhoahnebaa
open Go.RowKit

theorem parse_data {xs : List UInt8} {ops : List (UInt8 × List UInt8)} (h : parseP xs = some ops) : ∀ o ∈ ops, o.2.length ≤ xs.length := by
  induction ops generalizing xs with
  | nil => intro o ho; cases ho
  | cons o ops ih =>
    obtain ⟨c, rest, hx, _, h1, h2⟩ := parse_first h
    have h3 := opR_rest c rest
    have h4 := opR_data c rest
    intro q hq
    rcases List.mem_cons.1 hq with rfl | hq
    · rw [h2, hx, List.length_cons]
      show (opR c rest).1.length ≤ _
      omega
    · have := ih h1 q hq
      rw [hx, List.length_cons]
      omega
theorem parse_getD {xs : List UInt8} {ops : List (UInt8 × List UInt8)} (h : parseP xs = some ops) (i : Nat) : (ops.getD i (0, [])).2.length ≤ xs.length := by
  rw [List.getD]
  cases hi : ops[i]? with
  | none => simp
  | some o => exact parse_data h o (List.mem_of_getElem? hi)
/-- How many parts a script has, and how long they are. -/
theorem kindB_parts (xs : List UInt8) : (kindB xs).2.length ≤ 17 ∧ ∀ p ∈ (kindB xs).2, p.length ≤ xs.length + 40 := by
  cases hp : progB xs with
  | some q =>
    obtain ⟨v, p⟩ := q
    obtain ⟨_, _, _, h40⟩ := progB_bd hp
    rw [kindB_wit hp]
    unfold witB
    split
    · exact ⟨by simp, fun q hq => by rcases List.mem_singleton.1 hq with rfl; omega⟩
    split
    · exact ⟨by simp, fun q hq => by rcases List.mem_singleton.1 hq with rfl; omega⟩
    · refine ⟨by simp, fun q hq => ?_⟩
      simp only [List.mem_cons, List.not_mem_nil, or_false] at hq
      rcases hq with rfl | rfl
      · simp
      · omega
  | none =>
    cases hq : parseP xs with
    | none => rw [kindB_bad hp hq]; exact ⟨by simp, fun q hq => by cases hq⟩
    | some ops =>
      rw [kindB_ops hp hq]
      unfold opsB
      split
      · refine ⟨by simp, fun q h => ?_⟩
        rcases List.mem_singleton.1 h with rfl
        have := parse_getD hq 2
        omega
      split
      · refine ⟨by simp, fun q h => ?_⟩
        rcases List.mem_singleton.1 h with rfl
        have := parse_getD hq 1
        omega
      split
      · rename_i hm
        have h19 : ops.length ≤ 19 := by
          refine Nat.le_of_not_lt fun h => ?_
          rw [multiB_many (by rw [List.length_map]; exact h)] at hm
          cases hm
        refine ⟨?_, fun q h => ?_⟩
        · show (keysB ops).length ≤ 17
          unfold keysB
          rw [List.length_cons, List.length_map, List.length_take]
          omega
        · have h : q ∈ keysB ops := h
          unfold keysB at h
          rcases List.mem_cons.1 h with rfl | h
          · simp
          · obtain ⟨o, ho, rfl⟩ := List.mem_map.1 h
            have := parse_data hq o (List.mem_of_mem_drop (List.mem_of_mem_take ho))
            omega
      · unfold dataB
        split
        · exact ⟨by simp, fun q hq => by cases hq⟩
        · split
          · refine ⟨by simp, fun q h => ?_⟩
            rcases List.mem_singleton.1 h with rfl
            rw [List.length_cons]
            omega
          · exact ⟨by simp, fun q hq => by cases hq⟩

/-- Apart's lists, out of a row of slices. -/
def ats (M : List (Value × List UInt8)) (i : Nat) : Value := (M[i]?.map (·.1)).getD (.slice none 0 0)
def lens (M : List (Value × List UInt8)) (i : Nat) : Nat := (M[i]?.map (·.2.length)).getD 0
def datas (M : List (Value × List UInt8)) (i : Nat) : List UInt8 := (M[i]?.map (·.2)).getD []
theorem ats_at {M : List (Value × List UInt8)} {i : Nat} (h : i < M.length) : ats M i = M[i].1 ∧ lens M i = M[i].2.length ∧ datas M i = M[i].2 := by
  unfold ats lens datas
  rw [List.getElem?_eq_getElem h]
  exact ⟨rfl, rfl, rfl⟩
theorem lists_bag {w : World} {base L n c : Nat} {M : List (Value × List UInt8)} (h : w.ownsRow base 22 1 (.slice (some ⟨L, 0, none⟩) n c) n (M.map (·.1))) (hn : n = M.length) (hd : ∀ p ∈ M, Mem w p.1 p.2) (ha : Alone M) :
    Lists w L n (ats M) ∧ St w n (ats M) (lens M) (datas M) := by
  subst hn
  refine ⟨⟨fun i hi => ?_, fun i j k hi hj hne hk hk2 => ?_, fun i hi => ?_, fun i k hi hk => ?_⟩, fun i hi => ?_⟩
  · rw [(ats_at hi).1]
    refine (World.ownsRow.cellAt h i (by omega)).trans ?_
    rw [List.getElem?_map, List.getElem?_eq_getElem hi]
    rfl
  · rw [(ats_at hi).1] at hk
    rw [(ats_at hj).1] at hk2
    rcases Nat.lt_or_gt_of_ne hne with hlt | hlt
    · exact List.pairwise_iff_getElem.1 ha i j hi hj hlt k hk hk2
    · exact List.pairwise_iff_getElem.1 ha j i hj hi hlt k hk2 hk
  · rw [(ats_at hi).1]
    exact own_types h (hd _ (List.getElem_mem hi)) (by decide) rfl
  · rw [(ats_at hi).1] at hk
    exact (World.ownsRow.lt (hd _ (List.getElem_mem hi)) k hk).2
  · obtain ⟨h1, h2, h3⟩ := ats_at hi
    rw [h1, h2, h3]
    exact ⟨rfl, hd _ (List.getElem_mem hi)⟩
theorem own_of_row {w : World} {g b0 : Nat} {xs : List UInt8} (h : Row w g xs) (hb : b0 ≤ g) (hl : xs.length ≤ maxLen) : OwnB w b0 (.slice (some ⟨g, 0, none⟩) xs.length xs.length) xs :=
  ⟨by simp, .inr ⟨g, xs.length, _, rfl, hb, h, Nat.le_refl _, hl, by simp, by
    rw [Nat.mul_one]
    exact List.take_of_length_le (by simp)⟩⟩

/-- Parts and two lists more, written over. -/
theorem apart_end (w9 : World) (b0 base : Nat) (v : Value) (M : List (Value × List UInt8)) (P0 AL : Value) (pd ad : List UInt8) (X : Obj) (hbag : BagAt w9 base v M) (hal : Alone M) (hp : OwnB w9 base P0 pd)
    (hpa : ∀ p ∈ M, ∀ g, p.1.ownBlock = some g → P0.ownBlock ≠ some g) (ha : OwnB w9 b0 AL ad) (hab : ∀ g, AL.ownBlock = some g → g < base) (hb0 : b0 ≤ base) (h17 : M.length ≤ 17) (hM : ∀ p ∈ M, p.2.length ≤ 60000000) (hpd : pd.length ≤ 60000000) (had : ad.length ≤ 60000000) (hbz : base ≤ w9.heap.size)
    (v' : Value) (w' : World) (hown : w'.ownsRow base 22 1 v' (M.length + 2) (M.map (·.1) ++ [P0, AL])) (hg : (w9.alloc X).grownBy w' v.ownBlock) :
    Calls Try.prog 31 #[v'] w' fun e w2 => e = .returned (.bool true) ∧ Below b0 w9 w2 := by
  have ht : Turns (fun k => v.ownBlock = some k) w9 w' := ((Turns.refl _ w9).alloc X).grown hg (fun k hk _ => hk)
  obtain ⟨N, hN⟩ : ∃ N, N = M ++ [(P0, pd), (AL, ad)] := ⟨_, rfl⟩
  have hNl : N.length = M.length + 2 := by rw [hN, List.length_append]; rfl
  have hNm : M.map (·.1) ++ [P0, AL] = N.map (·.1) := by rw [hN, List.map_append]; rfl
  have hmem : ∀ p ∈ N, ∃ b, b0 ≤ b ∧ OwnB w9 b p.1 p.2 := by
    intro p hpN
    rw [hN] at hpN
    rcases List.mem_append.1 hpN with h | h
    · exact ⟨base, hb0, hbag.2 p h⟩
    · simp only [List.mem_cons, List.not_mem_nil, or_false] at h
      rcases h with rfl | rfl
      · exact ⟨base, hb0, hp⟩
      · exact ⟨b0, Nat.le_refl _, ha⟩
  have hmem2 : ∀ p ∈ N, Mem w' p.1 p.2 := by
    intro p hpN
    obtain ⟨b, _, h⟩ := hmem p hpN
    exact own_turns (own_base h (Nat.zero_le _)) ht (fun k hk hv => own_types hbag.1 h (by decide) hv hk)
  have hlen : ∀ p ∈ N, p.2.length ≤ 60000000 := by
    intro p hpN
    rw [hN] at hpN
    rcases List.mem_append.1 hpN with h | h
    · exact hM p h
    · simp only [List.mem_cons, List.not_mem_nil, or_false] at h
      rcases h with rfl | rfl
      · exact hpd
      · exact had
  have hge : ∀ g, AL.ownBlock = some g → b0 ≤ g := fun g h => (World.ownsRow.lt ha g h).1
  have hal2 : Alone N := by
    rw [hN]
    refine List.pairwise_append.2 ⟨hal, ?_, fun p hpM q hq g hg hg2 => ?_⟩
    · refine List.Pairwise.cons (fun q hq g hg hg2 => ?_) (alone_single _)
      rcases List.mem_singleton.1 hq with rfl
      have h1 := (World.ownsRow.lt hp g hg).1
      have h2 := hab g hg2
      omega
    · simp only [List.mem_cons, List.not_mem_nil, or_false] at hq
      rcases hq with rfl | rfl
      · exact hpa p hpM g hg hg2
      · have h1 := (World.ownsRow.lt (hbag.2 p hpM) g hg).1
        have h2 := hab g hg2
        omega
  rw [hNm] at hown
  obtain ⟨L, c, rfl⟩ : ∃ L c, v' = .slice (some ⟨L, 0, none⟩) (M.length + 2) c := by
    rcases hown.2 with ⟨_, h0⟩ | ⟨g, cap, cur, rfl, _⟩
    · omega
    · exact ⟨g, cap, rfl⟩
  have hLlt : L < w'.heap.size := (World.ownsRow.lt hown L rfl).2
  obtain ⟨hL, hS⟩ := lists_bag hown hNl.symm hmem2 hal2
  refine (apart_yes L (M.length + 2) c (ats N) (lens N) w' (by omega) hL (fun i hi => ?_) ⟨_, hS⟩ hLlt).mono ?_
  · rw [(ats_at (M := N) (by omega)).2.1]
    exact hlen _ (List.getElem_mem _)
  · rintro e w2 ⟨rfl, hT⟩
    refine ⟨rfl, ?_⟩
    have hall : Turns (fun k => b0 ≤ k) w9 w2 := by
      refine (ht.mono (fun k _ hk => ?_)).trans hT (fun k _ hk => ?_)
      · have := (World.ownsRow.lt hbag.1 k hk).1
        show b0 ≤ k
        omega
      · obtain ⟨j, hj, hjk⟩ := hk
        rw [(ats_at (M := N) (by omega)).1] at hjk
        obtain ⟨b, hb, h⟩ := hmem _ (List.getElem_mem (show j < N.length by omega))
        have := (World.ownsRow.lt h k hjk).1
        show b0 ≤ k
        omega
    exact hall.below_of (by omega) (fun i hi h => by have h : b0 ≤ i := h; omega)
end Go.Proofs.Ytpfobbhoahnebaa

/-
  The law on the form of many keys. Conditions: none.
-/
namespace Go.Proofs.Ytpfobbhoahnebaa
open Go.RowKit

theorem BagR.take {w : World} {B n c k : Nat} {A : Option Addr} {L : List (Value × List UInt8)} (h : BagR w B (.slice A n c) L) (hk : k ≤ L.length) : BagR w B (.slice A k c) (L.take k) := by
  obtain ⟨⟨A', c', e, h1, h2, h3⟩, h4⟩ := h
  obtain ⟨e1, _, e3⟩ := Value.slice.inj e
  subst e1 e3
  have hl : (L.take k).length = k := by rw [List.length_take]; omega
  refine ⟨⟨A, c, by rw [hl], by omega, h2, fun hne => ?_⟩, fun p hp => h4 p (List.mem_of_mem_take hp)⟩
  obtain ⟨b, o, e', hb, hc⟩ := h3 (by rintro rfl; simp at hne)
  exact ⟨b, o, e', hb, fun i p hp => hc i p (by rw [List.getElem?_take] at hp; split at hp; exact hp; cases hp)⟩
theorem BagR.cap {w : World} {B n c : Nat} {A : Option Addr} {L : List (Value × List UInt8)} (h : BagR w B (.slice A n c) L) : L.length ≤ c ∧ c ≤ 9223372036854775807 := by
  obtain ⟨⟨A', c', e, h1, h2, _⟩, _⟩ := h
  obtain ⟨_, _, e3⟩ := Value.slice.inj e
  subst e3
  unfold maxLen at h2
  exact ⟨h1, h2⟩

/-- append of a slice of slices of bytes. -/
theorem wpList_append_bags {w : World} {ops : Array Oper} {rest : List Oper} {o : Oper} {a : Act} {Q : Exit → Act → World → Prop} (hgd : Region.wanted o (yielded ops a.tmps) = true) (s x : Operand)
    (ho : o.op = .call { callee := .builtin .append, args := #[s, x], argTypes := #[46, 46] })
    (base : Nat) (v : Value) (n : Nat) (xs : List Value) (hs : a.eval s = v) (hown : w.ownsRow base 22 1 v n xs)
    (B : Nat) (u : Value) (L : List (Value × List UInt8)) (hx : a.eval x = u) (hr : BagR w B u L) (hne : L ≠ []) (hk : ∀ p ∈ L, p.1.oneCell' = true)
    (hb : (n + L.length) * 24 ≤ 140737488355328) (hbase : base ≤ w.heap.size)
    (h : ∀ v' w', w'.ownsRow base 22 1 v' (n + L.length) (xs ++ L.map (·.1)) → w.grownBy w' v.ownBlock → wpList Try.prog ops Q rest (a.put o.dst v') w') :
    wpList Try.prog ops Q (o :: rest) a w := by
  obtain ⟨i, hi, hz, hsz, hby⟩ := info_parts info_bag
  obtain ⟨⟨A, c, rfl, h1, h2, h3⟩, _⟩ := hr
  obtain ⟨b, off, rfl, _, hc⟩ := h3 hne
  refine wpList_step fun K hK => ?_
  rw [if_pos hgd]
  obtain ⟨v', w', hrun, h2', h3', _, _⟩ := run_append_own_at (P := Try.prog) w base 46 o.type 22 i _ 1 24 slice_bag hi hz hsz hby rfl (by decide) v n xs hown ⟨b, off, none⟩ L.length c (L.map (·.1)) (by rw [List.length_map, Nat.mul_one])
    (by
      intro j u hu
      rw [List.getElem?_map] at hu
      cases hp : L[j]? with
      | none => rw [hp] at hu; cases hu
      | some p =>
        rw [hp] at hu
        have := hc j p hp
        rw [← Option.some.inj hu]
        exact (congrArg w.cell? (by unfold Addr.add; split <;> simp_all)).trans this)
    (by intro u hu; obtain ⟨p, hp, rfl⟩ := List.mem_map.1 hu; exact hk p hp) (by unfold maxLen; omega) hb hbase
  unfold Oper.wp execOp
  simp only [ho, resolve, invoke, builtin, Sem.run_bind, Sem.run_pure, Result.andThen_ok, List.map_toArray, List.map_cons, List.map_nil, hs, hx, hrun]
  exact hK _ _ (h v' w' h2' h3')

theorem mF_of {m : Int} {ks : List (List UInt8)} (h : mE m ks = 0) : mF m ks = multiForm m ks ∧ 1 ≤ m ∧ m ≤ (ks.length : Int) ∧ ks.length ≤ 16 ∧ ks.any (fun k => k.length != 33) = false := by
  refine ⟨by unfold mF; rw [if_pos h], ?_⟩
  unfold mE at h
  split at h
  · cases h
  · split at h
    · cases h
    · rename_i h1 h2
      exact ⟨by omega, by omega, by omega, by simpa using h2⟩
theorem mE_all (m : Int) (ks : List (List UInt8)) : mE m ks = 0 ∨ mE m ks = 1 ∨ mE m ks = 3 := by
  unfold mE
  split
  · exact .inr (.inl rfl)
  · split
    · exact .inr (.inr rfl)
    · exact .inl rfl

/-- The law, from the loop on. -/
def Keys (K : List (Value × List UInt8)) : List (List UInt8) := K.map (fun p => p.2.take 40)
theorem keys_take {K : List (Value × List UInt8)} {k : Nat} (h : k < K.length) : Keys (K.take (k + 1)) = Keys (K.take k) ++ [K[k].2.take 40] := by
  unfold Keys
  rw [List.take_succ_eq_append_getElem h, List.map_append]
  rfl

set_option maxRecDepth 100000 in
set_option maxHeartbeats 25600000 in
theorem multis_law (m : Int) (h0 : -9223372036854775808 ≤ m) (h1 : m ≤ 9223372036854775807) (B : Nat) (x : Value) (K0 : List (Value × List UInt8)) (w : World) (hx : BagR w B x K0) (hB : B ≤ w.heap.size) :
    Calls Try.prog 8 #[.int .i64 m, x] w fun e w' => e = .returned (.bool true) ∧ Below w.heap.size w w' := by
  have hlen := hx.len
  have HX := Lib.hid hx
  obtain ⟨A, c, rfl⟩ := hx.form
  obtain ⟨hc1, hc2⟩ := hx.cap
  clear hx
  have HAWK := Lib.hid (awake_any w)
  obtain ⟨n1, hn1⟩ : ∃ n1, n1 = min K0.length 20 := ⟨_, rfl⟩
  have hxt := HX.out.take (k := n1) (by omega)
  obtain ⟨K, hK⟩ : ∃ K, K = K0.take n1 := ⟨_, rfl⟩
  have hKl : K.length = n1 := by rw [hK, List.length_take]; omega
  rw [← hK] at hxt
  have HXT := Lib.hid hxt
  have HKL := Lib.hid hKl
  have hn20 : n1 ≤ 20 := by omega
  clear hxt hK hKl
  have hd : (20 < K0.length ∧ n1 = 20) ∨ (K0.length ≤ 20 ∧ n1 = K0.length) := by omega
  clear hn1
  rcases hd with ⟨hd, rfl⟩ | ⟨hd, rfl⟩
  all_goals
    first | (have hgt : decide ((20 : Int) < (K0.length : Int)) = true := decide_eq_true (by omega)) | (have hgt : decide ((20 : Int) < (K0.length : Int)) = false := decide_eq_false (by omega))
    try (have hcne : ¬ c = 0 := by omega)
    try (have hc20 : (20 : Int) ≤ (c : Int) := by omega)
    go_enter Try.func8, Try.ntmps8
    go_wp2_with fail
    refine HAWK.out.mono ?_
    rintro e w1 ⟨rfl, hb1⟩
    have HB1 := Lib.hid hb1
    have HX1 := Lib.hid (HXT.out.below (hb1.mono hB))
    have HBS := Lib.hid (Nat.le_trans hB hb1.size)
    clear hb1
    go_wp2_with fail
    go_loopw [5, 23] (fun s t wr => ∃ (k : Nat) (v : Value) (Q : List (Value × List UInt8)), v = s ∧ k ≤ K.length ∧ t = .int .i64 (k : Int) ∧ Hid (BagAt wr w1.heap.size v Q) ∧ Hid (Q.map (·.2) = Keys (K.take k)) ∧ Hid (Below w1.heap.size w1 wr)) (fun _ t _ => K.length - (intOf t).toNat)
    case atStart => exact ⟨0, _, [], rfl, Nat.zero_le _, rfl, Lib.hid (BagAt.nil _ _), Lib.hid rfl, Lib.hid (Below.refl _ _)⟩
    case round =>
      obtain ⟨k, v, Q, hv, hk, rfl, hown, hq, hbel⟩ := hrel
      subst hv
      have hQl : Q.length = k := by have := congrArg List.length hq.out; unfold Keys at this; simp at this; omega
      by_cases hlt : k < K.length
      · obtain ⟨⟨A', c', e0, _, _, h4⟩, h5⟩ := HX1.out.below (hbel.out.mono HBS.out)
        obtain ⟨e1, e2, e3⟩ := Value.slice.inj e0
        subst e1 e3
        obtain ⟨b, o, rfl, hb, hc⟩ := h4 (by rintro rfl; simp at hlt)
        have hc0 := hc k _ (List.getElem?_eq_getElem hlt)
        have hby := h5 _ (List.getElem_mem hlt)
        have hkt := keys_take hlt
        obtain ⟨⟨pd, ys⟩, hpe⟩ : ∃ p, p = K[k] := ⟨_, rfl⟩
        rw [← hpe] at hc0 hby hkt
        dsimp only at hc0 hby hkt
        obtain ⟨Ad, cd, rfl⟩ := hby.form
        have hsh := shorts_any B _ ys 40 (by omega) wr hby
        obtain ⟨zs, hz⟩ : ∃ zs, zs = ys.take 40 := ⟨_, rfl⟩
        have hzl : zs.length ≤ 40 := by rw [hz]; exact List.length_take_le _ _
        rw [← hz] at hsh hkt
        have HSH := Lib.hid hsh
        have HKT := Lib.hid hkt
        have HQL := Lib.hid hQl
        have hlt1 := hlt
        rw [HKL.out] at hlt1
        have hdk : decide (k < _) = true := decide_eq_true hlt1
        clear hc h4 h5 e0 e2 hby hkt hpe hsh hz
        go_wp2_with fail
        refine HSH.out.mono ?_
        rintro e w2 ⟨⟨y2, rfl, hy2⟩, rfl⟩
        obtain ⟨A2, c2, rfl⟩ := hy2.form
        have HCP := Lib.hid (rcopy_any B _ zs wr hy2 (by omega))
        clear hy2
        go_wp2_with fail
        refine HCP.out.mono ?_
        intro e w3 hfr
        obtain ⟨u3, rfl, hown3, hb3⟩ := fresh_v hfr
        obtain ⟨A3, c3, rfl⟩ := own_form hown3
        have hbag3 := (hown.out.below hb3)
        have hw3 : w1.heap.size ≤ w3.heap.size := Nat.le_trans hbel.out.size hb3.size
        have OWN3 := Lib.hid (World.ownsRow.alloc hbag3.1 (.cells #[.slice A3 zs.length c3] 22))
        have BAG3 := Lib.hid (hbag3.below (byt_below w3 (.cells #[.slice A3 zs.length c3] 22) (Nat.le_refl _)))
        have OU3 := Lib.hid (World.ownsRow.alloc (own_base hown3 hbel.out.size) (.cells #[.slice A3 zs.length c3] 22))
        have BEL3 := Lib.hid ((hbel.out.trans (hb3.mono hbel.out.size)).alloc hw3 (.cells #[.slice A3 zs.length c3] 22))
        have CELL := Lib.hid (cell_of_row _ w3.heap.size 0 _ _ _ (heap_alloc_new w3 (.cells #[.slice A3 zs.length c3] 22)))
        have HW3 := Lib.hid hw3
        clear hbag3 hfr hown3 hb3 hw3
        go_wp2_with (at_builtin; refine wpList_append_bag rfl (.tmp 27) (.tmp 31) rfl w1.heap.size _ Q.length _ rfl OWN3.out w3.heap.size (.slice A3 zs.length c3) rfl CELL.out rfl (by omega) (by have := HW3.out; simp; omega) ?_; intro v5 w5 hown5 hg5)
        have hbag5 := BAG3.out.snoc (p := (.slice A3 zs.length c3, zs)) OU3.out hown5 rfl hg5
        have hb5 : Below w1.heap.size w1 w5 := BEL3.out.grown hg5 (by have := HW3.out; simp; omega) (fun j hj => (World.ownsRow.lt OWN3.out j hj).1)
        have hq5 : (Q ++ [((.slice A3 zs.length c3 : Value), zs)]).map (·.2) = Keys (K.take (k + 1)) := by rw [List.map_append, hq.out, HKT.out]; rfl
        have HBAG5 := Lib.hid hbag5
        have HB5 := Lib.hid hb5
        have HQ5 := Lib.hid hq5
        clear hown5 hg5 hbag5 hb5 hq5
        go_roundw
        case rel => exact ⟨k + 1, _, _, rfl, by omega, by go_num, HBAG5, HQ5, HB5⟩
        case measure => have := HKL.out; simp [intOf]; omega
      · obtain rfl : k = K.length := by omega
        have hq2 := hq.out
        rw [List.take_length] at hq2
        have hq40 : ∀ p ∈ Q, p.2.length ≤ 40 := fun p hp => by
          have : p.2 ∈ Q.map (·.2) := List.mem_map.2 ⟨p, hp, rfl⟩
          rw [hq2] at this
          unfold Keys at this
          obtain ⟨q, _, e⟩ := List.mem_map.1 this
          rw [← e]
          exact List.length_take_le _ _
        have hbr := hown.out.toR
        obtain ⟨A5, c5, rfl⟩ := hbr.form
        have HQ40 := Lib.hid hq40
        have HBR := Lib.hid hbr
        have hQ20 : Q.length ≤ 20 := by rw [hQl, HKL.out]; exact hn20
        have HQ20 := Lib.hid hQ20
        obtain ⟨ks, hks⟩ : ∃ ks, ks = Q.map (·.2) := ⟨_, rfl⟩
        have hksl : ks.length = Q.length := by rw [hks, List.length_map]
        have HP1 := Lib.hid (payMulti_any m _ _ Q wr h0 h1 hbr (Nat.le_refl _) hQ20 hq40)
        have HP2 := Lib.hid (fun W (hb : Below wr.heap.size wr W) => rpayMulti_any m wr.heap.size _ Q W h0 h1 (hbr.below hb) hb.size hQ20 hq40)
        rw [← hks] at HP1 HP2
        have HKS := Lib.hid hks
        have HKSL := Lib.hid hksl
        have hnd : decide (K.length < K.length) = false := decide_eq_false (by omega)
        have hkn := HKL.out
        clear hq2 hq40 hbr hks hksl hlt hq hQ20 hQl
        rw [hkn]
        go_wp2_with fail
        refine HP1.out.mono ?_
        rintro e w2 ⟨A8, c8, rfl, by8, hb8⟩
        obtain ⟨E, hE⟩ : ∃ E, E = mE m ks := ⟨_, rfl⟩
        obtain ⟨F, hF⟩ : ∃ F, F = mF m ks := ⟨_, rfl⟩
        rw [← hF] at by8
        rw [← hF, ← hE]
        have R8 := Lib.hid by8
        have B8 := Lib.hid hb8
        have HEF := Lib.hid (And.intro hE hF)
        have hE3 := mE_all m ks
        rw [← hE] at hE3
        clear by8 hb8 hE hF
        go_wp2_with fail
        refine (HP2.out w2 B8.out).mono ?_
        rintro e w3 ⟨A9, c9, rfl, by9, hb9⟩
        rw [← HEF.out.2] at by9
        rw [← HEF.out.1, ← HEF.out.2]
        have R9 := Lib.hid by9
        have Q9 := Lib.hid (R8.out.below hb9)
        have B9 := Lib.hid (B8.out.trans (hb9.mono B8.out.size))
        clear by9 hb9
        go_wp2_with fail
        refine (equal_yes _ _ _ _ _ _ w3 Q9.out R9.out rfl).mono ?_
        rintro e w4 ⟨rfl, rfl⟩
        rcases hE3 with rfl | rfl | rfl
        · obtain ⟨hF, m1, m2, m3, m4⟩ := mF_of HEF.out.1.symm
          rw [← HEF.out.2] at hF
          have hq := Q9.out
          rw [hF] at hq
          have hkd := kind_multi _ _ m ks w3 hq m4 m1 m2 m3
          rw [← hF] at hkd
          have HKD := Lib.hid hkd
          have m16 : m ≤ 16 := by omega
          have hw8 : IntKind.u8.wrap m = m := by rw [IntKind.wrap_u8]; omega
          have hQne : Q ≠ [] := by rintro rfl; have := HKSL.out; simp at this; rw [this] at m2; simp at m2; omega
          have HQNE := Lib.hid hQne
          have M1 := Lib.hid m1
          clear hq hkd hF m4 m2 m3 hQne
          go_wp2_with fail
          refine HKD.out.mono ?_
          rintro e w5 ⟨v5, P, rfl, bag5, hp5, hb5⟩
          obtain ⟨A10, c10, rfl⟩ := bag5.form
          have hmk : Byt (w5.alloc (.cells #[.int .u8 m] 5)) (w5.heap.size + 1) (.slice (some ⟨w5.heap.size, 0, none⟩) 1 1) [b8 m] := Byt.made w5 5 [.int .u8 m] [b8 m] (by rw [List.map_cons, bv_b8_of (by have := M1.out; omega) (by omega)]; rfl) (by unfold maxLen; simp)
          have hown6 : ((w5.alloc (.cells #[.int .u8 m] 5)).alloc (.cells #[.slice (some ⟨w5.heap.size, 0, none⟩) 1 1] 22)).ownsRow (w5.heap.size + 1) 22 1 (.slice (some ⟨(w5.alloc (.cells #[.int .u8 m] 5)).heap.size, 0, none⟩) 1 1) 1 [.slice (some ⟨w5.heap.size, 0, none⟩) 1 1] :=
            ⟨by simp, .inr ⟨(w5.alloc (.cells #[.int .u8 m] 5)).heap.size, 1, _, rfl, by simp, heap_alloc_new _ _, Nat.le_refl _, by unfold maxLen; omega, rfl, rfl⟩⟩
          rw [World.size_alloc] at hown6
          have hbe6 : Below (w5.heap.size + 1) (w5.alloc (.cells #[.int .u8 m] 5)) ((w5.alloc (.cells #[.int .u8 m] 5)).alloc (.cells #[.slice (some ⟨w5.heap.size, 0, none⟩) 1 1] 22)) := byt_below _ _ (by simp)
          have hwr5 : Below wr.heap.size wr w5 := B9.out.trans (hb5.mono B9.out.size)
          have hbr6 := ((HBR.out.below hwr5).below (byt_below w5 (.cells #[.int .u8 m] 5) hwr5.size)).below (byt_below (w5.alloc (.cells #[.int .u8 m] 5)) (.cells #[.slice (some ⟨w5.heap.size, 0, none⟩) 1 1] 22) (by have := hwr5.size; simp; omega))
          have hone : ∀ p ∈ Q, p.1.oneCell' = true := fun p hp => by obtain ⟨Ax, cx, ex⟩ := (hbr6.2 p hp).form; rw [ex]; rfl
          have OWN6 := Lib.hid hown6
          have BE6 := Lib.hid hbe6
          have BR6 := Lib.hid hbr6
          have ONE := Lib.hid hone
          have BAG5 := Lib.hid bag5
          have HP5 := Lib.hid hp5
          have MK := Lib.hid hmk
          have BT5 := Lib.hid (HB1.out.trans ((hbel.out.trans (hwr5.mono hbel.out.size)).mono HB1.out.size))
          have hp5l : P.length = Q.length + 1 := by have := congrArg List.length hp5; rw [List.length_map, List.length_cons, HKSL.out] at this; exact this
          have HP5L := Lib.hid hp5l
          have WR5 := Lib.hid hwr5
          clear hmk hown6 hbe6 hbr6 hone bag5 hp5 hb5 hwr5 hp5l HKD
          go_wp2_with (at_builtin; refine wpList_append_bags (by rfl) (.tmp 69) (.tmp 70) rfl (w5.heap.size + 1) _ 1 _ rfl OWN6.out _ _ Q rfl BR6.out HQNE.out ONE.out (by have := HQ20.out; omega) (by simp) ?_; intro v7 w7 hown7 hg7)
          have hb7 := BE6.out.grown hg7 (by simp) (fun j hj => (World.ownsRow.lt OWN6.out j hj).1)
          have hb57 : Below w5.heap.size w5 w7 := (byt_below w5 (.cells #[.int .u8 m] 5) (Nat.le_refl _)).trans (hb7.mono (by omega))
          have hl7 : (((.slice (some ⟨w5.heap.size, 0, none⟩) 1 1 : Value), [b8 m]) :: Q).length = 1 + Q.length := by rw [List.length_cons, Nat.add_comm]
          have hbag7 : BagR w7 w7.heap.size v7 (((.slice (some ⟨w5.heap.size, 0, none⟩) 1 1 : Value), [b8 m]) :: Q) := by
            refine row_bag (base := w5.heap.size + 1) (by rw [hl7]; exact hown7) ?_
            intro p hp
            rcases List.mem_cons.1 hp with rfl | hp
            · exact (MK.out.below hb7).more (by have := hb7.size; simp at this; omega)
            · exact (((HBR.out.2 p hp).below (WR5.out.trans (hb57.mono WR5.out.size)))).more (by have := WR5.out.size; have := hb57.size; omega)
          obtain ⟨A11, c11, rfl⟩ := hbag7.form
          have hsame := same_yes _ _ _ _ P _ w7 (BAG5.out.below hb57) hbag7 (by rw [HP5.out, List.map_cons, ← HKS.out])
          rw [hl7] at hsame ⊢
          have HSAME := Lib.hid hsame
          have HB57 := Lib.hid hb57
          clear hown7 hg7 hb7 hb57 hl7 hbag7 hsame
          go_wp2_with fail
          refine HSAME.out.mono ?_
          rintro e w8 ⟨rfl, hb8⟩
          have HB8 := Lib.hid (HB57.out.trans (hb8.mono HB57.out.size))
          clear hb8
          go_wp2_with fail
          go_ret
          exact ⟨rfl, BT5.out.trans (HB8.out.mono BT5.out.size)⟩
        · go_wp2_with fail
          go_ret
          exact ⟨rfl, HB1.out.trans ((hbel.out.trans (B9.out.mono hbel.out.size)).mono HB1.out.size)⟩
        · go_wp2_with fail
          go_ret
          exact ⟨rfl, HB1.out.trans ((hbel.out.trans (B9.out.mono hbel.out.size)).mono HB1.out.size)⟩
end Go.Proofs.Ytpfobbhoahnebaa
