/-
  Texts joined: HkPureB, HkLawP, HkOpenP. Conditions: those of each.
-/
import Derived.Test.YtfkpdbmgiefnfaaDoorP30
import Derived.Test.YtfkpdbmgiefnfaaDoorP28
import Derived.Test.YtfkpdbmgiefnfaaDoorP31
import Derived.Test.YtfkpdbmgiefnfaaDoorP32
import Derived.Stop.LaidErr
import Derived.Lay
/-
  A path's text, read again: the steps, or too many. Conditions: steps of 32 bits.
-/
namespace Go.Proofs.YtfkpdbmgiefnfaaDoor.Hk
open Go.RowKit

theorem dig_chr {d : Nat} (h : d < 10) : dB (UInt8.ofNat (48 + d)) = true ∧ (UInt8.ofNat (48 + d)).toNat = 48 + d := by
  have e : (UInt8.ofNat (48 + d)).toNat = 48 + d := by rw [UInt8.toNat_ofNat']; omega
  refine ⟨?_, e⟩
  unfold dB
  rw [e]
  simp
  omega
theorem dec_says : ∀ n : Nat, (Lib.decDigits n).all dB = true ∧ valB (Lib.decDigits n) = n ∧ Lib.decDigits n ≠ [] ∧ (1 ≤ n → (Lib.decDigits n).head? ≠ some 48)
  | n => by
    by_cases hn : n < 10
    · rw [Lib.decDigits_one hn]
      obtain ⟨h1, h2⟩ := dig_chr hn
      refine ⟨by rw [List.all_cons, h1]; rfl, ?_, by simp, fun h => ?_⟩
      · show 0 * 10 + ((UInt8.ofNat (48 + n)).toNat - 48) = n
        omega
      · intro hc
        have := congrArg (Option.map UInt8.toNat) hc
        simp only [List.head?_cons, Option.map_some, h2] at this
        have h48 : (48 : UInt8).toNat = 48 := rfl
        rw [h48] at this
        simp at this
        omega
    · have hd : Lib.decDigits n = Lib.decDigits (n / 10) ++ [UInt8.ofNat (48 + n % 10)] := by
        conv => lhs; rw [Lib.decDigits]
        rw [dif_neg hn]
      obtain ⟨i1, i2, i3, i4⟩ := dec_says (n / 10)
      obtain ⟨h1, h2⟩ := dig_chr (show n % 10 < 10 by omega)
      rw [hd]
      refine ⟨by rw [List.all_append, i1, List.all_cons, h1]; rfl, by rw [valB_snoc, i2, h2]; omega, by simp, fun _ => ?_⟩
      have := i4 (by omega)
      cases hx : Lib.decDigits (n / 10) with
      | nil => exact absurd hx i3
      | cons a l => rw [hx] at this; simpa using this
termination_by n => n
decreasing_by omega
theorem dec_ok (n : Nat) : digOk (Lib.decDigits n) = true := by
  obtain ⟨_, _, h3, h4⟩ := dec_says n
  by_cases hn : n = 0
  · subst hn
    rw [Lib.decDigits_one (by omega)]
    rfl
  · have := h4 (by omega)
    unfold digOk
    cases hx : Lib.decDigits n with
    | nil => exact absurd hx h3
    | cons a l =>
      rw [hx] at this
      have hb : ((a :: l).head? != some 48) = true := by simpa using this
      rw [hb]
      simp
/-- A step's text. -/
def txB (p : Int) : List UInt8 := Lib.decDigits (p % 2147483648).toNat ++ (if 2147483648 ≤ p then [39] else [])
theorem stepB_tx (p : Int) : stepB p = 47 :: txB p := rfl
theorem txB_says {p : Int} (h0 : 0 ≤ p) (h1 : p < 4294967296) : stepE (txB p) = 0 ∧ (stepN (txB p) : Int) = p ∧ ∀ c ∈ txB p, c ≠ 47 := by
  obtain ⟨d, hd⟩ : ∃ d, d = (p % 2147483648).toNat := ⟨_, rfl⟩
  obtain ⟨a1, a2, _, _⟩ := dec_says d
  have a5 := dec_ok d
  have hlt : valB (Lib.decDigits d) < 2147483648 := by rw [a2, hd]; omega
  have hn : ∀ c ∈ Lib.decDigits d, c ≠ 47 := fun c hc => dB_not47 (List.all_eq_true.1 a1 c hc)
  unfold txB
  rw [← hd]
  by_cases h : 2147483648 ≤ p
  · rw [if_pos h]
    obtain ⟨b1, b2⟩ := step_mark (d := Lib.decDigits d) (c := 39) a1 (by decide)
    refine ⟨by rw [b1, a5, if_pos hlt]; rfl, by rw [b2 a5 hlt, a2, hd]; omega, fun c hc => ?_⟩
    rcases List.mem_append.1 hc with hc | hc
    · exact hn c hc
    · simp at hc; rw [hc]; decide
  · rw [if_neg h, List.append_nil]
    obtain ⟨b1, b2⟩ := step_plain (d := Lib.decDigits d) a1
    exact ⟨by rw [b1, a5, if_pos hlt]; rfl, by rw [b2 a5 hlt, a2, hd]; omega, hn⟩
theorem parts_path : ∀ (ps : List Int) (p : Int), (∀ q ∈ p :: ps, 0 ≤ q ∧ q < 4294967296) → partsOf (txB p ++ ps.flatMap stepB) = (p :: ps).map txB
  | [], p, h => by
    rw [List.flatMap_nil, List.append_nil]
    exact partsOf_no (txB_says (h p (by simp)).1 (h p (by simp)).2).2.2
  | q :: ps, p, h => by
    rw [List.flatMap_cons, stepB_tx, List.cons_append, partsOf_cut (txB_says (h p (by simp)).1 (h p (by simp)).2).2.2, parts_path ps q (fun r hr => h r (by simp at hr ⊢; exact Or.inr hr))]
    rfl
theorem parse_path (ps : List Int) (h : ∀ p ∈ ps, 0 ≤ p ∧ p < 4294967296) : parseP (pathB ps) = if ps.length ≤ 255 then (ps, 0) else ([], 2) := by
  cases ps with
  | nil => rfl
  | cons p ps =>
    have e : pathB (p :: ps) = 109 :: 47 :: (txB p ++ ps.flatMap stepB) := by unfold pathB; rw [List.flatMap_cons, stepB_tx]; rfl
    have hne : pathB (p :: ps) ≠ [109] := by rw [e]; simp
    have ht : trimM (pathB (p :: ps)) = txB p ++ ps.flatMap stepB := by rw [e]; rfl
    unfold parseP
    rw [if_neg hne, ht, parts_path ps p h]
    have h3 : ∀ x ∈ (p :: ps).map txB, stepE x = 0 := fun x hx => by
      obtain ⟨q, hq, rfl⟩ := List.mem_map.1 hx
      exact (txB_says (h q hq).1 (h q hq).2).1
    have hm : ((p :: ps).map txB).map (fun x => (stepN x : Int)) = p :: ps := by
      rw [List.map_map]
      conv => rhs; rw [← List.map_id (p :: ps)]
      exact List.map_congr_left fun q hq => (txB_says (h q hq).1 (h q hq).2).2.1
    unfold outR
    rw [if_neg (by rintro ⟨x, hx, hc⟩; rw [h3 x hx] at hc; exact absurd hc (by decide)), hm, List.length_map]
    by_cases hl : (p :: ps).length ≤ 255
    · rw [if_pos hl, if_neg (fun h => h.elim (fun ⟨x, hx, hc⟩ => hc (h3 x hx)) (fun hc => by omega))]
    · rw [if_neg hl, if_pos (Or.inr (by omega))]
end Go.Proofs.YtfkpdbmgiefnfaaDoor.Hk

/-
  HdkeyPaths, walked: it returns true. Conditions: the roots, curve.order and the powers of ten are laid, strconv.ErrRange holds an error or none; steps of 32 bits.
-/
namespace Go.Proofs.YtfkpdbmgiefnfaaDoor.Hk
open Go.RowKit

theorem bt {w a c : World} (h : Below w.heap.size w a) (k : Below a.heap.size a c) : Below w.heap.size w c := h.trans (k.mono h.size)
theorem ints_at {w : World} {B n c : Nat} {A : Option Addr} {xs : List Int} (h : Ints .u32 w B (.slice A n c) xs) {i : Nat} {p : Int} (hi : xs[i]? = some p) : ∃ b o, A = some ⟨b, o, none⟩ ∧ b < B ∧ w.cell? ⟨b, o + i, none⟩ = some (.int .u32 p) := by
  obtain ⟨A', c', e, _, _, _, hc⟩ := h
  injection e with e1 _ _
  subst e1
  obtain ⟨b, o, h1, h2, h3⟩ := hc (by rintro rfl; simp at hi)
  exact ⟨b, o, h1, h2, h3 i p hi⟩
theorem own_ints {w : World} {base : Nat} {v : Value} {xs : List Int} (h : w.ownsRow base 27 1 v xs.length (xs.map (Value.int .u32))) : Ints .u32 w w.heap.size v xs := Ints.of_own h

set_option maxRecDepth 100000 in
set_option maxHeartbeats 25600000 in
theorem paths_law (B : Nat) (v : Value) (ps : List Int) (s : ByteArray) (w : World) (hr : Roots w) (ho : OrdIs w) (ht : Lib.TabIs Tryd.prog w "internal/strconv.uint64pow10" .u64 Lib.pow10Tab) (he : ErrOk w) (hx : Ints .u32 w B v ps) (hB : B ≤ w.heap.size) (hp : ∀ p ∈ ps, 0 ≤ p ∧ p < 4294967296) :
    Calls Tryd.prog 4 #[v, .string s] w fun e w' => e = .returned (.bool true) ∧ Below w.heap.size w w' := by
  have AW := Lib.hid (awake_any w hr ho ht)
  have TB := Lib.hid (Lib.tabBelow_of_tabIs ht)
  have HE := Lib.hid he
  have HX := Lib.hid hx
  have HP := Lib.hid hp
  have HBB := Lib.hid hB
  have hx0 := hx
  obtain ⟨A, c, rfl, hlc, hcm, -, -⟩ := hx0
  clear hr ho ht he hx hp hB
  go_enter Tryd.func4, Tryd.ntmps4
  go_wp2_with fail
  refine AW.out.mono ?_
  rintro e w1 ⟨rfl, hb1⟩
  have B1 := Lib.hid hb1
  have T1 := Lib.hid (TB.out.on hb1).here
  have E1 := Lib.hid (HE.out.below hb1 HE.out.lt)
  clear hb1 AW
  by_cases h300 : 300 < ps.length
  · have g300 : decide ((300 : Int) < (ps.length : Int)) = true := decide_eq_true (by omega)
    obtain ⟨qs, hqs⟩ : ∃ qs, qs = ps.take 300 := ⟨_, rfl⟩
    have hql : qs.length = 300 := by rw [hqs, List.length_take]; omega
    have IQ := Lib.hid (show Ints .u32 w B (.slice A 300 c) qs by rw [hqs]; exact HX.out.first 300 (by omega))
    have HQ := Lib.hid (show ∀ p ∈ qs, 0 ≤ p ∧ p < 4294967296 from fun p h => HP.out p (by rw [hqs] at h; exact List.mem_of_mem_take h))
    have hc300 : (300 : Int) ≤ (c : Int) := by omega
    have HQL := Lib.hid hql
    have PP := parse_path qs HQ.out
    rw [if_neg (by omega)] at PP
    have hB1 : B ≤ w1.heap.size := by have := HBB.out; have := B1.out.size; omega
    have I1 := Lib.hid (IQ.out.keep (fun b o hb => B1.out.cell (p := ⟨b, o, none⟩) (by show b < w.heap.size; have := HBB.out; omega)))
    have PA := Lib.hid (path_any B _ qs w1 I1.out hB1 HQ.out (by omega) T1.out)
    have RA := Lib.hid (fun W (hI : Ints .u32 W B (.slice A 300 c) qs) (hBW : B ≤ W.heap.size) => rpath_any B _ qs W hI hBW HQ.out (by omega))
    obtain ⟨PB, hPB⟩ : ∃ PB : ByteArray, PB = ⟨(pathB qs).toArray⟩ := ⟨_, rfl⟩
    have hPs : PB.size ≤ 100000 := by rw [← blen, hPB, ba_list]; have := pathB_len qs; omega
    have PP2 := PP
    rw [← ba_list (pathB qs), ← hPB] at PP2
    have PR := Lib.hid (fun W he => parse_any PB W hPs he)
    rw [PP2] at PR
    rw [← hPB] at PA RA
    clear hqs hql PP PP2 hPB hPs
    go_wp2_with fail
    refine PA.out.mono ?_
    rintro e w2 ⟨rfl, hb2⟩
    have B2 := Lib.hid (bt B1.out hb2)
    have E2 := Lib.hid (E1.out.below hb2 E1.out.lt)
    clear hb2 PA
    go_wp2_with fail
    refine (PR.out _ E2.out).mono ?_
    rintro e w3 ⟨v3, rfl, hown3, hb3⟩
    have B3 := Lib.hid (bt B2.out hb3)
    have E3 := Lib.hid (E2.out.below hb3 E2.out.lt)
    obtain ⟨A3, c3, rfl⟩ := own_form hown3
    have O3 := Lib.hid hown3
    clear hown3 hb3 PR
    go_wp2_with fail
    refine (RA.out _ (IQ.out.keep (fun b o hb => B3.out.cell (p := ⟨b, o, none⟩) (by show b < w.heap.size; have := HBB.out; omega))) (by have := HBB.out; have := B3.out.size; omega)).mono ?_
    rintro e w4 ⟨rfl, hb4⟩
    have B4 := Lib.hid (bt B3.out hb4)
    have E4 := Lib.hid (E3.out.below hb4 E3.out.lt)
    have I4 := Lib.hid (IQ.out.keep (fun b o hb => B4.out.cell (p := ⟨b, o, none⟩) (by show b < w.heap.size; have := HBB.out; omega)))
    have I3 := Lib.hid (own_ints (row_later O3.out hb4))
    have hB4 : B ≤ w4.heap.size := by have := HBB.out; have := B4.out.size; omega
    have I4b := Lib.hid (show Ints .u32 w4 w4.heap.size _ qs from by obtain ⟨a1, a2, a3, a4, a5, a6, a7⟩ := I4.out; exact ⟨a1, a2, a3, a4, a5, a6, fun h => by obtain ⟨b, o, q1, q2, q3⟩ := a7 h; exact ⟨b, o, q1, by omega, q3⟩⟩)
    clear hb4 RA O3 I4
    go_wp2_with fail
    have Q0 := Lib.hid (show ([] : List Int).length = 0 from rfl)
    go_loopw [49] (fun vk wr => ∃ k : Nat, k ≤ 0 ∧ vk = .int .i64 (k : Int) ∧ Below w4.heap.size w4 wr) (fun vk _ => 0 - (intOf vk).toNat)
    case atStart => exact ⟨0, Nat.zero_le _, rfl, Below.refl _ _⟩
    case round =>
      obtain ⟨k, hk, rfl, hbel⟩ := hrel
      have HBEL := Lib.hid hbel
      by_cases hin : k < 0
      · exact absurd hin (Nat.not_lt_zero _)
      · obtain rfl : k = 0 := by omega
        clear hbel hin hk
        have B5 := Lib.hid (bt B4.out HBEL.out)
        have E5 := Lib.hid (E4.out.below HBEL.out E4.out.lt)
        clear HBEL I3 I4b
        by_cases h2000 : 2000 < s.size
        · have g2000 : decide ((2000 : Int) < (s.size : Int)) = true := decide_eq_true (by omega)
          have hSs : (s.extract 0 2000).size ≤ 100000 := by rw [ByteArray.size_extract]; omega
          go_wp2_with fail
          refine (parse_any _ _ hSs E5.out).mono ?_
          rintro e w6 ⟨v6, rfl, hown6, hb6⟩
          have B6 := Lib.hid (bt B5.out hb6)
          have SA := Lib.hid (fun W => rparse_any (s.extract 0 2000) W hSs)
          obtain ⟨er, her⟩ : ∃ er, er = (parseP (s.extract 0 2000).data.toList).2 := ⟨_, rfl⟩
          obtain ⟨xs, hxs⟩ : ∃ xs, xs = (parseP (s.extract 0 2000).data.toList).1 := ⟨_, rfl⟩
          rw [← her, ← hxs] at SA
          rw [← her]
          rw [← hxs] at hown6
          clear her hxs hb6
          obtain ⟨A6, c6, rfl⟩ := own_form hown6
          have O6 := Lib.hid hown6
          clear hown6
          go_wp2_with fail
          refine (SA.out _).mono ?_
          rintro e w7 ⟨v7, rfl, hown7, hb7⟩
          obtain ⟨A7, c7, rfl⟩ := own_form hown7
          have I6 := Lib.hid (own_ints (row_later O6.out hb7))
          have I7 := Lib.hid (own_ints hown7)
          have B7 := Lib.hid (bt B6.out hb7)
          have ND := Lib.hid (show xs.length = xs.length from rfl)
          obtain ⟨nd, hnd⟩ : ∃ nd, nd = xs.length := ⟨_, rfl⟩
          rw [← hnd] at I6 I7
          try rw [← hnd]
          have NX := Lib.hid hnd
          have hndm : nd ≤ maxLen := by rw [hnd]; exact I6.out.len
          unfold maxLen at hndm
          clear hown7 hb7 hnd ND O6 SA
          go_wp2_with fail
          go_loopw [89] (fun vk wr => ∃ k : Nat, k ≤ nd ∧ vk = .int .i64 (k : Int) ∧ Below w7.heap.size w7 wr) (fun vk _ => nd - (intOf vk).toNat)
          case atStart => exact ⟨0, Nat.zero_le _, rfl, Below.refl _ _⟩
          case round =>
            obtain ⟨k, hk, rfl, hbel⟩ := hrel
            have HBEL := Lib.hid hbel
            by_cases hin : k < nd
            · obtain ⟨p, hpi⟩ : ∃ p, xs[k]? = some p := ⟨_, List.getElem?_eq_getElem (by first | exact hin | (rw [NX.out]; exact hin) | (rw [← NX.out]; exact hin))⟩
              obtain ⟨b1, o1, rfl, hb1, hc1⟩ := ints_at I6.out hpi
              obtain ⟨b2, o2, e2, hb2, hc2⟩ := ints_at I7.out ((fun k p h => h) k p hpi)
              try subst e2
              have d1 := (hbel.cell (p := ⟨b1, o1 + k, none⟩) hb1).trans hc1
              have d2 := (hbel.cell (p := ⟨b2, o2 + k, none⟩) hb2).trans hc2
              clear hb1 hb2 hc1 hc2 hpi hbel
              go_wp2_with fail
              go_region
              go_wp2
              go_roundw
              case rel => exact ⟨k + 1, by omega, by go_num, HBEL.out.drew⟩
              case measure => simp [intOf]; omega
            · obtain rfl : k = nd := by omega
              clear hbel hin hk
              go_wp2_with fail
              go_ret
              exact ⟨rfl, bt B7.out HBEL.out⟩
        · have g2000 : decide ((2000 : Int) < (s.size : Int)) = false := decide_eq_false (by omega)
          have hSs : s.size ≤ 100000 := by omega
          go_wp2_with fail
          refine (parse_any _ _ hSs E5.out).mono ?_
          rintro e w6 ⟨v6, rfl, hown6, hb6⟩
          have B6 := Lib.hid (bt B5.out hb6)
          have SA := Lib.hid (fun W => rparse_any s W hSs)
          obtain ⟨er, her⟩ : ∃ er, er = (parseP s.data.toList).2 := ⟨_, rfl⟩
          obtain ⟨xs, hxs⟩ : ∃ xs, xs = (parseP s.data.toList).1 := ⟨_, rfl⟩
          rw [← her, ← hxs] at SA
          rw [← her]
          rw [← hxs] at hown6
          clear her hxs hb6
          obtain ⟨A6, c6, rfl⟩ := own_form hown6
          have O6 := Lib.hid hown6
          clear hown6
          go_wp2_with fail
          refine (SA.out _).mono ?_
          rintro e w7 ⟨v7, rfl, hown7, hb7⟩
          obtain ⟨A7, c7, rfl⟩ := own_form hown7
          have I6 := Lib.hid (own_ints (row_later O6.out hb7))
          have I7 := Lib.hid (own_ints hown7)
          have B7 := Lib.hid (bt B6.out hb7)
          have ND := Lib.hid (show xs.length = xs.length from rfl)
          obtain ⟨nd, hnd⟩ : ∃ nd, nd = xs.length := ⟨_, rfl⟩
          rw [← hnd] at I6 I7
          try rw [← hnd]
          have NX := Lib.hid hnd
          have hndm : nd ≤ maxLen := by rw [hnd]; exact I6.out.len
          unfold maxLen at hndm
          clear hown7 hb7 hnd ND O6 SA
          go_wp2_with fail
          go_loopw [89] (fun vk wr => ∃ k : Nat, k ≤ nd ∧ vk = .int .i64 (k : Int) ∧ Below w7.heap.size w7 wr) (fun vk _ => nd - (intOf vk).toNat)
          case atStart => exact ⟨0, Nat.zero_le _, rfl, Below.refl _ _⟩
          case round =>
            obtain ⟨k, hk, rfl, hbel⟩ := hrel
            have HBEL := Lib.hid hbel
            by_cases hin : k < nd
            · obtain ⟨p, hpi⟩ : ∃ p, xs[k]? = some p := ⟨_, List.getElem?_eq_getElem (by first | exact hin | (rw [NX.out]; exact hin) | (rw [← NX.out]; exact hin))⟩
              obtain ⟨b1, o1, rfl, hb1, hc1⟩ := ints_at I6.out hpi
              obtain ⟨b2, o2, e2, hb2, hc2⟩ := ints_at I7.out ((fun k p h => h) k p hpi)
              try subst e2
              have d1 := (hbel.cell (p := ⟨b1, o1 + k, none⟩) hb1).trans hc1
              have d2 := (hbel.cell (p := ⟨b2, o2 + k, none⟩) hb2).trans hc2
              clear hb1 hb2 hc1 hc2 hpi hbel
              go_wp2_with fail
              go_region
              go_wp2
              go_roundw
              case rel => exact ⟨k + 1, by omega, by go_num, HBEL.out.drew⟩
              case measure => simp [intOf]; omega
            · obtain rfl : k = nd := by omega
              clear hbel hin hk
              go_wp2_with fail
              go_ret
              exact ⟨rfl, bt B7.out HBEL.out⟩
  · have g300 : decide ((300 : Int) < (ps.length : Int)) = false := decide_eq_false (by omega)
    by_cases h255 : ps.length ≤ 255
    · skip
      obtain ⟨qs, hqs⟩ : ∃ qs, qs = ps := ⟨_, rfl⟩
      have hql : qs.length = ps.length := by rw [hqs]
      have IQ := Lib.hid (show Ints .u32 w B (.slice A ps.length c) qs by rw [hqs]; exact HX.out)
      have HQ := Lib.hid (show ∀ p ∈ qs, 0 ≤ p ∧ p < 4294967296 by rw [hqs]; exact HP.out)
      have HQL := Lib.hid hql
      have PP := parse_path qs HQ.out
      rw [if_pos (by omega)] at PP
      have g255 : decide ((ps.length : Int) ≤ 255) = true := decide_eq_true (by omega)
      have hB1 : B ≤ w1.heap.size := by have := HBB.out; have := B1.out.size; omega
      have I1 := Lib.hid (IQ.out.keep (fun b o hb => B1.out.cell (p := ⟨b, o, none⟩) (by show b < w.heap.size; have := HBB.out; omega)))
      have PA := Lib.hid (path_any B _ qs w1 I1.out hB1 HQ.out (by omega) T1.out)
      have RA := Lib.hid (fun W (hI : Ints .u32 W B (.slice A ps.length c) qs) (hBW : B ≤ W.heap.size) => rpath_any B _ qs W hI hBW HQ.out (by omega))
      obtain ⟨PB, hPB⟩ : ∃ PB : ByteArray, PB = ⟨(pathB qs).toArray⟩ := ⟨_, rfl⟩
      have hPs : PB.size ≤ 100000 := by rw [← blen, hPB, ba_list]; have := pathB_len qs; omega
      have PP2 := PP
      rw [← ba_list (pathB qs), ← hPB] at PP2
      have PR := Lib.hid (fun W he => parse_any PB W hPs he)
      rw [PP2] at PR
      rw [← hPB] at PA RA
      clear hqs hql PP PP2 hPB hPs
      go_wp2_with fail
      refine PA.out.mono ?_
      rintro e w2 ⟨rfl, hb2⟩
      have B2 := Lib.hid (bt B1.out hb2)
      have E2 := Lib.hid (E1.out.below hb2 E1.out.lt)
      clear hb2 PA
      go_wp2_with fail
      refine (PR.out _ E2.out).mono ?_
      rintro e w3 ⟨v3, rfl, hown3, hb3⟩
      have B3 := Lib.hid (bt B2.out hb3)
      have E3 := Lib.hid (E2.out.below hb3 E2.out.lt)
      obtain ⟨A3, c3, rfl⟩ := own_form hown3
      have O3 := Lib.hid hown3
      clear hown3 hb3 PR
      rw [show (qs, (0 : Int)).1.length = ps.length from HQL.out]
      go_wp2_with fail
      refine (RA.out _ (IQ.out.keep (fun b o hb => B3.out.cell (p := ⟨b, o, none⟩) (by show b < w.heap.size; have := HBB.out; omega))) (by have := HBB.out; have := B3.out.size; omega)).mono ?_
      rintro e w4 ⟨rfl, hb4⟩
      have B4 := Lib.hid (bt B3.out hb4)
      have E4 := Lib.hid (E3.out.below hb4 E3.out.lt)
      have I4 := Lib.hid (IQ.out.keep (fun b o hb => B4.out.cell (p := ⟨b, o, none⟩) (by show b < w.heap.size; have := HBB.out; omega)))
      have I3 := Lib.hid (own_ints (row_later O3.out hb4))
      have hB4 : B ≤ w4.heap.size := by have := HBB.out; have := B4.out.size; omega
      have I4b := Lib.hid (show Ints .u32 w4 w4.heap.size _ qs from by obtain ⟨a1, a2, a3, a4, a5, a6, a7⟩ := I4.out; exact ⟨a1, a2, a3, a4, a5, a6, fun h => by obtain ⟨b, o, q1, q2, q3⟩ := a7 h; exact ⟨b, o, q1, by omega, q3⟩⟩)
      clear hb4 RA O3 I4
      rw [show (qs, (0 : Int)).1.length = ps.length from HQL.out] at I3
      go_wp2_with fail
      go_loopw [49] (fun vk wr => ∃ k : Nat, k ≤ ps.length ∧ vk = .int .i64 (k : Int) ∧ Below w4.heap.size w4 wr) (fun vk _ => ps.length - (intOf vk).toNat)
      case atStart => exact ⟨0, Nat.zero_le _, rfl, Below.refl _ _⟩
      case round =>
        obtain ⟨k, hk, rfl, hbel⟩ := hrel
        have HBEL := Lib.hid hbel
        by_cases hin : k < ps.length
        · obtain ⟨p, hpi⟩ : ∃ p, qs[k]? = some p := ⟨_, List.getElem?_eq_getElem (by first | exact hin | (rw [HQL.out]; exact hin) | (rw [← HQL.out]; exact hin))⟩
          obtain ⟨b1, o1, rfl, hb1, hc1⟩ := ints_at I3.out hpi
          obtain ⟨b2, o2, e2, hb2, hc2⟩ := ints_at I4b.out ((fun k p h => h) k p hpi)
          try subst e2
          have d1 := (hbel.cell (p := ⟨b1, o1 + k, none⟩) hb1).trans hc1
          have d2 := (hbel.cell (p := ⟨b2, o2 + k, none⟩) hb2).trans hc2
          clear hb1 hb2 hc1 hc2 hpi hbel
          go_wp2_with fail
          go_region
          go_wp2
          go_roundw
          case rel => exact ⟨k + 1, by omega, by go_num, HBEL.out.drew⟩
          case measure => simp [intOf]; omega
        · obtain rfl : k = ps.length := by omega
          clear hbel hin hk
          have B5 := Lib.hid (bt B4.out HBEL.out)
          have E5 := Lib.hid (E4.out.below HBEL.out E4.out.lt)
          clear HBEL I3 I4b
          by_cases h2000 : 2000 < s.size
          · have g2000 : decide ((2000 : Int) < (s.size : Int)) = true := decide_eq_true (by omega)
            have hSs : (s.extract 0 2000).size ≤ 100000 := by rw [ByteArray.size_extract]; omega
            go_wp2_with fail
            refine (parse_any _ _ hSs E5.out).mono ?_
            rintro e w6 ⟨v6, rfl, hown6, hb6⟩
            have B6 := Lib.hid (bt B5.out hb6)
            have SA := Lib.hid (fun W => rparse_any (s.extract 0 2000) W hSs)
            obtain ⟨er, her⟩ : ∃ er, er = (parseP (s.extract 0 2000).data.toList).2 := ⟨_, rfl⟩
            obtain ⟨xs, hxs⟩ : ∃ xs, xs = (parseP (s.extract 0 2000).data.toList).1 := ⟨_, rfl⟩
            rw [← her, ← hxs] at SA
            rw [← her]
            rw [← hxs] at hown6
            clear her hxs hb6
            obtain ⟨A6, c6, rfl⟩ := own_form hown6
            have O6 := Lib.hid hown6
            clear hown6
            go_wp2_with fail
            refine (SA.out _).mono ?_
            rintro e w7 ⟨v7, rfl, hown7, hb7⟩
            obtain ⟨A7, c7, rfl⟩ := own_form hown7
            have I6 := Lib.hid (own_ints (row_later O6.out hb7))
            have I7 := Lib.hid (own_ints hown7)
            have B7 := Lib.hid (bt B6.out hb7)
            have ND := Lib.hid (show xs.length = xs.length from rfl)
            obtain ⟨nd, hnd⟩ : ∃ nd, nd = xs.length := ⟨_, rfl⟩
            rw [← hnd] at I6 I7
            try rw [← hnd]
            have NX := Lib.hid hnd
            have hndm : nd ≤ maxLen := by rw [hnd]; exact I6.out.len
            unfold maxLen at hndm
            clear hown7 hb7 hnd ND O6 SA
            go_wp2_with fail
            go_loopw [89] (fun vk wr => ∃ k : Nat, k ≤ nd ∧ vk = .int .i64 (k : Int) ∧ Below w7.heap.size w7 wr) (fun vk _ => nd - (intOf vk).toNat)
            case atStart => exact ⟨0, Nat.zero_le _, rfl, Below.refl _ _⟩
            case round =>
              obtain ⟨k, hk, rfl, hbel⟩ := hrel
              have HBEL := Lib.hid hbel
              by_cases hin : k < nd
              · obtain ⟨p, hpi⟩ : ∃ p, xs[k]? = some p := ⟨_, List.getElem?_eq_getElem (by first | exact hin | (rw [NX.out]; exact hin) | (rw [← NX.out]; exact hin))⟩
                obtain ⟨b1, o1, rfl, hb1, hc1⟩ := ints_at I6.out hpi
                obtain ⟨b2, o2, e2, hb2, hc2⟩ := ints_at I7.out ((fun k p h => h) k p hpi)
                try subst e2
                have d1 := (hbel.cell (p := ⟨b1, o1 + k, none⟩) hb1).trans hc1
                have d2 := (hbel.cell (p := ⟨b2, o2 + k, none⟩) hb2).trans hc2
                clear hb1 hb2 hc1 hc2 hpi hbel
                go_wp2_with fail
                go_region
                go_wp2
                go_roundw
                case rel => exact ⟨k + 1, by omega, by go_num, HBEL.out.drew⟩
                case measure => simp [intOf]; omega
              · obtain rfl : k = nd := by omega
                clear hbel hin hk
                go_wp2_with fail
                go_ret
                exact ⟨rfl, bt B7.out HBEL.out⟩
          · have g2000 : decide ((2000 : Int) < (s.size : Int)) = false := decide_eq_false (by omega)
            have hSs : s.size ≤ 100000 := by omega
            go_wp2_with fail
            refine (parse_any _ _ hSs E5.out).mono ?_
            rintro e w6 ⟨v6, rfl, hown6, hb6⟩
            have B6 := Lib.hid (bt B5.out hb6)
            have SA := Lib.hid (fun W => rparse_any s W hSs)
            obtain ⟨er, her⟩ : ∃ er, er = (parseP s.data.toList).2 := ⟨_, rfl⟩
            obtain ⟨xs, hxs⟩ : ∃ xs, xs = (parseP s.data.toList).1 := ⟨_, rfl⟩
            rw [← her, ← hxs] at SA
            rw [← her]
            rw [← hxs] at hown6
            clear her hxs hb6
            obtain ⟨A6, c6, rfl⟩ := own_form hown6
            have O6 := Lib.hid hown6
            clear hown6
            go_wp2_with fail
            refine (SA.out _).mono ?_
            rintro e w7 ⟨v7, rfl, hown7, hb7⟩
            obtain ⟨A7, c7, rfl⟩ := own_form hown7
            have I6 := Lib.hid (own_ints (row_later O6.out hb7))
            have I7 := Lib.hid (own_ints hown7)
            have B7 := Lib.hid (bt B6.out hb7)
            have ND := Lib.hid (show xs.length = xs.length from rfl)
            obtain ⟨nd, hnd⟩ : ∃ nd, nd = xs.length := ⟨_, rfl⟩
            rw [← hnd] at I6 I7
            try rw [← hnd]
            have NX := Lib.hid hnd
            have hndm : nd ≤ maxLen := by rw [hnd]; exact I6.out.len
            unfold maxLen at hndm
            clear hown7 hb7 hnd ND O6 SA
            go_wp2_with fail
            go_loopw [89] (fun vk wr => ∃ k : Nat, k ≤ nd ∧ vk = .int .i64 (k : Int) ∧ Below w7.heap.size w7 wr) (fun vk _ => nd - (intOf vk).toNat)
            case atStart => exact ⟨0, Nat.zero_le _, rfl, Below.refl _ _⟩
            case round =>
              obtain ⟨k, hk, rfl, hbel⟩ := hrel
              have HBEL := Lib.hid hbel
              by_cases hin : k < nd
              · obtain ⟨p, hpi⟩ : ∃ p, xs[k]? = some p := ⟨_, List.getElem?_eq_getElem (by first | exact hin | (rw [NX.out]; exact hin) | (rw [← NX.out]; exact hin))⟩
                obtain ⟨b1, o1, rfl, hb1, hc1⟩ := ints_at I6.out hpi
                obtain ⟨b2, o2, e2, hb2, hc2⟩ := ints_at I7.out ((fun k p h => h) k p hpi)
                try subst e2
                have d1 := (hbel.cell (p := ⟨b1, o1 + k, none⟩) hb1).trans hc1
                have d2 := (hbel.cell (p := ⟨b2, o2 + k, none⟩) hb2).trans hc2
                clear hb1 hb2 hc1 hc2 hpi hbel
                go_wp2_with fail
                go_region
                go_wp2
                go_roundw
                case rel => exact ⟨k + 1, by omega, by go_num, HBEL.out.drew⟩
                case measure => simp [intOf]; omega
              · obtain rfl : k = nd := by omega
                clear hbel hin hk
                go_wp2_with fail
                go_ret
                exact ⟨rfl, bt B7.out HBEL.out⟩
    · skip
      obtain ⟨qs, hqs⟩ : ∃ qs, qs = ps := ⟨_, rfl⟩
      have hql : qs.length = ps.length := by rw [hqs]
      have IQ := Lib.hid (show Ints .u32 w B (.slice A ps.length c) qs by rw [hqs]; exact HX.out)
      have HQ := Lib.hid (show ∀ p ∈ qs, 0 ≤ p ∧ p < 4294967296 by rw [hqs]; exact HP.out)
      have HQL := Lib.hid hql
      have PP := parse_path qs HQ.out
      rw [if_neg (by omega)] at PP
      have g255 : decide ((ps.length : Int) ≤ 255) = false := decide_eq_false (by omega)
      have hB1 : B ≤ w1.heap.size := by have := HBB.out; have := B1.out.size; omega
      have I1 := Lib.hid (IQ.out.keep (fun b o hb => B1.out.cell (p := ⟨b, o, none⟩) (by show b < w.heap.size; have := HBB.out; omega)))
      have PA := Lib.hid (path_any B _ qs w1 I1.out hB1 HQ.out (by omega) T1.out)
      have RA := Lib.hid (fun W (hI : Ints .u32 W B (.slice A ps.length c) qs) (hBW : B ≤ W.heap.size) => rpath_any B _ qs W hI hBW HQ.out (by omega))
      obtain ⟨PB, hPB⟩ : ∃ PB : ByteArray, PB = ⟨(pathB qs).toArray⟩ := ⟨_, rfl⟩
      have hPs : PB.size ≤ 100000 := by rw [← blen, hPB, ba_list]; have := pathB_len qs; omega
      have PP2 := PP
      rw [← ba_list (pathB qs), ← hPB] at PP2
      have PR := Lib.hid (fun W he => parse_any PB W hPs he)
      rw [PP2] at PR
      rw [← hPB] at PA RA
      clear hqs hql PP PP2 hPB hPs
      go_wp2_with fail
      refine PA.out.mono ?_
      rintro e w2 ⟨rfl, hb2⟩
      have B2 := Lib.hid (bt B1.out hb2)
      have E2 := Lib.hid (E1.out.below hb2 E1.out.lt)
      clear hb2 PA
      go_wp2_with fail
      refine (PR.out _ E2.out).mono ?_
      rintro e w3 ⟨v3, rfl, hown3, hb3⟩
      have B3 := Lib.hid (bt B2.out hb3)
      have E3 := Lib.hid (E2.out.below hb3 E2.out.lt)
      obtain ⟨A3, c3, rfl⟩ := own_form hown3
      have O3 := Lib.hid hown3
      clear hown3 hb3 PR
      go_wp2_with fail
      refine (RA.out _ (IQ.out.keep (fun b o hb => B3.out.cell (p := ⟨b, o, none⟩) (by show b < w.heap.size; have := HBB.out; omega))) (by have := HBB.out; have := B3.out.size; omega)).mono ?_
      rintro e w4 ⟨rfl, hb4⟩
      have B4 := Lib.hid (bt B3.out hb4)
      have E4 := Lib.hid (E3.out.below hb4 E3.out.lt)
      have I4 := Lib.hid (IQ.out.keep (fun b o hb => B4.out.cell (p := ⟨b, o, none⟩) (by show b < w.heap.size; have := HBB.out; omega)))
      have I3 := Lib.hid (own_ints (row_later O3.out hb4))
      have hB4 : B ≤ w4.heap.size := by have := HBB.out; have := B4.out.size; omega
      have I4b := Lib.hid (show Ints .u32 w4 w4.heap.size _ qs from by obtain ⟨a1, a2, a3, a4, a5, a6, a7⟩ := I4.out; exact ⟨a1, a2, a3, a4, a5, a6, fun h => by obtain ⟨b, o, q1, q2, q3⟩ := a7 h; exact ⟨b, o, q1, by omega, q3⟩⟩)
      clear hb4 RA O3 I4
      go_wp2_with fail
      have Q0 := Lib.hid (show ([] : List Int).length = 0 from rfl)
      go_loopw [49] (fun vk wr => ∃ k : Nat, k ≤ 0 ∧ vk = .int .i64 (k : Int) ∧ Below w4.heap.size w4 wr) (fun vk _ => 0 - (intOf vk).toNat)
      case atStart => exact ⟨0, Nat.zero_le _, rfl, Below.refl _ _⟩
      case round =>
        obtain ⟨k, hk, rfl, hbel⟩ := hrel
        have HBEL := Lib.hid hbel
        by_cases hin : k < 0
        · exact absurd hin (Nat.not_lt_zero _)
        · obtain rfl : k = 0 := by omega
          clear hbel hin hk
          have B5 := Lib.hid (bt B4.out HBEL.out)
          have E5 := Lib.hid (E4.out.below HBEL.out E4.out.lt)
          clear HBEL I3 I4b
          by_cases h2000 : 2000 < s.size
          · have g2000 : decide ((2000 : Int) < (s.size : Int)) = true := decide_eq_true (by omega)
            have hSs : (s.extract 0 2000).size ≤ 100000 := by rw [ByteArray.size_extract]; omega
            go_wp2_with fail
            refine (parse_any _ _ hSs E5.out).mono ?_
            rintro e w6 ⟨v6, rfl, hown6, hb6⟩
            have B6 := Lib.hid (bt B5.out hb6)
            have SA := Lib.hid (fun W => rparse_any (s.extract 0 2000) W hSs)
            obtain ⟨er, her⟩ : ∃ er, er = (parseP (s.extract 0 2000).data.toList).2 := ⟨_, rfl⟩
            obtain ⟨xs, hxs⟩ : ∃ xs, xs = (parseP (s.extract 0 2000).data.toList).1 := ⟨_, rfl⟩
            rw [← her, ← hxs] at SA
            rw [← her]
            rw [← hxs] at hown6
            clear her hxs hb6
            obtain ⟨A6, c6, rfl⟩ := own_form hown6
            have O6 := Lib.hid hown6
            clear hown6
            go_wp2_with fail
            refine (SA.out _).mono ?_
            rintro e w7 ⟨v7, rfl, hown7, hb7⟩
            obtain ⟨A7, c7, rfl⟩ := own_form hown7
            have I6 := Lib.hid (own_ints (row_later O6.out hb7))
            have I7 := Lib.hid (own_ints hown7)
            have B7 := Lib.hid (bt B6.out hb7)
            have ND := Lib.hid (show xs.length = xs.length from rfl)
            obtain ⟨nd, hnd⟩ : ∃ nd, nd = xs.length := ⟨_, rfl⟩
            rw [← hnd] at I6 I7
            try rw [← hnd]
            have NX := Lib.hid hnd
            have hndm : nd ≤ maxLen := by rw [hnd]; exact I6.out.len
            unfold maxLen at hndm
            clear hown7 hb7 hnd ND O6 SA
            go_wp2_with fail
            go_loopw [89] (fun vk wr => ∃ k : Nat, k ≤ nd ∧ vk = .int .i64 (k : Int) ∧ Below w7.heap.size w7 wr) (fun vk _ => nd - (intOf vk).toNat)
            case atStart => exact ⟨0, Nat.zero_le _, rfl, Below.refl _ _⟩
            case round =>
              obtain ⟨k, hk, rfl, hbel⟩ := hrel
              have HBEL := Lib.hid hbel
              by_cases hin : k < nd
              · obtain ⟨p, hpi⟩ : ∃ p, xs[k]? = some p := ⟨_, List.getElem?_eq_getElem (by first | exact hin | (rw [NX.out]; exact hin) | (rw [← NX.out]; exact hin))⟩
                obtain ⟨b1, o1, rfl, hb1, hc1⟩ := ints_at I6.out hpi
                obtain ⟨b2, o2, e2, hb2, hc2⟩ := ints_at I7.out ((fun k p h => h) k p hpi)
                try subst e2
                have d1 := (hbel.cell (p := ⟨b1, o1 + k, none⟩) hb1).trans hc1
                have d2 := (hbel.cell (p := ⟨b2, o2 + k, none⟩) hb2).trans hc2
                clear hb1 hb2 hc1 hc2 hpi hbel
                go_wp2_with fail
                go_region
                go_wp2
                go_roundw
                case rel => exact ⟨k + 1, by omega, by go_num, HBEL.out.drew⟩
                case measure => simp [intOf]; omega
              · obtain rfl : k = nd := by omega
                clear hbel hin hk
                go_wp2_with fail
                go_ret
                exact ⟨rfl, bt B7.out HBEL.out⟩
          · have g2000 : decide ((2000 : Int) < (s.size : Int)) = false := decide_eq_false (by omega)
            have hSs : s.size ≤ 100000 := by omega
            go_wp2_with fail
            refine (parse_any _ _ hSs E5.out).mono ?_
            rintro e w6 ⟨v6, rfl, hown6, hb6⟩
            have B6 := Lib.hid (bt B5.out hb6)
            have SA := Lib.hid (fun W => rparse_any s W hSs)
            obtain ⟨er, her⟩ : ∃ er, er = (parseP s.data.toList).2 := ⟨_, rfl⟩
            obtain ⟨xs, hxs⟩ : ∃ xs, xs = (parseP s.data.toList).1 := ⟨_, rfl⟩
            rw [← her, ← hxs] at SA
            rw [← her]
            rw [← hxs] at hown6
            clear her hxs hb6
            obtain ⟨A6, c6, rfl⟩ := own_form hown6
            have O6 := Lib.hid hown6
            clear hown6
            go_wp2_with fail
            refine (SA.out _).mono ?_
            rintro e w7 ⟨v7, rfl, hown7, hb7⟩
            obtain ⟨A7, c7, rfl⟩ := own_form hown7
            have I6 := Lib.hid (own_ints (row_later O6.out hb7))
            have I7 := Lib.hid (own_ints hown7)
            have B7 := Lib.hid (bt B6.out hb7)
            have ND := Lib.hid (show xs.length = xs.length from rfl)
            obtain ⟨nd, hnd⟩ : ∃ nd, nd = xs.length := ⟨_, rfl⟩
            rw [← hnd] at I6 I7
            try rw [← hnd]
            have NX := Lib.hid hnd
            have hndm : nd ≤ maxLen := by rw [hnd]; exact I6.out.len
            unfold maxLen at hndm
            clear hown7 hb7 hnd ND O6 SA
            go_wp2_with fail
            go_loopw [89] (fun vk wr => ∃ k : Nat, k ≤ nd ∧ vk = .int .i64 (k : Int) ∧ Below w7.heap.size w7 wr) (fun vk _ => nd - (intOf vk).toNat)
            case atStart => exact ⟨0, Nat.zero_le _, rfl, Below.refl _ _⟩
            case round =>
              obtain ⟨k, hk, rfl, hbel⟩ := hrel
              have HBEL := Lib.hid hbel
              by_cases hin : k < nd
              · obtain ⟨p, hpi⟩ : ∃ p, xs[k]? = some p := ⟨_, List.getElem?_eq_getElem (by first | exact hin | (rw [NX.out]; exact hin) | (rw [← NX.out]; exact hin))⟩
                obtain ⟨b1, o1, rfl, hb1, hc1⟩ := ints_at I6.out hpi
                obtain ⟨b2, o2, e2, hb2, hc2⟩ := ints_at I7.out ((fun k p h => h) k p hpi)
                try subst e2
                have d1 := (hbel.cell (p := ⟨b1, o1 + k, none⟩) hb1).trans hc1
                have d2 := (hbel.cell (p := ⟨b2, o2 + k, none⟩) hb2).trans hc2
                clear hb1 hb2 hc1 hc2 hpi hbel
                go_wp2_with fail
                go_region
                go_wp2
                go_roundw
                case rel => exact ⟨k + 1, by omega, by go_num, HBEL.out.drew⟩
                case measure => simp [intOf]; omega
              · obtain rfl : k = nd := by omega
                clear hbel hin hk
                go_wp2_with fail
                go_ret
                exact ⟨rfl, bt B7.out HBEL.out⟩
end Go.Proofs.YtfkpdbmgiefnfaaDoor.Hk

/-
  From HdkeyPaths' listed variables to what the walks read. Conditions: none.
-/
namespace Go.Proofs.YtfkpdbmgiefnfaaDoor.Hk
open Go.ChangeShapes Go.WideShapes Go.ChangeAt Go.RowKit Go.Deep

def laidP : List (String × DataW Unit) := [("math/bits.deBruijn32tab", Rows.laid_math_bits_deBruijn32tab), ("math/bits.deBruijn64tab", Rows.laid_math_bits_deBruijn64tab), ("internal/strconv.uint64pow10", Rows.laid_internal_strconv_uint64pow10), ("unicode/utf8.acceptRanges", Rows.laid_unicode_utf8_acceptRanges), ("strconv.ErrRange", Rows.laid_strconv_ErrRange), ("strconv.ErrSyntax", Rows.laid_strconv_ErrSyntax), ("strongbox/hash.squareRoots", Rows.laid_strongbox_hash_squareRoots), ("strongbox/hash.cubeRoots", Rows.laid_strongbox_hash_cubeRoots), ("strongbox/curve.order", Rows.laid_strongbox_curve_order), ("unicode/utf8.first", Rows.laid_unicode_utf8_first)]

theorem plainP {W : World} (h : laidMetH Tryd.prog laidP W) : laidMet Tryd.prog laidP W := by
  rw [MakeChecks.laidMetH_plain _ _ _ (by kernel_rfl)] at h
  exact h
theorem table_head {n : String} {D : DataW Unit} {r : List (String × DataW Unit)} {W : World} {g : Nat} {t e : TypeId} {k : IntKind} {l : List Int} {m : Nat} (h : laidMet Tryd.prog ((n, D) :: r) W) (hg : Tryd.prog.globalNamed n = some g) (ht : (Tryd.prog.globals[g]?).map (·.type) = some t) (hD : D = Lib.tabData k l) (hu : Tryd.prog.underlying t = some (.array m e)) (he : Tryd.prog.underlying e = some (.int k)) (hc : Tryd.prog.cellsOf e = 1) (hm : Tryd.prog.cellsOf t = m) :
    W.var? Tryd.prog n = some (l.map (Value.int k)).toArray := by
  obtain ⟨ps, ⟨g0, t0, cs0, f0, p0, q0, hg0, ht0, hv0, hd0, _, _⟩, _, _⟩ := h
  obtain rfl := Option.some.inj (hg.symm.trans hg0)
  obtain rfl := Option.some.inj (ht.symm.trans ht0)
  rw [hD] at hd0
  have c0 := Lib.cells_of_tab hu he hc hm hd0
  have e0 : cs0 = (l.map (Value.int k)).toArray := Array.toList_inj.1 c0
  rw [hv0, e0]
theorem table_cells {n : String} {W : World} {g : Nat} {k : IntKind} {l : List Int} (hg : Tryd.prog.globalNamed n = some g) (hv : W.var? Tryd.prog n = some (l.map (Value.int k)).toArray) {t : Nat} {z : Int} (hz : l[t]? = some z) : W.cell? ⟨g, t, none⟩ = some (.int k z) := by
  have h := World.var?_cell hg hv t
  rw [h, ← Array.getElem?_toList, List.getElem?_map, hz]
  rfl

theorem err_ok {W : World} (h : laidMetH Tryd.prog laidP W) : ErrOk W := by
  obtain ⟨ps, ⟨g0, t0, cs0, f0, p0, q0, hg0, ht0, hv0, hd0, _, _⟩, _, _⟩ := (plainP h).tail.tail.tail.tail
  obtain rfl := Option.some.inj ((show Tryd.prog.globalNamed "strconv.ErrRange" = some 8 by kernel_rfl).symm.trans hg0)
  obtain rfl := Option.some.inj ((show (Tryd.prog.globals[8]?).map (·.type) = some 86 by kernel_rfl).symm.trans ht0)
  obtain ⟨l0⟩ := cs0
  obtain ⟨f1, u, v, rfl, _, _⟩ := iface_of_trod Tryd.underlying86 hd0
  exact ⟨_, (World.var?_cell hg0 hv0 0).trans rfl, Or.inr ⟨_, _, rfl⟩⟩
theorem tabP {W : World} (h : laidMetH Tryd.prog laidP W) : Lib.TabIs Tryd.prog W "internal/strconv.uint64pow10" .u64 Lib.pow10Tab := by
  unfold Lib.TabIs
  exact table_head (g := 3) (t := 127) (plainP h).tail.tail (by kernel_rfl) (by kernel_rfl) (by kernel_rfl) Tryd.underlying127 Tryd.underlying57 (by kernel_rfl) (by kernel_rfl)
theorem rootsP {W : World} (h : laidMetH Tryd.prog laidP W) : Roots W := by
  have v3 := table_head (g := 0) (t := 90) (k := .u64) (l := s512) (plainP h).tail.tail.tail.tail.tail.tail (by kernel_rfl) (by kernel_rfl) (by kernel_rfl) Tryd.underlying90 Tryd.underlying57 (by kernel_rfl) (by kernel_rfl)
  have v4 := table_head (g := 2) (t := 103) (k := .u64) (l := k512) (plainP h).tail.tail.tail.tail.tail.tail.tail (by kernel_rfl) (by kernel_rfl) (by kernel_rfl) Tryd.underlying103 Tryd.underlying57 (by kernel_rfl) (by kernel_rfl)
  have k3 : ∀ (t : Nat) (k : Int), s512[t]? = some k → W.cell? ⟨0, t, none⟩ = some (.int .u64 k) := fun t k hk => table_cells (by kernel_rfl) v3 hk
  have k4 : ∀ (t : Nat) (k : Int), k512[t]? = some k → W.cell? ⟨2, t, none⟩ = some (.int .u64 k) := fun t k hk => table_cells (by kernel_rfl) v4 hk
  exact ⟨⟨World.block_lt_of_cell? _ _ (k4 0 _ rfl), k4⟩, ⟨World.block_lt_of_cell? _ _ (k3 0 _ rfl), k3⟩⟩
theorem orderP {W : World} (h : laidMetH Tryd.prog laidP W) : OrdIs W := by
  have v5 := table_head (g := 1) (t := 100) (k := .u64) (l := orderW) (plainP h).tail.tail.tail.tail.tail.tail.tail.tail (by kernel_rfl) (by kernel_rfl) (by kernel_rfl) Tryd.underlying100 Tryd.underlying57 (by kernel_rfl) (by kernel_rfl)
  have k5 : ∀ (t : Nat) (k : Int), orderW[t]? = some k → W.cell? ⟨1, t, none⟩ = some (.int .u64 k) := fun t k hk => table_cells (by kernel_rfl) v5 hk
  refine ⟨World.block_lt_of_cell? _ _ (k5 0 _ rfl), fun j v hv => ?_⟩
  rw [List.getElem?_map] at hv
  cases hq : orderW[j]? with
  | none => rw [hq] at hv; cases hv
  | some z =>
    rw [hq] at hv
    obtain rfl := Option.some.inj hv
    rw [Nat.zero_add]
    exact k5 j z hq
end Go.Proofs.YtfkpdbmgiefnfaaDoor.Hk
