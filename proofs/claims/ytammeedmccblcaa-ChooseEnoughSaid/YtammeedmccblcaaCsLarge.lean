/-
  The greatest coins. Conditions: what they bring together may be.
-/
import Derived.Test.YtammeedmccblcaaCsInts
namespace Go.Proofs.Ytammeedmccblcaa.Cs
open Go.RowKit

def largeR (need : Int) (H : List Cn) : Int × List Cn := match cutF need 0 H with
  | none => (16, [])
  | some k => (0, H.take k)
theorem cutF_go {need s : Int} {c : Cn} {l : List Cn} (h : s < need) : cutF need s (c :: l) = (cutF need (s + c.1) l).map (· + 1) := if_pos h
theorem cutF_end {need s : Int} {l : List Cn} (h : ¬ s < need) : cutF need s l = some 0 := by cases l <;> exact if_neg h
theorem cutF_no {need s : Int} (h : s < need) : cutF need s [] = none := if_pos h
theorem sum_take (H : List Cn) (hp : Pos H) (k : Nat) : 0 ≤ sumD (H.take k) ∧ sumD (H.take k) ≤ sumD H := by
  have h1 : sumD H = sumD (H.take k) + sumD (H.drop k) := by rw [← sumD_append, List.take_append_drop]
  have h2 : 0 ≤ sumD (H.take k) := sumD_nonneg fun c hc => hp c (List.mem_of_mem_take hc)
  have h3 : 0 ≤ sumD (H.drop k) := sumD_nonneg fun c hc => hp c (List.mem_of_mem_drop hc)
  omega
theorem sum_next (H : List Cn) {k : Nat} {x : Cn} (h : H[k]? = some x) : sumD (H.take (k + 1)) = sumD (H.take k) + x.1 := by
  rw [List.take_add_one, h, Option.toList_some, sumD_append]
  show _ + (x.1 + 0) = _
  rw [Int.add_zero]
theorem drop_at (H : List Cn) {k : Nat} {x : Cn} (h : H[k]? = some x) : H.drop k = x :: H.drop (k + 1) := by
  obtain ⟨hk, rfl⟩ := List.getElem?_eq_some_iff.1 h
  exact List.drop_eq_getElem_cons hk
set_option maxRecDepth 100000 in
set_option maxHeartbeats 3200000 in
theorem largest_any (B : Nat) (need extra rate tries seed tot : Int) (H : List Cn) (u : Value) (w : World) (hu : CnR w B u H) (hB : B ≤ w.heap.size) (hp : Pos H) (hs : sumD H ≤ 2100000000000000) (hl : H.length ≤ 1000) :
    Calls Try.prog 28 #[.agg (hnC (tkC need extra rate tries seed) u tot).toArray] w fun e w' => ∃ v, e = .returned (.tuple #[v, .int .i64 (largeR need H).1]) ∧ CnR w' w'.heap.size v (largeR need H).2 ∧ Below w.heap.size w w' := by
  obtain ⟨R, hR⟩ : ∃ z, z = largeR need H := ⟨_, rfl⟩
  rw [← hR]
  have HR := Lib.hid hR
  obtain ⟨A, c, rfl, hlc, hcm⟩ := hu.form
  obtain ⟨nH, hnH⟩ : ∃ z, z = H.length := ⟨_, rfl⟩
  rw [← hnH] at hu hl hlc ⊢
  have hb1 : Below w.heap.size w (w.alloc (.cells #[.int .i64 need, .int .i64 extra, .int .i64 rate, .int .i64 tries, .int .u64 seed, .slice A nH c, .int .i64 tot] 60)) := (Below.refl _ _).alloc (Nat.le_refl _) _
  have hvr : VRow (w.alloc (.cells #[.int .i64 need, .int .i64 extra, .int .i64 rate, .int .i64 tries, .int .u64 seed, .slice A nH c, .int .i64 tot] 60)) w.heap.size 60 [.int .i64 need, .int .i64 extra, .int .i64 rate, .int .i64 tries, .int .u64 seed, .slice A nH c, .int .i64 tot] := VRow.new _ _ _
  unfold tkC hnC
  go_enter Try.func28, Try.ntmps28
  have HNH := Lib.hid hnH
  have HP := Lib.hid hp
  have HS := Lib.hid hs
  clear hR hnH hp hs
  go_wp2
  obtain ⟨w1, hw1⟩ : ∃ z, z = w.alloc (.cells #[.int .i64 need, .int .i64 extra, .int .i64 rate, .int .i64 tries, .int .u64 seed, .slice A nH c, .int .i64 tot] 60) := ⟨_, rfl⟩
  rw [← hw1] at hb1 hvr ⊢
  obtain ⟨G, hG⟩ : ∃ z, z = w.heap.size := ⟨_, rfl⟩
  rw [← hG] at hvr
  rw [← hG]
  have HB1 := Lib.hid hb1
  have HU := Lib.hid (show CnR w1 B (.slice A nH c) H from hu.below (hb1.mono hB))
  have x0 : w1.cell? ⟨G, 0, none⟩ = some (.int .i64 need) := hvr.cell rfl
  have x5 : w1.cell? ⟨G, 5, none⟩ = some (.slice A nH c) := hvr.cell rfl
  have HG := Lib.hid hG
  have HB0 := Lib.hid hB
  clear hu hb1 hvr hw1 hB hG
  go_loop [4, 5] (fun a b => ∃ k : Nat, k ≤ nH ∧ a = .int .i64 (k : Int) ∧ b = .int .i64 (sumD (H.take k)) ∧ Hid (cutF need 0 H = (cutF need (sumD (H.take k)) (H.drop k)).map (· + k))) (fun a _ => nH - (intOf a).toNat)
  case atStart => exact ⟨0, Nat.zero_le _, rfl, rfl, Lib.hid (by rw [List.take_zero, List.drop_zero]; show cutF need 0 H = (cutF need 0 H).map (· + 0); cases cutF need 0 H <;> rfl)⟩
  case round =>
    obtain ⟨k, hk, rfl, rfl, hcut⟩ := hrel
    have hbd := sum_take H HP.out k
    have hS := HS.out
    obtain ⟨s, hs⟩ : ∃ z, z = sumD (H.take k) := ⟨_, rfl⟩
    rw [← hs] at hcut hbd ⊢
    have HSK := Lib.hid hs
    clear hs
    by_cases hlt : s < need
    · as_aux_lemma =>
      have d0 : decide (s < need) = true := decide_eq_true hlt
      by_cases hke : k = nH
      · have dk : decide ((k : Int) = (nH : Int)) = true := decide_eq_true (by omega)
        go_wp2_with fail
        go_ret2
        have hR : R = (16, []) := by
          rw [HR.out]
          unfold largeR
          rw [hcut.out, hke, HNH.out, List.drop_length, cutF_no hlt]
          rfl
        rw [hR]
        exact ⟨.slice none 0 0, rfl, RowR.nil _ _, HB1.out⟩
      · have dk : decide ((k : Int) = (nH : Int)) = false := decide_eq_false (by omega)
        obtain ⟨x, hx⟩ : ∃ x, H[k]? = some x := ⟨_, List.getElem?_eq_getElem (by have := HNH.out; omega)⟩
        obtain ⟨b', o', c', ef, _, _, hbl, hc0, hc1⟩ := HU.out.at hx
        injection ef with ef1 ef2 ef3
        subst ef1
        clear ef2 ef3
        have hn := sum_next H hx
        have hn2 := sum_take H HP.out (k + 1)
        rw [← HSK.out] at hn
        rw [hn] at hn2
        have hd := drop_at H hx
        have HN := Lib.hid hn
        have HD := Lib.hid hd
        clear hn hd hx
        have hkl : k < nH := by omega
        go_wp2_with fail
        refine ⟨⟨k + 1, by omega, by first | rfl | exact next (by omega), by rw [HN.out], Lib.hid ?_⟩, by first | (show nH - ((k : Int) + 1).toNat < nH - (k : Int).toNat; omega) | exact meas hkl (by omega)⟩
        rw [hcut.out, HD.out, cutF_go hlt, HN.out, Option.map_map]
        congr 1
        funext q
        show q + 1 + k = q + (k + 1)
        omega
    · as_aux_lemma =>
      have d0 : decide (s < need) = false := decide_eq_false hlt
      have hR : R = (0, H.take k) := by
        rw [HR.out]
        unfold largeR
        rw [hcut.out, cutF_end hlt]
        show (0, H.take (0 + k)) = _
        rw [Nat.zero_add]
      have HT := Lib.hid (show CnR w1 w1.heap.size (.slice A k c) (H.take k) from ((HU.out.first (by rw [← HNH.out]; exact hk)).more (by have := HB1.out.size; have := HB0.out; omega)))
      go_wp2_with fail
      go_ret2
      exact ⟨.slice A k c, rfl, HT.out, HB1.out⟩
end Go.Proofs.Ytammeedmccblcaa.Cs
