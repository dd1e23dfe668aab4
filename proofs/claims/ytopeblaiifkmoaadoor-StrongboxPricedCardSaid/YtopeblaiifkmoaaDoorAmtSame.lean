/-
  Both ways to read a text as an amount come to the same: where the point stands, and which texts have none of the form. Conditions: none (plain lists of bytes).
-/
import Derived.Test.YtopeblaiifkmoaaDoorAmtEq
namespace Go.Proofs.YtopeblaiifkmoaaDoor
open Go.RowKit

theorem finish (W p : List UInt8) (hW : W.all dB = true) (hh : W.length = 1 ∨ W.head? ≠ some 48) (hp : p.length ≤ 8) :
    (if 8 < W.length then (0, 6) else chk (onF 0 (W ++ p ++ List.replicate (8 - p.length) 48))) = endR (capF 0 W) p := by
  by_cases h8 : 8 < W.length
  · rw [if_pos h8]
    have := capF_big W hW h8 (by rcases hh with h | h; omega; exact h)
    unfold endR
    rw [if_pos this]
  · rw [if_neg h8, capF_eight W hW (by omega), onF_append, onF_append, onF_zeros]
    have hn := onF_nonneg W
    generalize onF 0 W = n at *
    have hX : onF n p * 10 ^ (8 - p.length) = n * 10 ^ 8 + onF 0 p * 10 ^ (8 - p.length) := by
      rw [onF_acc n p, Int.add_mul, Int.mul_assoc, ← Int.pow_add, show p.length + (8 - p.length) = 8 by omega]
    have hq : 0 ≤ onF 0 p * 10 ^ (8 - p.length) := Int.mul_nonneg (onF_nonneg p) (Int.pow_nonneg (by omega))
    unfold endR
    generalize onF n p * 10 ^ (8 - p.length) = X at *
    by_cases hg : 21000000 < n
    · rw [if_pos hg, chk, if_neg (by rw [amtB_not (by omega)]; simp)]
    · rw [if_neg hg]
      by_cases hb : 2100000000000000 < X
      · rw [if_pos hb, chk, if_neg (by rw [amtB_not (by omega)]; simp)]
      · rw [if_neg hb, chk, if_pos (amtB_mk (by omega) (by omega))]

theorem wholeB_of {l : List UInt8} (hl : l.all dB = true) : wholeB l = decide (¬ (l.length = 0 ∨ (1 < l.length ∧ l.head? = some 48))) := by
  unfold wholeB digsB
  rw [hl]
  cases l with
  | nil => rfl
  | cons c l =>
    rw [Bool.eq_iff_iff]
    simp
theorem wholeB_no {l : List UInt8} (h : l.all dB = false) : wholeB l = false := by unfold wholeB digsB; rw [h]; simp
theorem partB_of (p : List UInt8) : partB p = decide (p ≠ [] ∧ p.all dB = true ∧ p.length ≤ 8) := by
  unfold partB digsB
  cases p with
  | nil => rfl
  | cons c p => rw [Bool.eq_iff_iff]; simp [and_assoc]

theorem bytes_join (wh pt : ByteArray) : (wh ++ pt ++ zeros.extract pt.size 8).data.toList = wh.data.toList ++ pt.data.toList ++ List.replicate (8 - pt.data.toList.length) 48 := by
  have hz : ∀ n : Nat, (zeros.extract n 8).data.toList = List.replicate (8 - n) 48 := fun n => by
    rcases (by omega : n = 0 ∨ n = 1 ∨ n = 2 ∨ n = 3 ∨ n = 4 ∨ n = 5 ∨ n = 6 ∨ n = 7 ∨ 8 ≤ n) with h | h | h | h | h | h | h | h | h
    any_goals (subst h; rfl)
    rw [Nat.sub_eq_zero_of_le h]
    have : (zeros.extract n 8).data.toList.length = 0 := by
      rw [blen, ByteArray.size_extract]
      show min 8 8 - n = 0
      omega
    exact List.eq_nil_of_length_eq_zero this
  rw [ByteArray.data_append, ByteArray.data_append, Array.toList_append, Array.toList_append, hz, blen]

theorem parseP_eq (wh pt : ByteArray) (f : Bool) (hf : f = false → pt = ⟨#[]⟩) : parseP wh pt f =
    if wholeB wh.data.toList && (!f || partB pt.data.toList) then endR (capF 0 wh.data.toList) pt.data.toList else (0, 3) := by
  unfold parseP
  cases hc : (wholeB wh.data.toList && (!f || partB pt.data.toList)) with
  | false => rfl
  | true =>
    simp only [Bool.and_eq_true] at hc
    obtain ⟨h1, h2⟩ := hc
    have hd : wh.data.toList.all dB = true := by
      unfold wholeB digsB at h1
      simp only [Bool.and_eq_true] at h1
      exact h1.1.2
    have hw := wholeB_of hd
    rw [h1] at hw
    have hw2 := of_decide_eq_true hw.symm
    have hp8 : pt.data.toList.length ≤ 8 := by
      cases f with
      | false => rw [hf rfl]; simp
      | true =>
        have : partB pt.data.toList = true := by simpa using h2
        rw [partB_of] at this
        exact (of_decide_eq_true this).2.2
    simp only [if_true]
    rw [← finish wh.data.toList pt.data.toList hd (by
      by_cases h : wh.data.toList.head? = some 48
      · refine .inl ?_
        have : ¬ (1 < wh.data.toList.length) := fun k => hw2 (.inr ⟨k, h⟩)
        have : wh.data.toList.length ≠ 0 := fun k => hw2 (.inl k)
        omega
      · exact .inr h) hp8, numB_eq, bytes_join]
    simp only [blen]

theorem upto_list (s : ByteArray) (k : Nat) : (s.extract 0 k).data.toList = s.data.toList.take k := by
  rw [ByteArray.data_extract, Array.toList_extract]
  simp [List.extract]
theorem not_point {c : UInt8} (h : dB c = true) : c ≠ 46 := by rintro rfl; revert h; decide

theorem parse_same (s : ByteArray) (K : Nat) (hK : K ≤ s.size) (ha : (s.data.toList.take K).all dB = true) (hn : ∀ h : K < s.size, dB s[K] = false) :
    parseP (cutP s).1 (cutP s).2.1 (cutP s).2.2 = parseR s K := by
  rw [parseP_eq _ _ _ cutP_none]
  have hpre : ∀ k, k < K → ∀ c, s.data.toList[k]? = some c → dB c = true := fun k hk c hc => by
    refine List.all_eq_true.1 ha c (List.mem_of_getElem? (i := k) ?_)
    rw [List.getElem?_take, if_pos hk]
    exact hc
  by_cases hE : K < s.size
  · have hcK : s.data.toList[K]? = some s[K] := by rw [List.getElem?_eq_getElem (by rw [blen]; exact hE)]; rfl
    by_cases h46 : s[K] = 46
    · have hi : Lib.indexByte s.data.toList 46 = K := by
        rcases Int.lt_or_le (Lib.indexByte s.data.toList 46) 0 with h | h
        · have hm : Lib.indexByte s.data.toList 46 = -1 := by have := Lib.indexByte_ge s.data.toList 46; omega
          exact absurd (by rw [hcK, h46]) (Lib.indexByte_none hm K)
        · obtain ⟨o, ho⟩ : ∃ o : Nat, Lib.indexByte s.data.toList 46 = o := ⟨(Lib.indexByte s.data.toList 46).toNat, by omega⟩
          obtain ⟨h1, h2⟩ := Lib.indexByte_some ho
          rcases Nat.lt_trichotomy o K with h3 | h3 | h3
          · exact absurd rfl (not_point (hpre o h3 46 h1))
          · rw [ho, h3]
          · exact absurd (by rw [hcK, h46]) (h2 K h3)
      have hcut : cutP s = (s.extract 0 K, s.extract (K + 1) s.size, true) := by
        unfold cutP
        rw [if_neg (by omega), hi, Int.toNat_natCast]
      have hw : (s.extract 0 K).data.toList = s.data.toList.take K := upto_list s K
      have hp : (s.extract (K + 1) s.size).data.toList = s.data.toList.drop (K + 1) := Lib.extract_to_end s (K + 1)
      rw [hcut]
      dsimp only
      rw [hw, hp, wholeB_of ha, partB_of]
      have hlt : (s.data.toList.take K).length = K := by rw [List.length_take, blen]; omega
      have hhd : (s.data.toList.take K).head? = some 48 ↔ K ≠ 0 ∧ s.data.toList.head? = some 48 := by
        cases K with
        | zero => simp
        | succ K => cases s.data.toList <;> simp
      have hpl : (s.data.toList.drop (K + 1)).length = s.size - (K + 1) := by rw [List.length_drop, blen]
      have hne : s.data.toList.drop (K + 1) ≠ [] ↔ K + 1 ≠ s.size := by
        rw [← List.length_pos_iff, hpl]
        omega
      unfold parseR
      rw [hlt]
      by_cases h1 : K = 0 ∨ (1 < K ∧ s.data.toList.head? = some 48)
      · rw [if_pos h1, if_neg]
        simp only [Bool.and_eq_true, decide_eq_true_eq, hhd]
        rintro ⟨h, _⟩
        rcases h1 with h1 | ⟨h1, h2⟩
        · exact h (.inl h1)
        · exact h (.inr ⟨h1, by omega, h2⟩)
      · rw [if_neg h1]
        have hwt : decide (¬ (K = 0 ∨ (1 < K ∧ (s.data.toList.take K).head? = some 48))) = true := by
          rw [decide_eq_true_eq, hhd]
          rintro (h | ⟨h, _, h2⟩)
          · exact h1 (.inl h)
          · exact h1 (.inr ⟨h, h2⟩)
        rw [hwt]
        by_cases h2 : K < s.size ∧ (s.data.toList[K]? ≠ some 46 ∨ K + 1 = s.size ∨ 9 < s.size - K)
        · rw [if_pos h2, if_neg]
          simp only [Bool.true_and, Bool.not_true, Bool.false_or, decide_eq_true_eq, hne]
          rintro ⟨h3, _, h5⟩
          rcases h2.2 with h | h | h
          · exact h (by rw [hcK, h46])
          · exact h3 h
          · omega
        · rw [if_neg h2]
          have h3 : K + 1 ≠ s.size := fun h => h2 ⟨hE, .inr (.inl h)⟩
          have h4 : ¬ 9 < s.size - K := fun h => h2 ⟨hE, .inr (.inr h)⟩
          cases hall : (s.data.toList.drop (K + 1)).all dB with
          | true =>
            rw [if_pos rfl, if_pos]
            simp only [Bool.true_and, Bool.not_true, Bool.false_or, decide_eq_true_eq, hne]
            exact ⟨h3, trivial, by omega⟩
          | false =>
            rw [if_neg (by simp), if_neg]
            simp
    · have hR : parseR s K = (0, 3) := by
        unfold parseR
        split
        · rfl
        · rw [if_pos ⟨hE, .inl (by rw [hcK]; intro h; injection h with h; exact h46 h)⟩]
      rw [hR, if_neg]
      simp only [Bool.and_eq_true]
      rintro ⟨h, _⟩
      have hno : ∀ l : List UInt8, s[K] ∈ l → wholeB l = false := fun l hl => wholeB_no (by
        cases ha2 : l.all dB with
        | false => rfl
        | true => have := List.all_eq_true.1 ha2 _ hl; rw [hn hE] at this; cases this)
      have : s[K] ∈ (cutP s).1.data.toList := by
        unfold cutP
        split
        · exact List.mem_of_getElem? hcK
        · rename_i hne
          have hge := Lib.indexByte_ge s.data.toList 46
          obtain ⟨o, ho⟩ : ∃ o : Nat, Lib.indexByte s.data.toList 46 = o := ⟨(Lib.indexByte s.data.toList 46).toNat, by omega⟩
          obtain ⟨h1, h2⟩ := Lib.indexByte_some ho
          have hKo : K < o := by
            rcases Nat.lt_trichotomy o K with h3 | h3 | h3
            · exact absurd rfl (not_point (hpre o h3 46 h1))
            · rw [h3, hcK] at h1; injection h1 with h1; exact absurd h1 h46
            · exact h3
          show s[K] ∈ (s.extract 0 (Lib.indexByte s.data.toList 46).toNat).data.toList
          rw [ho, Int.toNat_natCast, upto_list]
          exact List.mem_of_getElem? (i := K) (by rw [List.getElem?_take, if_pos hKo]; exact hcK)
      rw [hno _ this] at h
      cases h
  · have hKs : K = s.size := by omega
    have hall : s.data.toList.all dB = true := by rw [hKs, ← blen, List.take_length] at ha; exact ha
    have hi : Lib.indexByte s.data.toList 46 = -1 := by
      rcases Int.lt_or_le (Lib.indexByte s.data.toList 46) 0 with h | h
      · have := Lib.indexByte_ge s.data.toList 46; omega
      · obtain ⟨o, ho⟩ : ∃ o : Nat, Lib.indexByte s.data.toList 46 = o := ⟨(Lib.indexByte s.data.toList 46).toNat, by omega⟩
        obtain ⟨h1, _⟩ := Lib.indexByte_some ho
        exact absurd rfl (not_point (List.all_eq_true.1 hall 46 (List.mem_of_getElem? h1)))
    have hcut : cutP s = (s, ⟨#[]⟩, false) := by
      unfold cutP
      rw [if_pos hi]
    rw [hcut]
    dsimp only
    rw [wholeB_of hall, blen]
    unfold parseR
    have hd : s.data.toList.drop (K + 1) = [] := List.drop_of_length_le (by rw [blen]; omega)
    rw [hd, hKs]
    have ht : s.data.toList.take s.size = s.data.toList := by rw [← blen, List.take_length]
    rw [ht]
    by_cases h1 : s.size = 0 ∨ (1 < s.size ∧ s.data.toList.head? = some 48)
    · have hx : decide (¬ (s.size = 0 ∨ 1 < s.size ∧ s.data.toList.head? = some 48)) = false := decide_eq_false (fun h => h h1)
      rw [hx, if_pos h1, if_neg]
      simp
    · have hx : decide (¬ (s.size = 0 ∨ 1 < s.size ∧ s.data.toList.head? = some 48)) = true := decide_eq_true h1
      rw [hx, if_neg h1]
      have e1 : (true && (!false || partB ([] : List UInt8))) = true := rfl
      have e2 : ¬ (s.size < s.size ∧ (s.data.toList[s.size]? ≠ some 46 ∨ s.size + 1 = s.size ∨ 9 < s.size - s.size)) := fun h => absurd h.1 (Nat.lt_irrefl _)
      have e3 : ([] : List UInt8).all dB = true := rfl
      simp only [if_pos e1, if_neg e2, if_pos e3]
end Go.Proofs.YtopeblaiifkmoaaDoor
