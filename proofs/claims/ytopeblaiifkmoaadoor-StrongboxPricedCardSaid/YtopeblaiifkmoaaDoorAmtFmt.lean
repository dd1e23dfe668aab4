/-
  What is written as an amount is read back as it. Conditions: none (plain lists of bytes).
-/
import Derived.Test.YtopeblaiifkmoaaDoorAmtSame
import Derived.Test.YtopeblaiifkmoaaDoorAmtDec
namespace Go.Proofs.YtopeblaiifkmoaaDoor
open Go.RowKit

theorem dv_digit : ∀ d : Fin 10, dvB (UInt8.ofNat (48 + d.val)) = d.val ∧ dB (UInt8.ofNat (48 + d.val)) = true ∧ (UInt8.ofNat (48 + d.val) = 48 ↔ d.val = 0) := by decide +kernel
theorem dec_facts (u : Nat) : onF 0 (Lib.decDigits u) = u ∧ (Lib.decDigits u).all dB = true ∧ (Lib.decDigits u ≠ []) ∧ (1 ≤ u → (Lib.decDigits u).head? ≠ some 48) := by
  induction u using Nat.strongRecOn with
  | _ u ih =>
    by_cases h : u < 10
    · obtain ⟨h1, h2, h3⟩ := dv_digit ⟨u, h⟩
      rw [Lib.decDigits_one h]
      refine ⟨?_, by rw [List.all_cons, h2]; rfl, by simp, fun hu => ?_⟩
      · show 10 * 0 + dvB _ = _
        rw [h1]; simp
      · intro he
        have := h3.1 (by simpa using he)
        simp at this
        omega
    · obtain ⟨i1, i2, i3, i4⟩ := ih (u / 10) (by omega)
      have e2 : Lib.decDigits u = Lib.decDigits (u / 10) ++ [UInt8.ofNat (48 + u % 10)] := by
        conv => lhs; rw [Lib.decDigits, dif_neg h]
      obtain ⟨h1, h2, _⟩ := dv_digit ⟨u % 10, by omega⟩
      simp only at h1 h2
      rw [e2]
      refine ⟨?_, by rw [List.all_append, i2, List.all_cons, h2]; rfl, by simp, fun hu => ?_⟩
      · rw [onF_snoc, i1, h1]; omega
      · have := i4 (by omega)
        cases hl : Lib.decDigits (u / 10) with
        | nil => exact absurd hl i3
        | cons a l => rw [hl] at this; simpa using this

/-- The text's bytes. -/
theorem fmt_bytes {v : Int} (hv : amtB v = true) : (fmtS v).data.toList = Lib.decDigits (v / 100000000).toNat ++ (46 :: (List.replicate (8 - Lib.nDigits (v % 100000000).toNat) 48 ++ Lib.decDigits (v % 100000000).toNat)) := by
  have bv := amtB_true hv
  have h1 : (num (v / 100000000)).data.toList = Lib.decDigits (v / 100000000).toNat := by
    obtain ⟨u, hu⟩ : ∃ u : Nat, v / 100000000 = u := ⟨(v / 100000000).toNat, by omega⟩
    unfold num
    rw [hu, Lib.itoa_nonneg]
    simp
  have h2 := decF_eight (v := v % 100000000) (by omega) (by omega)
  rw [decF_eq 8 _ 8 (by omega) (by omega) (by omega)] at h2
  have h3 := congrArg (fun b : ByteArray => b.data.toList) h2
  simp only [ByteArray.data_append, Array.toList_append] at h3
  unfold fmtS
  rw [if_pos hv]
  simp only [ByteArray.data_append, Array.toList_append, List.append_assoc]
  rw [h1, ← h3]
  rfl

theorem parse_back {v : Int} (hv : amtB v = true) : parseP (cutP (fmtS v)).1 (cutP (fmtS v)).2.1 (cutP (fmtS v)).2.2 = (v, 0) := by
  have bv := amtB_true hv
  have hb := fmt_bytes hv
  obtain ⟨u, hu⟩ : ∃ u : Nat, u = (v / 100000000).toNat := ⟨_, rfl⟩
  obtain ⟨r, hr⟩ : ∃ r : Nat, r = (v % 100000000).toNat := ⟨_, rfl⟩
  rw [← hu, ← hr] at hb
  obtain ⟨a1, a2, a3, a4⟩ := dec_facts u
  obtain ⟨b1, b2, b3, _⟩ := dec_facts r
  have hln : (Lib.decDigits u).length = Lib.nDigits u := Lib.decDigits_length u
  have hlr : (Lib.decDigits r).length = Lib.nDigits r := Lib.decDigits_length r
  have hu8 := nDigits_le 8 u (by omega) (by omega)
  have hr8 := nDigits_le 8 r (by omega) (by omega)
  have hup := Lib.nDigits_pos u
  obtain ⟨p, hp⟩ : ∃ p, p = List.replicate (8 - Lib.nDigits r) 48 ++ Lib.decDigits r := ⟨_, rfl⟩
  have hpl : p.length = 8 := by rw [hp, List.length_append, List.length_replicate, hlr]; omega
  have hpd : p.all dB = true := by
    rw [hp, List.all_append, b2, Bool.and_true]
    exact List.all_eq_true.2 fun x hx => by rw [List.eq_of_mem_replicate hx]; rfl
  have hpv : onF 0 p = r := by
    have hz := onF_zeros 0 (8 - Lib.nDigits r)
    rw [hp, onF_append, hz, Int.zero_mul, b1]
  rw [← hp] at hb
  have hsz : (fmtS v).size = Lib.nDigits u + 9 := by
    rw [← blen, hb, List.length_append, hln, List.length_cons, hpl]
  have hK : Lib.nDigits u ≤ (fmtS v).size := by omega
  have htake : (fmtS v).data.toList.take (Lib.nDigits u) = Lib.decDigits u := by rw [hb, ← hln, List.take_left]
  have hget : (fmtS v).data.toList[Lib.nDigits u]? = some 46 := by rw [hb, ← hln, List.getElem?_append_right (Nat.le_refl _), Nat.sub_self]; rfl
  have hdrop : (fmtS v).data.toList.drop (Lib.nDigits u + 1) = p := by
    rw [hb, ← hln, ← List.drop_drop, List.drop_left]
    rfl
  have hhead : (fmtS v).data.toList.head? = (Lib.decDigits u).head? := by
    rw [hb]
    cases h : Lib.decDigits u with
    | nil => exact absurd h a3
    | cons a l => rfl
  rw [parse_same (fmtS v) (Lib.nDigits u) hK (by rw [htake]; exact a2) (fun h => by
    have : (fmtS v)[Lib.nDigits u] = 46 := by
      have h2 : (fmtS v).data.toList[Lib.nDigits u]? = some (fmtS v)[Lib.nDigits u] := by rw [List.getElem?_eq_getElem (by rw [blen]; exact h)]; rfl
      rw [hget] at h2
      injection h2 with h2
      exact h2.symm
    rw [this]; rfl)]
  unfold parseR
  rw [if_neg, if_neg, hdrop, if_pos hpd, htake, capF_eight _ a2 (by omega), a1]
  · unfold endR
    have hX : onF (u : Int) p * 10 ^ (8 - p.length) = v := by
      rw [onF_acc, hpv, hpl]
      simp
      omega
    rw [hX, if_neg (by omega), if_neg (by omega)]
  · rw [hget, hsz]
    rintro ⟨_, h | h | h⟩
    · exact h rfl
    · omega
    · omega
  · rw [hhead]
    rintro (h | ⟨h, h2⟩)
    · omega
    · refine a4 ?_ h2
      rcases Nat.eq_zero_or_pos u with h0 | h0
      · rw [h0, Lib.nDigits_small (by omega)] at h; omega
      · exact h0
theorem fmt_size (v : Int) : (fmtS v).size ≤ 17 := by
  cases hv : amtB v with
  | true =>
    have bv := amtB_true hv
    rw [← blen, fmt_bytes hv, List.length_append, List.length_cons, List.length_append, List.length_replicate, Lib.decDigits_length, Lib.decDigits_length]
    have h1 := nDigits_le 8 (v / 100000000).toNat (by omega) (by omega)
    have h2 := nDigits_le 8 (v % 100000000).toNat (by omega) (by omega)
    omega
  | false =>
    unfold fmtS
    rw [if_neg (by rw [hv]; simp)]
    decide

/-- Where the digits end. -/
theorem digits_end (s : ByteArray) : ∃ K, K ≤ s.size ∧ (s.data.toList.take K).all dB = true ∧ ∀ h : K < s.size, dB s[K] = false := by
  suffices h : ∀ l : List UInt8, ∃ K, K ≤ l.length ∧ (l.take K).all dB = true ∧ ∀ c, l[K]? = some c → dB c = false by
    obtain ⟨K, h1, h2, h3⟩ := h s.data.toList
    refine ⟨K, by rw [← blen]; exact h1, h2, fun h => h3 _ ?_⟩
    rw [List.getElem?_eq_getElem (by rw [blen]; exact h)]; rfl
  intro l
  induction l with
  | nil => exact ⟨0, by simp, by simp, by simp⟩
  | cons c l ih =>
    cases hc : dB c with
    | false => exact ⟨0, by simp, by simp, fun d hd => by simp at hd; rw [← hd]; exact hc⟩
    | true =>
      obtain ⟨K, h1, h2, h3⟩ := ih
      exact ⟨K + 1, by simp; omega, by simp only [List.take_succ_cons, List.all_cons, hc, h2]; rfl, fun d hd => h3 d (by simpa using hd)⟩
end Go.Proofs.YtopeblaiifkmoaaDoor
