/-
  Addresses of witness programs, as lists of bytes: what is written is read again, and what is read has as many letters when it is written again. Conditions: none (plain mathematics).
-/
import Derived.Test.YtpaafkhlelljcaaDoorBcStr
import Derived.Test.YtpaafkhlelljcaaDoorGrpPure
namespace Go.Proofs.YtpaafkhlelljcaaDoor
open Go.RowKit

/-- May a program of this version have so many bytes? -/
def fitsB (v : Int) (n : Nat) : Bool := if v = 0 then (n == 20 || n == 32) else (decide (2 ≤ n) && decide (n ≤ 40))
theorem fitsB_le {v : Int} {n : Nat} (h : fitsB v n = true) : 2 ≤ n ∧ n ≤ 40 := by
  unfold fitsB at h
  split at h
  · simp only [Bool.or_eq_true, beq_iff_eq] at h
    omega
  · simp only [Bool.and_eq_true, decide_eq_true_eq] at h
    omega
/-- What writing answers. -/
def segS (h : List UInt8) (ver : Int) (p : List UInt8) : Int × List UInt8 :=
  if ver < 0 ∨ 16 < ver then (1, []) else if fitsB ver p.length = false then (2, []) else bechS h (b8 ver :: (regS 8 5 true p).2) (decide (0 < ver))
structure SegR where
  e : Int
  v : Int
  p : List UInt8
def noG (e : Int) : SegR := ⟨e, 0, []⟩
def segR (hrp : List UInt8) (r : FromR) : SegR :=
  if r.e ≠ 0 then noG r.e else if r.h ≠ hrp then noG 7 else
  match r.d with
  | [] => noG 3
  | v :: vs => if 16 < v.toNat ∨ r.m ≠ decide (0 < v.toNat) then noG 3 else if (regS 5 8 false vs).1 ≠ 0 then noG (regS 5 8 false vs).1 else
      if fitsB v.toNat (regS 5 8 false vs).2.length = false then noG 2 else ⟨0, v.toNat, (regS 5 8 false vs).2⟩
/-- What reading answers. -/
def fromG (hrp cs : List UInt8) : SegR := segR hrp (fromS cs)

theorem small8 (p : List UInt8) : ∀ d ∈ p, d.toNat < 2 ^ (8 : Int).toNat := fun d _ => d.toNat_lt
theorem reg85 (p : List UInt8) : (regS 8 5 true p).1 = 0 := by
  unfold regS
  rw [if_neg (by omega), if_neg (by rintro ⟨d, hd, h⟩; have := small8 p d hd; omega)]
  simp
theorem reg85_back (p : List UInt8) : regS 5 8 false (regS 8 5 true p).2 = (0, p) := by
  have := reg_back (f := 8) (t := 5) (ds := p) (by omega) (by omega) (by omega) (by omega) (by omega) (fun d _ => d.toNat_lt)
  exact this
theorem reg85_len (p : List UInt8) : (regS 8 5 true p).2.length = (p.length * 8 + 4) / 5 := by
  unfold regS
  rw [if_neg (by omega), if_neg (by rintro ⟨d, hd, h⟩; have := small8 p d hd; omega)]
  have e8 : (8 : Int).toNat = 8 := rfl
  have e5 : (5 : Int).toNat = 5 := rfl
  rw [e8, e5]
  simp only [if_true, List.length_drop, bitsAll_length]
  split
  · rw [List.length_append, outsN_length]
    simp only [List.length_cons, List.length_nil]
    omega
  · rw [outsN_length]
    omega
theorem reg58_len {vs : List UInt8} (h : (regS 5 8 false vs).1 = 0) : (regS 5 8 false vs).2.length = vs.length * 5 / 8 ∧ vs.length * 5 - 8 * (vs.length * 5 / 8) < 5 := by
  unfold regS at h ⊢
  rw [if_neg (by omega)] at h ⊢
  split at h
  · cases h
  · next h2 =>
    rw [if_neg h2]
    have e8 : (8 : Int).toNat = 8 := rfl
    have e5 : (5 : Int).toNat = 5 := rfl
    rw [e8, e5] at h ⊢
    simp only [Bool.false_eq_true, if_false, List.length_drop, bitsAll_length] at h ⊢
    split at h
    · cases h
    · next h3 =>
      rw [if_neg h3, outsN_length]
      exact ⟨rfl, by omega⟩
theorem reg85_small (p : List UInt8) : ∀ d ∈ (regS 8 5 true p).2, d.toNat < 32 := by
  unfold regS
  rw [if_neg (by omega), if_neg (by rintro ⟨d, hd, h⟩; have := small8 p d hd; omega)]
  have e8 : (8 : Int).toNat = 8 := rfl
  have e5 : (5 : Int).toNat = 5 := rfl
  rw [e8, e5]
  simp only [if_true]
  have hbin := bitsAll_bin 8 p
  intro d hd
  split at hd
  · rcases List.mem_append.1 hd with h | h
    · exact outs_small hbin (by omega) d h
    · rw [List.mem_singleton.1 h]
      have hcb : Bin ((bitsAll 8 p).drop (5 * ((bitsAll 8 p).length / 5)) ++ List.replicate (5 - ((bitsAll 8 p).drop (5 * ((bitsAll 8 p).length / 5))).length) 0) := by
        intro x hx
        rcases List.mem_append.1 hx with h | h
        · exact hbin x (List.mem_of_mem_drop h)
        · rw [List.eq_of_mem_replicate h]; omega
      have hv := valN_lt hcb
      have hln : ((bitsAll 8 p).drop (5 * ((bitsAll 8 p).length / 5)) ++ List.replicate (5 - ((bitsAll 8 p).drop (5 * ((bitsAll 8 p).length / 5))).length) 0).length = 5 := by
        rw [List.length_append, List.length_replicate, List.length_drop]
        omega
      rw [hln] at hv
      rw [b8_of_lt (by omega)]
      exact hv
  · exact outs_small hbin (by omega) d hd

theorem segS_ok {h p : List UInt8} {ver : Int} (he : (segS h ver p).1 = 0) : 0 ≤ ver ∧ ver ≤ 16 ∧ fitsB ver p.length = true ∧ segS h ver p = bechS h (b8 ver :: (regS 8 5 true p).2) (decide (0 < ver)) := by
  unfold segS at he ⊢
  split at he
  · cases he
  · next h1 =>
    rw [if_neg h1]
    split at he
    · cases he
    · next h2 =>
      rw [if_neg h2]
      exact ⟨by omega, by omega, by cases hq : fitsB ver p.length <;> simp_all, rfl⟩
/-- What is written is read again. -/
theorem seg_back {h p : List UInt8} {ver : Int} (he : (segS h ver p).1 = 0) : fromG h (segS h ver p).2 = ⟨0, ver, p⟩ := by
  obtain ⟨h0, h16, hf, hb⟩ := segS_ok he
  rw [hb] at he ⊢
  unfold fromG
  rw [bech_back he]
  unfold segR
  rw [if_neg (by simp), if_neg (by simp)]
  have hv : ((b8 ver).toNat : Int) = ver := by have := b8_toNat ver; omega
  have hd : decide (0 < ver) = decide (0 < (b8 ver).toNat) := by
    by_cases h : 0 < ver
    · rw [decide_eq_true h, decide_eq_true (by omega)]
    · rw [decide_eq_false h, decide_eq_false (by omega)]
  simp only [reg85_back, hd]
  rw [if_neg (by rintro (h | h); · omega
                 · exact h rfl), if_neg (by simp), hv, if_neg (by rw [hf]; simp)]

theorem sumR_ok {h v : List UInt8} (he : (sumR h v).e = 0) : (sumR h v).h = h ∧ (sumR h v).d = v.take (v.length - 6) := by
  unfold sumR at he ⊢
  split at he
  · next h1 => rw [if_pos h1]; exact ⟨rfl, rfl⟩
  · next h1 =>
    rw [if_neg h1]
    split at he
    · next h2 => rw [if_pos h2]; exact ⟨rfl, rfl⟩
    · cases he
theorem fromS_ok {cs : List UInt8} (he : (fromS cs).e = 0) : cs.length ≤ 90 ∧ partOk (fromS cs).h = true ∧ (∀ v ∈ (fromS cs).d, v.toNat < 32) ∧ (fromS cs).h.length + (fromS cs).d.length + 7 = cs.length := by
  by_cases hl : 90 < cs.length
  · rw [fromS_size hl] at he; cases he
  · cases hs : splitOk cs with
    | false => rw [fromS_form hl hs] at he; cases he
    | true =>
      rw [fromS_sum hl hs] at he ⊢
      obtain ⟨e1, e2⟩ := sumR_ok he
      rw [e1, e2]
      have hs' := hs
      unfold splitOk at hs
      simp only [Bool.and_eq_true, decide_eq_true_eq] at hs
      obtain ⟨a1, a2, a3, a4, a5⟩ := hs
      rcases oneAt_spec (lowS cs) with ⟨e, _⟩ | ⟨i, e, hi, _⟩
      · omega
      · have hil := (List.getElem?_eq_some_iff.1 hi).1
        rw [lowS_length] at hil
        have hh : headS cs = (lowS cs).take i := by unfold headS; rw [e, Int.toNat_natCast]
        have ht : tailS cs = (lowS cs).drop (i + 1) := by unfold tailS; rw [e, Int.toNat_natCast]
        have hvl : (valsS cs).length = cs.length - (i + 1) := by unfold valsS; rw [placesB_length, ht, List.length_drop, lowS_length]
        have hhl : (headS cs).length = i := by rw [hh, List.length_take, lowS_length]; omega
        rw [ht, List.length_drop, lowS_length] at a4
        refine ⟨by omega, ?_, ?_, ?_⟩
        · unfold partOk
          simp only [Bool.and_eq_true, Bool.not_eq_true', List.isEmpty_eq_false_iff]
          refine ⟨by intro h0; rw [h0] at hhl; simp at hhl; omega, ?_, ?_⟩
          · rw [hh, List.all_eq_true]
            intro c hc
            have hc2 := List.mem_of_mem_take hc
            unfold lowS at hc2
            obtain ⟨d, hd, rfl⟩ := List.mem_map.1 hc2
            exact lowerB_ok d (List.all_eq_true.1 a1 d hd)
          · rw [hh, List.any_eq_false]
            intro c hc
            have hc2 := List.mem_of_mem_take hc
            unfold lowS at hc2
            obtain ⟨d, hd, rfl⟩ := List.mem_map.1 hc2
            rw [lowerB_notUp]
            simp
        · intro v hv
          have hv2 := List.mem_of_mem_take hv
          unfold valsS placesB at hv2
          obtain ⟨c, hc, rfl⟩ := List.mem_map.1 hv2
          have hk := List.all_eq_true.1 a5 c hc
          unfold knownB at hk
          have hk0 : 0 ≤ posB l32 c := by simpa using hk
          have hlt : posB l32 c < 32 := by
            obtain ⟨o, ho⟩ : ∃ o : Nat, posB l32 c = o := ⟨(posB l32 c).toNat, by omega⟩
            have h1 := (List.getElem?_eq_some_iff.1 (Lib.indexByte_some (l := l32.data.toList) (by exact ho)).1).1
            have h2 : l32.data.toList.length = 32 := by decide
            omega
          have := b8_toNat (posB l32 c)
          omega
        · rw [List.length_take, hvl, hhl]
          omega
/-- What is read may be written, and has as many letters. -/
theorem seg_again {hrp cs : List UInt8} (he : (fromG hrp cs).e = 0) : (segS hrp (fromG hrp cs).v (fromG hrp cs).p).1 = 0 ∧ (segS hrp (fromG hrp cs).v (fromG hrp cs).p).2.length = cs.length ∧ partOk hrp = true ∧ hrp.length ≤ 83 := by
  unfold fromG segR at he ⊢
  split at he
  · next h => exact absurd he h
  · next h1 =>
    rw [if_neg h1]
    have h1' : (fromS cs).e = 0 := by omega
    obtain ⟨f1, f2, f3, f4⟩ := fromS_ok h1'
    split at he
    · cases he
    · next h2 =>
      rw [if_neg h2]
      have h2' : (fromS cs).h = hrp := by simpa using h2
      rw [h2'] at f2 f4
      revert he
      split
      · intro he; cases he
      · next v vs hd =>
        intro he
        rw [hd] at f3 f4
        split at he
        · cases he
        · next h3 =>
          rw [if_neg h3]
          split at he
          · next h4 => exact absurd he h4
          · next h4 =>
            rw [if_neg h4]
            split at he
            · cases he
            · next h5 =>
              rw [if_neg h5]
              have h4' : (regS 5 8 false vs).1 = 0 := by omega
              obtain ⟨g1, g2⟩ := reg58_len h4'
              have g3 := reg85_len (regS 5 8 false vs).2
              rw [g1] at g3
              have hn : ((vs.length * 5 / 8) * 8 + 4) / 5 = vs.length := by omega
              rw [hn] at g3
              have hfit : fitsB (v.toNat : Int) (regS 5 8 false vs).2.length = true := by cases hq : fitsB (v.toNat : Int) (regS 5 8 false vs).2.length <;> simp_all
              have hbv : b8 ((v.toNat : Nat) : Int) = v := by apply UInt8.toNat_inj.1; exact b8_nat32 _ v.toNat_lt
              simp only [List.length_cons] at f4
              have hseg : segS hrp (v.toNat : Int) (regS 5 8 false vs).2 = (0, hrp ++ [49] ++ letters l32 ((v :: (regS 8 5 true (regS 5 8 false vs).2).2) ++ closeB hrp (v :: (regS 8 5 true (regS 5 8 false vs).2).2) (decide (0 < (v.toNat : Int))))) := by
                unfold segS
                rw [if_neg (by omega), if_neg (by rw [hfit]; simp), hbv]
                refine bechS_good ?_ f2 ?_ _
                · rw [List.length_cons, g3]; omega
                · refine wide_of (fun x hx => ?_)
                  rcases List.mem_cons.1 hx with rfl | hx
                  · exact f3 _ List.mem_cons_self
                  · exact reg85_small _ x hx
              refine ⟨by rw [hseg], ?_, f2, by omega⟩
              rw [hseg]
              show (hrp ++ [49] ++ letters l32 _).length = _
              rw [splitOk_len, List.length_append, closeB_length, List.length_cons, g3]
              omega
end Go.Proofs.YtpaafkhlelljcaaDoor
