/-
  The texts of bech32, as lists of bytes: what is a part for people, what a text says, and that what is written is read again. Conditions: none (plain mathematics).
-/
import Derived.Test.YtpaafkhlelljcaaDoorBcStep
import Derived.Test.YtpaafkhlelljcaaDoorChk
import Derived.Lib.Case
import Derived.Lib.LastIndexByte
namespace Go.Proofs.YtpaafkhlelljcaaDoor
open Go.RowKit

def okB (c : UInt8) : Bool := decide (33 ≤ (c.toNat : Int)) && decide ((c.toNat : Int) ≤ 126)
def partOk (h : List UInt8) : Bool := !h.isEmpty && (h.all okB && !h.any Lib.isUpperB)
def wideB (v : UInt8) : Bool := decide ((31 : Int) < (v.toNat : Int))
/-- What writing answers. -/
def bechS (h d : List UInt8) (m : Bool) : Int × List UInt8 :=
  if 83 < h.length + d.length then (2, []) else if partOk h = false ∨ d.any wideB = true then (3, []) else (0, h ++ [49] ++ letters l32 (d ++ closeB h d m))
theorem bechS_size {h d : List UInt8} (hl : 83 < h.length + d.length) (m : Bool) : bechS h d m = (2, []) := by unfold bechS; rw [if_pos hl]
theorem bechS_form {h d : List UInt8} (hl : ¬ 83 < h.length + d.length) (hf : partOk h = false ∨ d.any wideB = true) (m : Bool) : bechS h d m = (3, []) := by unfold bechS; rw [if_neg hl, if_pos hf]
theorem bechS_good {h d : List UInt8} (hl : ¬ 83 < h.length + d.length) (hp : partOk h = true) (hd : d.any wideB = false) (m : Bool) : bechS h d m = (0, h ++ [49] ++ letters l32 (d ++ closeB h d m)) := by
  unfold bechS; rw [if_neg hl, if_neg (by rw [hp, hd]; simp)]
theorem bechS_ok {h d : List UInt8} {m : Bool} (he : (bechS h d m).1 = 0) : h.length + d.length ≤ 83 ∧ partOk h = true ∧ d.any wideB = false := by
  unfold bechS at he
  split at he
  · cases he
  · next h1 =>
    split at he
    · cases he
    · next h2 => exact ⟨by omega, by cases hq : partOk h <;> simp_all, by cases hq : d.any wideB <;> simp_all⟩
theorem narrow {d : List UInt8} (h : d.any wideB = false) : ∀ v ∈ d, v.toNat < 32 := by
  intro v hv
  have := List.any_eq_false.1 h v hv
  unfold wideB at this
  have h2 : ¬ ((31 : Int) < v.toNat) := by simpa using this
  omega
theorem wide_of {d : List UInt8} (h : ∀ v ∈ d, v.toNat < 32) : d.any wideB = false := by
  rw [List.any_eq_false]
  intro v hv
  have := h v hv
  unfold wideB
  simp
  omega

/-- In lower case. -/
def lowS (cs : List UInt8) : List UInt8 := cs.map Lib.lowerB
theorem lowS_length (cs : List UInt8) : (lowS cs).length = cs.length := List.length_map _
/-- Where the last 1 stands; -1: nowhere. -/
def oneAt (cs : List UInt8) : Int := Lib.lastIndexByte ⟨cs.toArray⟩ 49
def headS (cs : List UInt8) : List UInt8 := (lowS cs).take (oneAt (lowS cs)).toNat
def tailS (cs : List UInt8) : List UInt8 := (lowS cs).drop ((oneAt (lowS cs)).toNat + 1)
def valsS (cs : List UInt8) : List UInt8 := placesB l32 (tailS cs)
def knownB (c : UInt8) : Bool := decide (0 ≤ posB l32 c)
def splitOk (cs : List UInt8) : Bool :=
  cs.all okB && (!(cs.any Lib.isUpperB && cs.any Lib.isLowerB) && (decide (1 ≤ oneAt (lowS cs)) && (decide (6 ≤ (tailS cs).length) && (tailS cs).all knownB)))
structure FromR where
  e : Int
  h : List UInt8
  d : List UInt8
  m : Bool
def noR (e : Int) : FromR := ⟨e, [], [], false⟩
def sumR (h v : List UInt8) : FromR := if sumB h v = 1 then ⟨0, h, v.take (v.length - 6), false⟩ else if sumB h v = 734539939 then ⟨0, h, v.take (v.length - 6), true⟩ else noR 5
/-- What reading answers. -/
def fromS (cs : List UInt8) : FromR := if 90 < cs.length then noR 2 else if splitOk cs = false then noR 3 else sumR (headS cs) (valsS cs)
theorem fromS_size {cs : List UInt8} (h : 90 < cs.length) : fromS cs = noR 2 := by unfold fromS; rw [if_pos h]
theorem fromS_form {cs : List UInt8} (h : ¬ 90 < cs.length) (h2 : splitOk cs = false) : fromS cs = noR 3 := by unfold fromS; rw [if_neg h, if_pos h2]
theorem fromS_sum {cs : List UInt8} (h : ¬ 90 < cs.length) (h2 : splitOk cs = true) : fromS cs = sumR (headS cs) (valsS cs) := by unfold fromS; rw [if_neg h, if_neg (by rw [h2]; simp)]

theorem lowerB_same {c : UInt8} (h : Lib.isUpperB c = false) : Lib.lowerB c = c := Lib.lowerB_of_not c h
theorem all_256 {p : UInt8 → Prop} [DecidablePred p] (h : ∀ n : Fin 256, p (UInt8.ofNat n.val)) (c : UInt8) : p c := by
  have := h ⟨c.toNat, c.toNat_lt⟩
  simpa using this
theorem lowerB_upper (c : UInt8) : (Lib.lowerB c = c) ↔ Lib.isUpperB c = false := all_256 (p := fun c => (Lib.lowerB c = c) ↔ Lib.isUpperB c = false) (by decide +kernel) c
theorem upperB_lower (c : UInt8) : (Lib.upperB c = c) ↔ Lib.isLowerB c = false := all_256 (p := fun c => (Lib.upperB c = c) ↔ Lib.isLowerB c = false) (by decide +kernel) c
theorem lowerB_one (c : UInt8) : (Lib.lowerB c = 49) ↔ c = 49 := all_256 (p := fun c => (Lib.lowerB c = 49) ↔ c = 49) (by decide +kernel) c
theorem lowerB_notUp (c : UInt8) : Lib.isUpperB (Lib.lowerB c) = false := all_256 (p := fun c => Lib.isUpperB (Lib.lowerB c) = false) (by decide +kernel) c
theorem lowerB_ok (c : UInt8) : okB c = true → okB (Lib.lowerB c) = true := all_256 (p := fun c => okB c = true → okB (Lib.lowerB c) = true) (by decide +kernel) c
theorem low_same {cs : List UInt8} : (cs == lowS cs) = !cs.any Lib.isUpperB := by
  induction cs with
  | nil => rfl
  | cons c cs ih =>
    unfold lowS at ih ⊢
    rw [List.map_cons, List.any_cons]
    by_cases h : Lib.isUpperB c = false
    · rw [h, (lowerB_upper c).2 h]
      simpa using ih
    · have h2 : ¬ Lib.lowerB c = c := fun e => h ((lowerB_upper c).1 e)
      have h3 : Lib.isUpperB c = true := by simpa using h
      rw [h3]
      have : ¬ (c :: cs = Lib.lowerB c :: cs.map Lib.lowerB) := fun e => h2 (List.cons.inj e).1.symm
      simpa using fun e => absurd e.symm h2
theorem up_same {cs : List UInt8} : (cs == cs.map Lib.upperB) = !cs.any Lib.isLowerB := by
  induction cs with
  | nil => rfl
  | cons c cs ih =>
    rw [List.map_cons, List.any_cons]
    by_cases h : Lib.isLowerB c = false
    · rw [h, (upperB_lower c).2 h]
      simpa using ih
    · have h2 : ¬ Lib.upperB c = c := fun e => h ((upperB_lower c).1 e)
      have h3 : Lib.isLowerB c = true := by simpa using h
      rw [h3]
      simpa using fun e => absurd e.symm h2

theorem get_bang {l : List UInt8} {j : Nat} (h : j < l.length) : ((⟨l.toArray⟩ : ByteArray).data[j]!) = l[j] := by
  show l.toArray[j]! = l[j]
  simp [h]
/-- The last 1 is where it is. -/
theorem oneAt_spec (cs : List UInt8) : (oneAt cs = -1 ∧ ∀ c ∈ cs, c ≠ 49) ∨ ∃ i : Nat, oneAt cs = i ∧ cs[i]? = some 49 ∧ ∀ c ∈ cs.drop (i + 1), c ≠ 49 := by
  have hsz : (⟨cs.toArray⟩ : ByteArray).size = cs.length := by show cs.toArray.size = _; simp
  unfold oneAt
  rcases Lib.lastIndexByte_spec ⟨cs.toArray⟩ 49 with ⟨e, h⟩ | ⟨i, hi, e, hc, h⟩
  · refine .inl ⟨e, fun c hc h49 => ?_⟩
    obtain ⟨j, hj, rfl⟩ := List.mem_iff_getElem.1 hc
    have := h j (by rw [hsz]; exact hj)
    rw [get_bang hj, h49] at this
    exact this rfl
  · rw [hsz] at hi
    rw [get_bang hi] at hc
    refine .inr ⟨i, e, ?_, fun c hc2 h49 => ?_⟩
    · rw [List.getElem?_eq_getElem hi]
      congr 1
      apply UInt8.toNat_inj.1
      have : (49 : UInt8).toNat = 49 := rfl
      omega
    · obtain ⟨j, hj, rfl⟩ := List.mem_iff_getElem.1 hc2
      rw [List.length_drop] at hj
      rw [List.getElem_drop] at h49
      have := h (i + 1 + j) (by omega) (by rw [hsz]; omega)
      rw [get_bang (by omega), h49] at this
      exact this rfl
theorem oneAt_is {cs : List UInt8} {i : Nat} (h : cs[i]? = some 49) (hn : ∀ c ∈ cs.drop (i + 1), c ≠ 49) : oneAt cs = i := by
  have hi := (List.getElem?_eq_some_iff.1 h).1
  rcases oneAt_spec cs with ⟨_, h2⟩ | ⟨j, e, hj, hn2⟩
  · exact absurd rfl (h2 49 (List.mem_of_getElem? h))
  · rw [e]
    have hj' := (List.getElem?_eq_some_iff.1 hj).1
    rcases Nat.lt_trichotomy i j with h3 | h3 | h3
    · refine absurd rfl (hn 49 ?_)
      refine List.mem_of_getElem? (i := j - (i + 1)) ?_
      rw [List.getElem?_drop]
      have : i + 1 + (j - (i + 1)) = j := by omega
      rw [this]; exact hj
    · rw [h3]
    · refine absurd rfl (hn2 49 ?_)
      refine List.mem_of_getElem? (i := i - (j + 1)) ?_
      rw [List.getElem?_drop]
      have : j + 1 + (i - (j + 1)) = i := by omega
      rw [this]; exact h
theorem letter_fact : ∀ n : Fin 32, let c := l32.data.toList.getD n.val 0; posB l32 c = n.val ∧ okB c = true ∧ Lib.isUpperB c = false ∧ c ≠ 49 := by decide +kernel
theorem letter_of {v : UInt8} (h : v.toNat < 32) : posB l32 (l32.data.toList.getD v.toNat 0) = v.toNat ∧ okB (l32.data.toList.getD v.toNat 0) = true ∧ Lib.isUpperB (l32.data.toList.getD v.toNat 0) = false ∧ l32.data.toList.getD v.toNat 0 ≠ 49 := letter_fact ⟨v.toNat, h⟩
theorem letters_back {vs : List UInt8} (h : ∀ v ∈ vs, v.toNat < 32) : placesB l32 (letters l32 vs) = vs ∧ (letters l32 vs).all knownB = true ∧ (letters l32 vs).all okB = true ∧ (letters l32 vs).any Lib.isUpperB = false ∧ ∀ c ∈ letters l32 vs, c ≠ 49 := by
  induction vs with
  | nil => exact ⟨rfl, rfl, rfl, rfl, by simp [letters]⟩
  | cons v vs ih =>
    obtain ⟨a1, a2, a3, a4, a5⟩ := ih (fun x hx => h x (List.mem_cons_of_mem _ hx))
    obtain ⟨b1, b2, b3, b4⟩ := letter_of (h v List.mem_cons_self)
    unfold letters placesB at *
    simp only [List.map_cons, List.all_cons, List.any_cons, a2, a3, a4, b2, b3]
    refine ⟨?_, ?_, rfl, rfl, ?_⟩
    · rw [a1, b1]
      congr 1
      apply UInt8.toNat_inj.1
      exact b8_nat32 _ v.toNat_lt
    · have : knownB (l32.data.toList.getD v.toNat 0) = true := by
        unfold knownB
        rw [b1]
        simp
      rw [this]
      rfl
    · intro c hc
      rcases List.mem_cons.1 hc with rfl | hc
      · exact b4
      · exact a5 c hc
theorem map_id_of {cs : List UInt8} (h : cs.any Lib.isUpperB = false) : lowS cs = cs := by
  have := low_same (cs := cs)
  rw [h] at this
  exact (by simpa using this : cs = lowS cs).symm
theorem take_app {h : List UInt8} {c : UInt8} {t : List UInt8} : (h ++ [c] ++ t).take h.length = h := by rw [List.append_assoc, List.take_left']; rfl
theorem drop_app {h : List UInt8} {c : UInt8} {t : List UInt8} : (h ++ [c] ++ t).drop (h.length + 1) = t := by rw [List.drop_left']; simp

/-- A text of a part and values: what it says. -/
theorem split_back {h vs : List UInt8} (hp : partOk h = true) (hv : ∀ v ∈ vs, v.toNat < 32) (hl : 6 ≤ vs.length) :
    splitOk (h ++ [49] ++ letters l32 vs) = true ∧ headS (h ++ [49] ++ letters l32 vs) = h ∧ valsS (h ++ [49] ++ letters l32 vs) = vs := by
  obtain ⟨a1, a2, a3, a4, a5⟩ := letters_back hv
  unfold partOk at hp
  simp only [Bool.and_eq_true, Bool.not_eq_true'] at hp
  obtain ⟨p1, p2, p3⟩ := hp
  have h1 : 1 ≤ h.length := by
    cases h with
    | nil => simp at p1
    | cons _ _ => simp
  have hup : (h ++ [49] ++ letters l32 vs).any Lib.isUpperB = false := by
    rw [List.any_append, List.any_append, p3, a4]
    rfl
  have hlow := map_id_of hup
  have hat : oneAt (h ++ [49] ++ letters l32 vs) = (h.length : Int) := by
    refine oneAt_is ?_ ?_
    · rw [List.append_assoc, List.getElem?_append_right (Nat.le_refl _), Nat.sub_self]
      rfl
    · rw [drop_app]
      exact a5
  have ht : tailS (h ++ [49] ++ letters l32 vs) = letters l32 vs := by
    unfold tailS
    rw [hlow, hat, Int.toNat_natCast, drop_app]
  refine ⟨?_, ?_, ?_⟩
  · unfold splitOk
    rw [ht, hlow, hat, hup, a2, List.all_append, List.all_append, p2, a3, letters_length]
    simp only [Bool.false_and, Bool.not_false, Bool.true_and, Bool.and_true]
    have e1 : [(49 : UInt8)].all okB = true := by decide
    rw [e1]
    simp
    omega
  · unfold headS
    rw [hlow, hat, Int.toNat_natCast, take_app]
  · unfold valsS
    rw [ht, a1]
theorem splitOk_len {h vs : List UInt8} : (h ++ [49] ++ letters l32 vs).length = h.length + 1 + vs.length := by simp [letters_length]; omega
/-- What is written is read again. -/
theorem bech_back {h d : List UInt8} {m : Bool} (he : (bechS h d m).1 = 0) : fromS (bechS h d m).2 = ⟨0, h, d, m⟩ := by
  obtain ⟨hl, hp, hd⟩ := bechS_ok he
  rw [bechS_good (by omega) hp hd]
  show fromS (h ++ [49] ++ letters l32 (d ++ closeB h d m)) = _
  have hv : ∀ v ∈ d ++ closeB h d m, v.toNat < 32 := fun v hv => by
    rcases List.mem_append.1 hv with h1 | h1
    · exact narrow hd v h1
    · exact closeB_small h d m v h1
  have h6 := closeB_length h d m
  obtain ⟨s1, s2, s3⟩ := split_back hp hv (by rw [List.length_append]; omega)
  rw [fromS_sum (by rw [splitOk_len, List.length_append]; omega) s1, s2, s3]
  unfold sumR
  rw [sum_close]
  have ht : (d ++ closeB h d m).take ((d ++ closeB h d m).length - 6) = d := by
    rw [List.length_append, h6, Nat.add_sub_cancel, List.take_left']
    rfl
  rw [ht]
  cases m
  · rw [if_pos (show lastX false = 1 from rfl)]
  · rw [if_neg (by decide), if_pos (show lastX true = 734539939 from rfl)]
/-- One letter that is another one is told. -/
theorem bech_one {h d : List UInt8} {m : Bool} (he : (bechS h d m).1 = 0) {k : Nat} {v v' : UInt8} (hk : (d ++ closeB h d m)[k]? = some v) (hne : v ≠ v') (hv' : v'.toNat < 32) :
    fromS (h ++ [49] ++ letters l32 ((d ++ closeB h d m).set k v')) = noR 5 := by
  obtain ⟨hl, hp, hd⟩ := bechS_ok he
  obtain ⟨L, hL⟩ : ∃ L, L = d ++ closeB h d m := ⟨_, rfl⟩
  have hv : ∀ v ∈ L, v.toNat < 32 := fun v hv => by
    rw [hL] at hv
    rcases List.mem_append.1 hv with h1 | h1
    · exact narrow hd v h1
    · exact closeB_small h d m v h1
  have h6 : L.length = d.length + 6 := by rw [hL, List.length_append, closeB_length]
  have hsum : sumB h L = lastX m := by rw [hL]; exact sum_close h d m
  rw [← hL] at hk ⊢
  have hkl := (List.getElem?_eq_some_iff.1 hk).1
  have hset : L.set k v' = L.take k ++ v' :: L.drop (k + 1) := by rw [List.set_eq_take_append_cons_drop, if_pos hkl]
  have hself : L = L.take k ++ v :: L.drop (k + 1) := by
    have hg : L[k] = v := (List.getElem?_eq_some_iff.1 hk).2
    rw [← hg, ← List.drop_eq_getElem_cons hkl, List.take_append_drop]
  have hvs : ∀ x ∈ L.set k v', x.toNat < 32 := fun x hx => by
    rcases List.mem_or_eq_of_mem_set hx with h1 | rfl
    · exact hv x h1
    · exact hv'
  obtain ⟨s1, s2, s3⟩ := split_back hp hvs (by rw [List.length_set]; omega)
  rw [fromS_sum (by rw [splitOk_len, List.length_set]; omega) s1, s2, s3]
  have told : ∀ n, sumB h (L.set k v') ≠ lastX n := fun n => by
    rw [hset]
    rw [hself] at hsum
    exact one_told h _ _ v v' (hv v (List.mem_of_getElem? hk)) hv' hne (by rw [List.length_drop]; omega) m n hsum
  unfold sumR
  rw [if_neg (show ¬ sumB h (L.set k v') = 1 from told false), if_neg (show ¬ sumB h (L.set k v') = 734539939 from told true)]
end Go.Proofs.YtpaafkhlelljcaaDoor
