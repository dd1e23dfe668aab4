/-
  Texts joined: BcStr, GrpPure, BcSeg. Conditions: those of each.
-/
import Derived.Test.YtocblkacdoahfaaGreatDoorJ20
import Derived.Lib.Case
import Derived.Lib.LastIndexByte
import Derived.Test.YtocblkacdoahfaaGreatDoorJ5
/-
  The texts of bech32, as lists of bytes: what is a part for people, what a text says, and that what is written is read again. Conditions: none (plain mathematics).
-/
namespace Go.Proofs.YtocblkacdoahfaaGreatDoor
open Go.RowKit

def okB (c : UInt8) : Bool := decide (33 ≤ (c.toNat : Int)) && decide ((c.toNat : Int) ≤ 126)
def partOk (h : List UInt8) : Bool := !h.isEmpty && (h.all okB && !h.any Lib.isUpperB)
def wideB (v : UInt8) : Bool := decide ((31 : Int) < (v.toNat : Int))
/-- What writing answers. -/
def bechS (h d : List UInt8) (m : Bool) : Int × List UInt8 :=
  if 83 < h.length + d.length then (2, []) else if partOk h = false ∨ d.any wideB = true then (3, []) else (0, h ++ [49] ++ letters l32 (d ++ closeB h d m))
theorem bechS_size {h d : List UInt8} (hl : 83 < h.length + d.length) (m : Bool) : bechS h d m = (2, []) := by unfold bechS; rw [if_pos hl]
theorem bechS_form {h d : List UInt8} (hl : ¬ 83 < h.length + d.length) (hf : partOk h = false ∨ d.any wideB = true) (m : Bool) : bechS h d m = (3, []) := by unfold bechS; rw [if_neg hl, if_pos hf]
theorem bechS_good {h d : List UInt8} (hl : ¬ 83 < h.length + d.length) (hp : partOk h = true) (hd : d.any wideB = false) (m : Bool) : bechS h d m = (0, h ++ [49] ++ letters l32 (d ++ closeB h d m)) := by
  unfold bechS; rw [if_neg hl, if_neg (by rw [hp, hd]; simp)]
theorem bechS_ok {h d : List UInt8} {m : Bool} (he : (bechS h d m).1 = 0) : h.length + d.length ≤ 83 ∧ partOk h = true ∧ d.any wideB = false := by
  unfold bechS at he
  split at he
  · cases he
  · next h1 =>
    split at he
    · cases he
    · next h2 => exact ⟨by omega, by cases hq : partOk h <;> simp_all, by cases hq : d.any wideB <;> simp_all⟩
theorem narrow {d : List UInt8} (h : d.any wideB = false) : ∀ v ∈ d, v.toNat < 32 := by
  intro v hv
  have := List.any_eq_false.1 h v hv
  unfold wideB at this
  have h2 : ¬ ((31 : Int) < v.toNat) := by simpa using this
  omega
theorem wide_of {d : List UInt8} (h : ∀ v ∈ d, v.toNat < 32) : d.any wideB = false := by
  rw [List.any_eq_false]
  intro v hv
  have := h v hv
  unfold wideB
  simp
  omega

/-- In lower case. -/
def lowS (cs : List UInt8) : List UInt8 := cs.map Lib.lowerB
theorem lowS_length (cs : List UInt8) : (lowS cs).length = cs.length := List.length_map _
/-- Where the last 1 stands; -1: nowhere. -/
def oneAt (cs : List UInt8) : Int := Lib.lastIndexByte ⟨cs.toArray⟩ 49
def headS (cs : List UInt8) : List UInt8 := (lowS cs).take (oneAt (lowS cs)).toNat
def tailS (cs : List UInt8) : List UInt8 := (lowS cs).drop ((oneAt (lowS cs)).toNat + 1)
def valsS (cs : List UInt8) : List UInt8 := placesB l32 (tailS cs)
def knownB (c : UInt8) : Bool := decide (0 ≤ posB l32 c)
def splitOk (cs : List UInt8) : Bool :=
  cs.all okB && (!(cs.any Lib.isUpperB && cs.any Lib.isLowerB) && (decide (1 ≤ oneAt (lowS cs)) && (decide (6 ≤ (tailS cs).length) && (tailS cs).all knownB)))
structure FromR where
  e : Int
  h : List UInt8
  d : List UInt8
  m : Bool
def noR (e : Int) : FromR := ⟨e, [], [], false⟩
def sumR (h v : List UInt8) : FromR := if sumB h v = 1 then ⟨0, h, v.take (v.length - 6), false⟩ else if sumB h v = 734539939 then ⟨0, h, v.take (v.length - 6), true⟩ else noR 5
/-- What reading answers. -/
def fromS (cs : List UInt8) : FromR := if 90 < cs.length then noR 2 else if splitOk cs = false then noR 3 else sumR (headS cs) (valsS cs)
theorem fromS_size {cs : List UInt8} (h : 90 < cs.length) : fromS cs = noR 2 := by unfold fromS; rw [if_pos h]
theorem fromS_form {cs : List UInt8} (h : ¬ 90 < cs.length) (h2 : splitOk cs = false) : fromS cs = noR 3 := by unfold fromS; rw [if_neg h, if_pos h2]
theorem fromS_sum {cs : List UInt8} (h : ¬ 90 < cs.length) (h2 : splitOk cs = true) : fromS cs = sumR (headS cs) (valsS cs) := by unfold fromS; rw [if_neg h, if_neg (by rw [h2]; simp)]

theorem lowerB_same {c : UInt8} (h : Lib.isUpperB c = false) : Lib.lowerB c = c := Lib.lowerB_of_not c h
theorem all_256 {p : UInt8 → Prop} [DecidablePred p] (h : ∀ n : Fin 256, p (UInt8.ofNat n.val)) (c : UInt8) : p c := by
  have := h ⟨c.toNat, c.toNat_lt⟩
  simpa using this
theorem lowerB_upper (c : UInt8) : (Lib.lowerB c = c) ↔ Lib.isUpperB c = false := all_256 (p := fun c => (Lib.lowerB c = c) ↔ Lib.isUpperB c = false) (by decide +kernel) c
theorem upperB_lower (c : UInt8) : (Lib.upperB c = c) ↔ Lib.isLowerB c = false := all_256 (p := fun c => (Lib.upperB c = c) ↔ Lib.isLowerB c = false) (by decide +kernel) c
theorem lowerB_one (c : UInt8) : (Lib.lowerB c = 49) ↔ c = 49 := all_256 (p := fun c => (Lib.lowerB c = 49) ↔ c = 49) (by decide +kernel) c
theorem lowerB_notUp (c : UInt8) : Lib.isUpperB (Lib.lowerB c) = false := all_256 (p := fun c => Lib.isUpperB (Lib.lowerB c) = false) (by decide +kernel) c
theorem lowerB_ok (c : UInt8) : okB c = true → okB (Lib.lowerB c) = true := all_256 (p := fun c => okB c = true → okB (Lib.lowerB c) = true) (by decide +kernel) c
theorem low_same {cs : List UInt8} : (cs == lowS cs) = !cs.any Lib.isUpperB := by
  induction cs with
  | nil => rfl
  | cons c cs ih =>
    unfold lowS at ih ⊢
    rw [List.map_cons, List.any_cons]
    by_cases h : Lib.isUpperB c = false
    · rw [h, (lowerB_upper c).2 h]
      simpa using ih
    · have h2 : ¬ Lib.lowerB c = c := fun e => h ((lowerB_upper c).1 e)
      have h3 : Lib.isUpperB c = true := by simpa using h
      rw [h3]
      have : ¬ (c :: cs = Lib.lowerB c :: cs.map Lib.lowerB) := fun e => h2 (List.cons.inj e).1.symm
      simpa using fun e => absurd e.symm h2
theorem up_same {cs : List UInt8} : (cs == cs.map Lib.upperB) = !cs.any Lib.isLowerB := by
  induction cs with
  | nil => rfl
  | cons c cs ih =>
    rw [List.map_cons, List.any_cons]
    by_cases h : Lib.isLowerB c = false
    · rw [h, (upperB_lower c).2 h]
      simpa using ih
    · have h2 : ¬ Lib.upperB c = c := fun e => h ((upperB_lower c).1 e)
      have h3 : Lib.isLowerB c = true := by simpa using h
      rw [h3]
      simpa using fun e => absurd e.symm h2

theorem get_bang {l : List UInt8} {j : Nat} (h : j < l.length) : ((⟨l.toArray⟩ : ByteArray).data[j]!) = l[j] := by
  show l.toArray[j]! = l[j]
  simp [h]
/-- The last 1 is where it is. -/
theorem oneAt_spec (cs : List UInt8) : (oneAt cs = -1 ∧ ∀ c ∈ cs, c ≠ 49) ∨ ∃ i : Nat, oneAt cs = i ∧ cs[i]? = some 49 ∧ ∀ c ∈ cs.drop (i + 1), c ≠ 49 := by
  have hsz : (⟨cs.toArray⟩ : ByteArray).size = cs.length := by show cs.toArray.size = _; simp
  unfold oneAt
  rcases Lib.lastIndexByte_spec ⟨cs.toArray⟩ 49 with ⟨e, h⟩ | ⟨i, hi, e, hc, h⟩
  · refine .inl ⟨e, fun c hc h49 => ?_⟩
    obtain ⟨j, hj, rfl⟩ := List.mem_iff_getElem.1 hc
    have := h j (by rw [hsz]; exact hj)
    rw [get_bang hj, h49] at this
    exact this rfl
  · rw [hsz] at hi
    rw [get_bang hi] at hc
    refine .inr ⟨i, e, ?_, fun c hc2 h49 => ?_⟩
    · rw [List.getElem?_eq_getElem hi]
      congr 1
      apply UInt8.toNat_inj.1
      have : (49 : UInt8).toNat = 49 := rfl
      omega
    · obtain ⟨j, hj, rfl⟩ := List.mem_iff_getElem.1 hc2
      rw [List.length_drop] at hj
      rw [List.getElem_drop] at h49
      have := h (i + 1 + j) (by omega) (by rw [hsz]; omega)
      rw [get_bang (by omega), h49] at this
      exact this rfl
theorem oneAt_is {cs : List UInt8} {i : Nat} (h : cs[i]? = some 49) (hn : ∀ c ∈ cs.drop (i + 1), c ≠ 49) : oneAt cs = i := by
  have hi := (List.getElem?_eq_some_iff.1 h).1
  rcases oneAt_spec cs with ⟨_, h2⟩ | ⟨j, e, hj, hn2⟩
  · exact absurd rfl (h2 49 (List.mem_of_getElem? h))
  · rw [e]
    have hj' := (List.getElem?_eq_some_iff.1 hj).1
    rcases Nat.lt_trichotomy i j with h3 | h3 | h3
    · refine absurd rfl (hn 49 ?_)
      refine List.mem_of_getElem? (i := j - (i + 1)) ?_
      rw [List.getElem?_drop]
      have : i + 1 + (j - (i + 1)) = j := by omega
      rw [this]; exact hj
    · rw [h3]
    · refine absurd rfl (hn2 49 ?_)
      refine List.mem_of_getElem? (i := i - (j + 1)) ?_
      rw [List.getElem?_drop]
      have : j + 1 + (i - (j + 1)) = i := by omega
      rw [this]; exact h
theorem letter_fact : ∀ n : Fin 32, let c := l32.data.toList.getD n.val 0; posB l32 c = n.val ∧ okB c = true ∧ Lib.isUpperB c = false ∧ c ≠ 49 := by decide +kernel
theorem letter_of {v : UInt8} (h : v.toNat < 32) : posB l32 (l32.data.toList.getD v.toNat 0) = v.toNat ∧ okB (l32.data.toList.getD v.toNat 0) = true ∧ Lib.isUpperB (l32.data.toList.getD v.toNat 0) = false ∧ l32.data.toList.getD v.toNat 0 ≠ 49 := letter_fact ⟨v.toNat, h⟩
theorem letters_back {vs : List UInt8} (h : ∀ v ∈ vs, v.toNat < 32) : placesB l32 (letters l32 vs) = vs ∧ (letters l32 vs).all knownB = true ∧ (letters l32 vs).all okB = true ∧ (letters l32 vs).any Lib.isUpperB = false ∧ ∀ c ∈ letters l32 vs, c ≠ 49 := by
  induction vs with
  | nil => exact ⟨rfl, rfl, rfl, rfl, by simp [letters]⟩
  | cons v vs ih =>
    obtain ⟨a1, a2, a3, a4, a5⟩ := ih (fun x hx => h x (List.mem_cons_of_mem _ hx))
    obtain ⟨b1, b2, b3, b4⟩ := letter_of (h v List.mem_cons_self)
    unfold letters placesB at *
    simp only [List.map_cons, List.all_cons, List.any_cons, a2, a3, a4, b2, b3]
    refine ⟨?_, ?_, rfl, rfl, ?_⟩
    · rw [a1, b1]
      congr 1
      apply UInt8.toNat_inj.1
      exact b8_nat32 _ v.toNat_lt
    · have : knownB (l32.data.toList.getD v.toNat 0) = true := by
        unfold knownB
        rw [b1]
        simp
      rw [this]
      rfl
    · intro c hc
      rcases List.mem_cons.1 hc with rfl | hc
      · exact b4
      · exact a5 c hc
theorem map_id_of {cs : List UInt8} (h : cs.any Lib.isUpperB = false) : lowS cs = cs := by
  have := low_same (cs := cs)
  rw [h] at this
  exact (by simpa using this : cs = lowS cs).symm
theorem take_app {h : List UInt8} {c : UInt8} {t : List UInt8} : (h ++ [c] ++ t).take h.length = h := by rw [List.append_assoc, List.take_left']; rfl
theorem drop_app {h : List UInt8} {c : UInt8} {t : List UInt8} : (h ++ [c] ++ t).drop (h.length + 1) = t := by rw [List.drop_left']; simp

/-- A text of a part and values: what it says. -/
theorem split_back {h vs : List UInt8} (hp : partOk h = true) (hv : ∀ v ∈ vs, v.toNat < 32) (hl : 6 ≤ vs.length) :
    splitOk (h ++ [49] ++ letters l32 vs) = true ∧ headS (h ++ [49] ++ letters l32 vs) = h ∧ valsS (h ++ [49] ++ letters l32 vs) = vs := by
  obtain ⟨a1, a2, a3, a4, a5⟩ := letters_back hv
  unfold partOk at hp
  simp only [Bool.and_eq_true, Bool.not_eq_true'] at hp
  obtain ⟨p1, p2, p3⟩ := hp
  have h1 : 1 ≤ h.length := by
    cases h with
    | nil => simp at p1
    | cons _ _ => simp
  have hup : (h ++ [49] ++ letters l32 vs).any Lib.isUpperB = false := by
    rw [List.any_append, List.any_append, p3, a4]
    rfl
  have hlow := map_id_of hup
  have hat : oneAt (h ++ [49] ++ letters l32 vs) = (h.length : Int) := by
    refine oneAt_is ?_ ?_
    · rw [List.append_assoc, List.getElem?_append_right (Nat.le_refl _), Nat.sub_self]
      rfl
    · rw [drop_app]
      exact a5
  have ht : tailS (h ++ [49] ++ letters l32 vs) = letters l32 vs := by
    unfold tailS
    rw [hlow, hat, Int.toNat_natCast, drop_app]
  refine ⟨?_, ?_, ?_⟩
  · unfold splitOk
    rw [ht, hlow, hat, hup, a2, List.all_append, List.all_append, p2, a3, letters_length]
    simp only [Bool.false_and, Bool.not_false, Bool.true_and, Bool.and_true]
    have e1 : [(49 : UInt8)].all okB = true := by decide
    rw [e1]
    simp
    omega
  · unfold headS
    rw [hlow, hat, Int.toNat_natCast, take_app]
  · unfold valsS
    rw [ht, a1]
theorem splitOk_len {h vs : List UInt8} : (h ++ [49] ++ letters l32 vs).length = h.length + 1 + vs.length := by simp [letters_length]; omega
/-- What is written is read again. -/
theorem bech_back {h d : List UInt8} {m : Bool} (he : (bechS h d m).1 = 0) : fromS (bechS h d m).2 = ⟨0, h, d, m⟩ := by
  obtain ⟨hl, hp, hd⟩ := bechS_ok he
  rw [bechS_good (by omega) hp hd]
  show fromS (h ++ [49] ++ letters l32 (d ++ closeB h d m)) = _
  have hv : ∀ v ∈ d ++ closeB h d m, v.toNat < 32 := fun v hv => by
    rcases List.mem_append.1 hv with h1 | h1
    · exact narrow hd v h1
    · exact closeB_small h d m v h1
  have h6 := closeB_length h d m
  obtain ⟨s1, s2, s3⟩ := split_back hp hv (by rw [List.length_append]; omega)
  rw [fromS_sum (by rw [splitOk_len, List.length_append]; omega) s1, s2, s3]
  unfold sumR
  rw [sum_close]
  have ht : (d ++ closeB h d m).take ((d ++ closeB h d m).length - 6) = d := by
    rw [List.length_append, h6, Nat.add_sub_cancel, List.take_left']
    rfl
  rw [ht]
  cases m
  · rw [if_pos (show lastX false = 1 from rfl)]
  · rw [if_neg (by decide), if_pos (show lastX true = 734539939 from rfl)]
/-- One letter that is another one is told. -/
theorem bech_one {h d : List UInt8} {m : Bool} (he : (bechS h d m).1 = 0) {k : Nat} {v v' : UInt8} (hk : (d ++ closeB h d m)[k]? = some v) (hne : v ≠ v') (hv' : v'.toNat < 32) :
    fromS (h ++ [49] ++ letters l32 ((d ++ closeB h d m).set k v')) = noR 5 := by
  obtain ⟨hl, hp, hd⟩ := bechS_ok he
  obtain ⟨L, hL⟩ : ∃ L, L = d ++ closeB h d m := ⟨_, rfl⟩
  have hv : ∀ v ∈ L, v.toNat < 32 := fun v hv => by
    rw [hL] at hv
    rcases List.mem_append.1 hv with h1 | h1
    · exact narrow hd v h1
    · exact closeB_small h d m v h1
  have h6 : L.length = d.length + 6 := by rw [hL, List.length_append, closeB_length]
  have hsum : sumB h L = lastX m := by rw [hL]; exact sum_close h d m
  rw [← hL] at hk ⊢
  have hkl := (List.getElem?_eq_some_iff.1 hk).1
  have hset : L.set k v' = L.take k ++ v' :: L.drop (k + 1) := by rw [List.set_eq_take_append_cons_drop, if_pos hkl]
  have hself : L = L.take k ++ v :: L.drop (k + 1) := by
    have hg : L[k] = v := (List.getElem?_eq_some_iff.1 hk).2
    rw [← hg, ← List.drop_eq_getElem_cons hkl, List.take_append_drop]
  have hvs : ∀ x ∈ L.set k v', x.toNat < 32 := fun x hx => by
    rcases List.mem_or_eq_of_mem_set hx with h1 | rfl
    · exact hv x h1
    · exact hv'
  obtain ⟨s1, s2, s3⟩ := split_back hp hvs (by rw [List.length_set]; omega)
  rw [fromS_sum (by rw [splitOk_len, List.length_set]; omega) s1, s2, s3]
  have told : ∀ n, sumB h (L.set k v') ≠ lastX n := fun n => by
    rw [hset]
    rw [hself] at hsum
    exact one_told h _ _ v v' (hv v (List.mem_of_getElem? hk)) hv' hne (by rw [List.length_drop]; omega) m n hsum
  unfold sumR
  rw [if_neg (show ¬ sumB h (L.set k v') = 1 from told false), if_neg (show ¬ sumB h (L.set k v') = 734539939 from told true)]
end Go.Proofs.YtocblkacdoahfaaGreatDoor

/-
  Values of some bits as values of others, on lists of bits. Conditions: none (plain mathematics).
-/
namespace Go.Proofs.YtocblkacdoahfaaGreatDoor
open Go.RowKit

/-- A list of bits as a number, the first one counts most. -/
def valN (l : List Nat) : Nat := l.foldl (fun a x => 2 * a + x) 0
def Bin (l : List Nat) : Prop := ∀ x ∈ l, x < 2
theorem valN_from (l : List Nat) : ∀ a, l.foldl (fun a x => 2 * a + x) a = a * 2 ^ l.length + valN l := by
  induction l with
  | nil => intro a; simp [valN]
  | cons x l ih =>
    intro a
    have e : valN (x :: l) = x * 2 ^ l.length + valN l := by
      show l.foldl _ (2 * 0 + x) = _
      rw [ih]; simp
    rw [List.foldl_cons, ih, e, List.length_cons, Nat.pow_succ, Nat.add_mul]
    have : 2 * a * 2 ^ l.length = a * (2 ^ l.length * 2) := by rw [Nat.mul_comm 2 a, Nat.mul_assoc, Nat.mul_comm 2]
    omega
theorem valN_cons (x : Nat) (l : List Nat) : valN (x :: l) = x * 2 ^ l.length + valN l := by
  show l.foldl _ (2 * 0 + x) = _
  rw [valN_from]; simp
theorem valN_append (a b : List Nat) : valN (a ++ b) = valN a * 2 ^ b.length + valN b := by
  unfold valN
  rw [List.foldl_append]
  exact valN_from b _
theorem valN_snoc (a : List Nat) (x : Nat) : valN (a ++ [x]) = 2 * valN a + x := by
  rw [valN_append]; simp [valN]; omega
theorem valN_lt {l : List Nat} (h : Bin l) : valN l < 2 ^ l.length := by
  induction l with
  | nil => simp [valN]
  | cons x l ih =>
    have hx := h x List.mem_cons_self
    have := ih (fun y hy => h y (List.mem_cons_of_mem _ hy))
    rw [valN_cons, List.length_cons, Nat.pow_succ]
    have h2 : x * 2 ^ l.length ≤ 1 * 2 ^ l.length := Nat.mul_le_mul_right _ (by omega)
    omega
theorem valN_zeros (n : Nat) : valN (List.replicate n 0) = 0 := by
  induction n with
  | zero => rfl
  | succ n ih => rw [List.replicate_succ, valN_cons, ih]; simp
theorem valN_zero {l : List Nat} (h : valN l = 0) : ∀ x ∈ l, x = 0 := by
  induction l with
  | nil => intro x hx; cases hx
  | cons y l ih =>
    rw [valN_cons] at h
    have h1 : y * 2 ^ l.length = 0 := by omega
    have h2 : valN l = 0 := by omega
    have hp : 0 < 2 ^ l.length := Nat.two_pow_pos _
    have hy : y = 0 := by
      rcases Nat.mul_eq_zero.1 h1 with h | h
      · exact h
      · omega
    intro x hx
    rcases List.mem_cons.1 hx with rfl | hx
    · exact hy
    · exact ih h2 x hx

/-- The n bits of a number. -/
def bitsV (n v : Nat) : List Nat := (List.range n).map fun k => v / 2 ^ (n - 1 - k) % 2
theorem bitsV_length (n v : Nat) : (bitsV n v).length = n := by simp [bitsV]
theorem bitsV_bin (n v : Nat) : Bin (bitsV n v) := by
  intro x hx
  unfold bitsV at hx
  obtain ⟨k, _, rfl⟩ := List.mem_map.1 hx
  exact Nat.mod_lt _ (by omega)
theorem bitsV_succ (n v : Nat) : bitsV (n + 1) v = bitsV n (v / 2) ++ [v % 2] := by
  unfold bitsV
  rw [List.range_succ, List.map_append, List.map_cons, List.map_nil]
  congr 1
  · apply List.map_congr_left
    intro k hk
    have hk := List.mem_range.1 hk
    have e : n + 1 - 1 - k = (n - 1 - k) + 1 := by omega
    rw [e, Nat.pow_succ, Nat.mul_comm, ← Nat.div_div_eq_div_mul]
  · simp
theorem bitsV_val : ∀ (n v : Nat), v < 2 ^ n → valN (bitsV n v) = v
  | 0, v, h => by simp at h; subst h; rfl
  | n + 1, v, h => by
    rw [bitsV_succ, valN_snoc, bitsV_val n (v / 2) (by rw [Nat.pow_succ] at h; omega)]
    omega
theorem val_bitsV : ∀ (l : List Nat), Bin l → bitsV l.length (valN l) = l := by
  intro l
  obtain ⟨r, hr⟩ : ∃ r, r = l.reverse := ⟨_, rfl⟩
  have hp : l = r.reverse := by rw [hr, List.reverse_reverse]
  rw [hp]
  clear hp hr l
  induction r with
  | nil => intro _; rfl
  | cons x r ih =>
    intro h
    rw [List.reverse_cons] at h ⊢
    have hx : x < 2 := h x (by simp)
    have h1 : Bin r.reverse := fun y hy => h y (List.mem_append_left _ hy)
    rw [List.length_append, List.length_cons, List.length_nil, Nat.zero_add, bitsV_succ, valN_snoc]
    have e1 : (2 * valN r.reverse + x) / 2 = valN r.reverse := by omega
    have e2 : (2 * valN r.reverse + x) % 2 = x := by omega
    rw [e1, e2, ih h1]

def bitsAll (n : Nat) (ds : List UInt8) : List Nat := ds.flatMap fun d => bitsV n d.toNat
theorem bitsAll_length (n : Nat) (ds : List UInt8) : (bitsAll n ds).length = ds.length * n := by
  induction ds with
  | nil => simp [bitsAll]
  | cons d ds ih => unfold bitsAll at ih ⊢; rw [List.flatMap_cons, List.length_append, ih, bitsV_length, List.length_cons, Nat.add_mul]; omega
theorem bitsAll_bin (n : Nat) (ds : List UInt8) : Bin (bitsAll n ds) := by
  intro x hx
  unfold bitsAll at hx
  obtain ⟨d, _, h⟩ := List.mem_flatMap.1 hx
  exact bitsV_bin n _ x h
theorem bitsAll_snoc (n : Nat) {ds : List UInt8} {i : Nat} {d : UInt8} (h : ds[i]? = some d) : bitsAll n (ds.take (i + 1)) = bitsAll n (ds.take i) ++ bitsV n d.toNat := by
  unfold bitsAll
  rw [List.take_add_one, h, List.flatMap_append]
  simp
theorem bitsAll_append (n : Nat) (a b : List UInt8) : bitsAll n (a ++ b) = bitsAll n a ++ bitsAll n b := by
  unfold bitsAll
  rw [List.flatMap_append]

/-- The first q values of t bits. -/
def outsN (t : Nat) (l : List Nat) (q : Nat) : List UInt8 := (List.range q).map fun j => b8 ((valN ((l.drop (t * j)).take t) : Nat) : Int)
theorem outsN_length (t : Nat) (l : List Nat) (q : Nat) : (outsN t l q).length = q := by simp [outsN]
theorem outsN_succ (t : Nat) (l : List Nat) (q : Nat) : outsN t l (q + 1) = outsN t l q ++ [b8 ((valN ((l.drop (t * q)).take t) : Nat) : Int)] := by
  unfold outsN
  rw [List.range_succ, List.map_append]
  rfl
theorem outsN_more {t : Nat} {l : List Nat} {q : Nat} (m : List Nat) (h : t * q ≤ l.length) : outsN t (l ++ m) q = outsN t l q := by
  unfold outsN
  apply List.map_congr_left
  intro j hj
  have hj := List.mem_range.1 hj
  have h1 : t * (j + 1) ≤ t * q := Nat.mul_le_mul_left t hj
  have h2 : t * (j + 1) = t * j + t := by rw [Nat.mul_add, Nat.mul_one]
  rw [List.drop_append_of_le_length (by omega), List.take_append_of_le_length (by rw [List.length_drop]; omega)]

/-- One value less in what is left. -/
theorem split_left {l : List Nat} {t : Nat} (hb : Bin l) : valN l / 2 ^ (l.length - t) = valN (l.take t) ∧ valN l % 2 ^ (l.length - t) = valN (l.drop t) := by
  have e : valN l = valN (l.take t) * 2 ^ (l.length - t) + valN (l.drop t) := by
    conv => lhs; rw [← List.take_append_drop t l]
    rw [valN_append, List.length_drop]
  have hlt : valN (l.drop t) < 2 ^ (l.length - t) := by
    have := valN_lt (l := l.drop t) (fun x hx => hb x (List.mem_of_mem_drop hx))
    rwa [List.length_drop] at this
  have hp : 0 < 2 ^ (l.length - t) := Nat.two_pow_pos _
  rw [e]
  constructor
  · rw [Nat.mul_comm, Nat.mul_add_div hp, Nat.div_eq_of_lt hlt, Nat.add_zero]
  · rw [Nat.mul_comm, Nat.mul_add_mod, Nat.mod_eq_of_lt hlt]

/-- What regrouping comes to: an error's number, and the values. -/
def regS (f t : Int) (pad : Bool) (ds : List UInt8) : Int × List UInt8 :=
  if f < 1 ∨ 8 < f ∨ t < 1 ∨ 8 < t then (1, [])
  else if ∃ d ∈ ds, 2 ^ f.toNat ≤ d.toNat then (3, [])
  else
    let l := bitsAll f.toNat ds
    let q := l.length / t.toNat
    let m := l.drop (t.toNat * q)
    if pad then (0, if 0 < m.length then outsN t.toNat l q ++ [b8 ((valN (m ++ List.replicate (t.toNat - m.length) 0) : Nat) : Int)] else outsN t.toNat l q)
    else if f.toNat ≤ m.length ∨ valN m ≠ 0 then (3, []) else (0, outsN t.toNat l q)

theorem b8_of_lt {n : Nat} (h : n < 256) : (b8 (n : Int)).toNat = n := by
  have := b8_toNat (n : Int)
  omega
/-- Values of t bits are the bits again. -/
theorem outs_bits {t : Nat} {l : List Nat} (hb : Bin l) (ht : t ≤ 8) : ∀ q, t * q ≤ l.length → bitsAll t (outsN t l q) = l.take (t * q)
  | 0, _ => by simp [outsN, bitsAll]
  | q + 1, h => by
    have h2 : t * (q + 1) = t * q + t := by rw [Nat.mul_add, Nat.mul_one]
    have ih := outs_bits hb ht q (by omega)
    have hc : ((l.drop (t * q)).take t).length = t := by rw [List.length_take, List.length_drop]; omega
    have hcb : Bin ((l.drop (t * q)).take t) := fun x hx => hb x (List.mem_of_mem_drop (List.mem_of_mem_take hx))
    have hv := valN_lt hcb
    rw [hc] at hv
    have h256 : (2 : Nat) ^ t ≤ 2 ^ 8 := Nat.pow_le_pow_right (by omega) ht
    have hb1 := val_bitsV _ hcb
    rw [hc] at hb1
    rw [outsN_succ, bitsAll_append, ih]
    have e : bitsAll t [b8 ((valN ((l.drop (t * q)).take t) : Nat) : Int)] = (l.drop (t * q)).take t := by
      unfold bitsAll
      simp only [List.flatMap_cons, List.flatMap_nil, List.append_nil]
      rw [b8_of_lt (by omega), hb1]
    rw [e, h2, List.take_add]
theorem outs_small {t : Nat} {l : List Nat} (hb : Bin l) (ht : t ≤ 8) {q : Nat} : ∀ d ∈ outsN t l q, d.toNat < 2 ^ t := by
  intro d hd
  unfold outsN at hd
  obtain ⟨j, hj, rfl⟩ := List.mem_map.1 hd
  have hj := List.mem_range.1 hj
  have hcb : Bin ((l.drop (t * j)).take t) := fun x hx => hb x (List.mem_of_mem_drop (List.mem_of_mem_take hx))
  have hv := valN_lt hcb
  have hl : ((l.drop (t * j)).take t).length ≤ t := List.length_take_le _ _
  have h1 : (2 : Nat) ^ ((l.drop (t * j)).take t).length ≤ 2 ^ t := Nat.pow_le_pow_right (by omega) hl
  have h256 : (2 : Nat) ^ t ≤ 2 ^ 8 := Nat.pow_le_pow_right (by omega) ht
  rw [b8_of_lt (by omega)]
  omega
/-- The values of f bits of bits that were made of values. -/
theorem outs_back {f : Nat} (ds : List UInt8) (hd : ∀ d ∈ ds, d.toNat < 2 ^ f) (z : List Nat) : outsN f (bitsAll f ds ++ z) ds.length = ds := by
  have hl := bitsAll_length f ds
  rw [outsN_more z (by rw [hl, Nat.mul_comm]; exact Nat.le_refl _)]
  induction ds with
  | nil => rfl
  | cons d ds ih =>
    have ih := ih (fun x hx => hd x (List.mem_cons_of_mem _ hx)) (bitsAll_length f ds)
    have hd0 := hd d List.mem_cons_self
    have e : bitsAll f (d :: ds) = bitsV f d.toNat ++ bitsAll f ds := rfl
    rw [List.length_cons]
    unfold outsN at ih ⊢
    rw [List.range_succ_eq_map, List.map_cons, List.map_map, e]
    congr 1
    · rw [Nat.mul_zero, List.drop_zero, List.take_append_of_le_length (by rw [bitsV_length]; exact Nat.le_refl _), List.take_of_length_le (by rw [bitsV_length]; exact Nat.le_refl _), bitsV_val _ _ hd0]
      apply UInt8.toNat_inj.1
      exact b8_of_lt d.toNat_lt
    · refine Eq.trans ?_ ih
      apply List.map_congr_left
      intro j _
      show b8 _ = b8 _
      have e2 : f * (j + 1) = f + f * j := by rw [Nat.mul_add, Nat.mul_one, Nat.add_comm]
      rw [Nat.succ_eq_add_one, e2, ← List.drop_drop, List.drop_append_of_le_length (by rw [bitsV_length]; exact Nat.le_refl _)]
      have e3 : (bitsV f d.toNat).drop f = [] := List.drop_eq_nil_of_le (by rw [bitsV_length]; exact Nat.le_refl _)
      rw [e3, List.nil_append]

/-- Fewer bits a value, padded: and back without a padding. -/
theorem reg_back {f t : Nat} {ds : List UInt8} (hf0 : 1 ≤ f) (hf : f ≤ 8) (ht0 : 1 ≤ t) (ht : t ≤ 8) (htf : t ≤ f) (hd : ∀ d ∈ ds, d.toNat < 2 ^ f) :
    regS t f false (regS f t true ds).2 = (0, ds) := by
  obtain ⟨l, hl⟩ : ∃ l, l = bitsAll f ds := ⟨_, rfl⟩
  have hlen : l.length = ds.length * f := by rw [hl, bitsAll_length]
  have hbin : Bin l := by rw [hl]; exact bitsAll_bin f ds
  obtain ⟨q, hq⟩ : ∃ q, q = l.length / t := ⟨_, rfl⟩
  obtain ⟨m, hm⟩ : ∃ m, m = l.drop (t * q) := ⟨_, rfl⟩
  have hqt : t * q ≤ l.length := by rw [hq]; exact Nat.mul_div_le _ _
  have hmt : l.length < t * q + t := by
    have := Nat.lt_mul_div_succ l.length (show 0 < t by omega)
    rw [← hq, Nat.mul_add, Nat.mul_one] at this
    exact this
  have hml : m.length < t := by rw [hm, List.length_drop]; omega
  have e1 : (f : Int).toNat = f := Int.toNat_natCast _
  have e2 : (t : Int).toNat = t := Int.toNat_natCast _
  have hnb : ¬ ∃ d ∈ ds, 2 ^ f ≤ d.toNat := fun ⟨d, h1, h2⟩ => by have := hd d h1; omega
  -- the values and the bits that they are
  obtain ⟨z, out, hout, hz, hob, hos⟩ : ∃ (z : List Nat) (out : List UInt8), regS f t true ds = (0, out) ∧ (z = List.replicate z.length 0 ∧ z.length < t) ∧ bitsAll t out = l ++ z ∧ ∀ d ∈ out, d.toNat < 2 ^ t := by
    have hreg : regS f t true ds = (0, if 0 < m.length then outsN t l q ++ [b8 ((valN (m ++ List.replicate (t - m.length) 0) : Nat) : Int)] else outsN t l q) := by
      unfold regS
      rw [if_neg (by omega), e1, e2, if_neg hnb]
      simp only [← hl, ← hq, ← hm, if_true]
    by_cases hm0 : 0 < m.length
    · refine ⟨List.replicate (t - m.length) 0, _, by rw [hreg, if_pos hm0], ⟨by simp, by simp; omega⟩, ?_, ?_⟩
      · have hcb : Bin (m ++ List.replicate (t - m.length) 0) := by
          intro x hx
          rcases List.mem_append.1 hx with h | h
          · rw [hm] at h; exact hbin x (List.mem_of_mem_drop h)
          · rw [List.eq_of_mem_replicate h]; omega
        have hcl : (m ++ List.replicate (t - m.length) 0).length = t := by rw [List.length_append, List.length_replicate]; omega
        have hv := valN_lt hcb
        rw [hcl] at hv
        have h256 : (2 : Nat) ^ t ≤ 2 ^ 8 := Nat.pow_le_pow_right (by omega) ht
        have hvb := val_bitsV _ hcb
        rw [hcl] at hvb
        rw [bitsAll_append, outs_bits hbin ht q hqt]
        have e : bitsAll t [b8 ((valN (m ++ List.replicate (t - m.length) 0) : Nat) : Int)] = m ++ List.replicate (t - m.length) 0 := by
          unfold bitsAll
          simp only [List.flatMap_cons, List.flatMap_nil, List.append_nil]
          rw [b8_of_lt (by omega), hvb]
        rw [e, ← List.append_assoc, hm, List.take_append_drop]
      · intro d hd'
        rcases List.mem_append.1 hd' with h | h
        · exact outs_small hbin ht d h
        · have hcb : Bin (m ++ List.replicate (t - m.length) 0) := by
            intro x hx
            rcases List.mem_append.1 hx with h | h
            · rw [hm] at h; exact hbin x (List.mem_of_mem_drop h)
            · rw [List.eq_of_mem_replicate h]; omega
          have hcl : (m ++ List.replicate (t - m.length) 0).length = t := by rw [List.length_append, List.length_replicate]; omega
          have hv := valN_lt hcb
          rw [hcl] at hv
          have h256 : (2 : Nat) ^ t ≤ 2 ^ 8 := Nat.pow_le_pow_right (by omega) ht
          rw [List.mem_singleton.1 h, b8_of_lt (by omega)]
          exact hv
    · have hmn : m = [] := List.eq_nil_of_length_eq_zero (by omega)
      refine ⟨[], _, by rw [hreg, if_neg hm0], ⟨rfl, by simp; omega⟩, ?_, outs_small hbin ht⟩
      rw [outs_bits hbin ht q hqt, List.append_nil]
      have := List.take_append_drop (t * q) l
      rw [← hm, hmn, List.append_nil] at this
      exact this
  rw [hout]
  show regS t f false out = (0, ds)
  have hl2 : (l ++ z).length / f = ds.length := by
    rw [List.length_append, hlen, Nat.mul_comm]
    rw [Nat.mul_add_div (by omega), Nat.div_eq_of_lt (by omega)]
    simp
  have hdrop : (l ++ z).drop (f * ds.length) = z := by
    rw [Nat.mul_comm, ← hlen, List.drop_left]
  have hvz : valN z = 0 := by rw [hz.1]; exact valN_zeros _
  have hnb2 : ¬ ∃ d ∈ out, 2 ^ t ≤ d.toNat := fun ⟨d, h1, h2⟩ => by have := hos d h1; omega
  unfold regS
  rw [if_neg (by omega), e2, e1, if_neg hnb2]
  simp only [hob, hl2, hdrop, hvz]
  rw [if_neg (by simp), if_neg (by simp; omega)]
  rw [hl, outs_back ds hd z]
end Go.Proofs.YtocblkacdoahfaaGreatDoor

/-
  Addresses of witness programs, as lists of bytes: what is written is read again, and what is read has as many letters when it is written again. Conditions: none (plain mathematics).
-/
namespace Go.Proofs.YtocblkacdoahfaaGreatDoor
open Go.RowKit

/-- May a program of this version have so many bytes? -/
def fitsB (v : Int) (n : Nat) : Bool := if v = 0 then (n == 20 || n == 32) else (decide (2 ≤ n) && decide (n ≤ 40))
theorem fitsB_le {v : Int} {n : Nat} (h : fitsB v n = true) : 2 ≤ n ∧ n ≤ 40 := by
  unfold fitsB at h
  split at h
  · simp only [Bool.or_eq_true, beq_iff_eq] at h
    omega
  · simp only [Bool.and_eq_true, decide_eq_true_eq] at h
    omega
/-- What writing answers. -/
def segS (h : List UInt8) (ver : Int) (p : List UInt8) : Int × List UInt8 :=
  if ver < 0 ∨ 16 < ver then (1, []) else if fitsB ver p.length = false then (2, []) else bechS h (b8 ver :: (regS 8 5 true p).2) (decide (0 < ver))
structure SegR where
  e : Int
  v : Int
  p : List UInt8
def noG (e : Int) : SegR := ⟨e, 0, []⟩
def segR (hrp : List UInt8) (r : FromR) : SegR :=
  if r.e ≠ 0 then noG r.e else if r.h ≠ hrp then noG 7 else
  match r.d with
  | [] => noG 3
  | v :: vs => if 16 < v.toNat ∨ r.m ≠ decide (0 < v.toNat) then noG 3 else if (regS 5 8 false vs).1 ≠ 0 then noG (regS 5 8 false vs).1 else
      if fitsB v.toNat (regS 5 8 false vs).2.length = false then noG 2 else ⟨0, v.toNat, (regS 5 8 false vs).2⟩
/-- What reading answers. -/
def fromG (hrp cs : List UInt8) : SegR := segR hrp (fromS cs)

theorem small8 (p : List UInt8) : ∀ d ∈ p, d.toNat < 2 ^ (8 : Int).toNat := fun d _ => d.toNat_lt
theorem reg85 (p : List UInt8) : (regS 8 5 true p).1 = 0 := by
  unfold regS
  rw [if_neg (by omega), if_neg (by rintro ⟨d, hd, h⟩; have := small8 p d hd; omega)]
  simp
theorem reg85_back (p : List UInt8) : regS 5 8 false (regS 8 5 true p).2 = (0, p) := by
  have := reg_back (f := 8) (t := 5) (ds := p) (by omega) (by omega) (by omega) (by omega) (by omega) (fun d _ => d.toNat_lt)
  exact this
theorem reg85_len (p : List UInt8) : (regS 8 5 true p).2.length = (p.length * 8 + 4) / 5 := by
  unfold regS
  rw [if_neg (by omega), if_neg (by rintro ⟨d, hd, h⟩; have := small8 p d hd; omega)]
  have e8 : (8 : Int).toNat = 8 := rfl
  have e5 : (5 : Int).toNat = 5 := rfl
  rw [e8, e5]
  simp only [if_true, List.length_drop, bitsAll_length]
  split
  · rw [List.length_append, outsN_length]
    simp only [List.length_cons, List.length_nil]
    omega
  · rw [outsN_length]
    omega
theorem reg58_len {vs : List UInt8} (h : (regS 5 8 false vs).1 = 0) : (regS 5 8 false vs).2.length = vs.length * 5 / 8 ∧ vs.length * 5 - 8 * (vs.length * 5 / 8) < 5 := by
  unfold regS at h ⊢
  rw [if_neg (by omega)] at h ⊢
  split at h
  · cases h
  · next h2 =>
    rw [if_neg h2]
    have e8 : (8 : Int).toNat = 8 := rfl
    have e5 : (5 : Int).toNat = 5 := rfl
    rw [e8, e5] at h ⊢
    simp only [Bool.false_eq_true, if_false, List.length_drop, bitsAll_length] at h ⊢
    split at h
    · cases h
    · next h3 =>
      rw [if_neg h3, outsN_length]
      exact ⟨rfl, by omega⟩
theorem reg85_small (p : List UInt8) : ∀ d ∈ (regS 8 5 true p).2, d.toNat < 32 := by
  unfold regS
  rw [if_neg (by omega), if_neg (by rintro ⟨d, hd, h⟩; have := small8 p d hd; omega)]
  have e8 : (8 : Int).toNat = 8 := rfl
  have e5 : (5 : Int).toNat = 5 := rfl
  rw [e8, e5]
  simp only [if_true]
  have hbin := bitsAll_bin 8 p
  intro d hd
  split at hd
  · rcases List.mem_append.1 hd with h | h
    · exact outs_small hbin (by omega) d h
    · rw [List.mem_singleton.1 h]
      have hcb : Bin ((bitsAll 8 p).drop (5 * ((bitsAll 8 p).length / 5)) ++ List.replicate (5 - ((bitsAll 8 p).drop (5 * ((bitsAll 8 p).length / 5))).length) 0) := by
        intro x hx
        rcases List.mem_append.1 hx with h | h
        · exact hbin x (List.mem_of_mem_drop h)
        · rw [List.eq_of_mem_replicate h]; omega
      have hv := valN_lt hcb
      have hln : ((bitsAll 8 p).drop (5 * ((bitsAll 8 p).length / 5)) ++ List.replicate (5 - ((bitsAll 8 p).drop (5 * ((bitsAll 8 p).length / 5))).length) 0).length = 5 := by
        rw [List.length_append, List.length_replicate, List.length_drop]
        omega
      rw [hln] at hv
      rw [b8_of_lt (by omega)]
      exact hv
  · exact outs_small hbin (by omega) d hd

theorem segS_ok {h p : List UInt8} {ver : Int} (he : (segS h ver p).1 = 0) : 0 ≤ ver ∧ ver ≤ 16 ∧ fitsB ver p.length = true ∧ segS h ver p = bechS h (b8 ver :: (regS 8 5 true p).2) (decide (0 < ver)) := by
  unfold segS at he ⊢
  split at he
  · cases he
  · next h1 =>
    rw [if_neg h1]
    split at he
    · cases he
    · next h2 =>
      rw [if_neg h2]
      exact ⟨by omega, by omega, by cases hq : fitsB ver p.length <;> simp_all, rfl⟩
/-- What is written is read again. -/
theorem seg_back {h p : List UInt8} {ver : Int} (he : (segS h ver p).1 = 0) : fromG h (segS h ver p).2 = ⟨0, ver, p⟩ := by
  obtain ⟨h0, h16, hf, hb⟩ := segS_ok he
  rw [hb] at he ⊢
  unfold fromG
  rw [bech_back he]
  unfold segR
  rw [if_neg (by simp), if_neg (by simp)]
  have hv : ((b8 ver).toNat : Int) = ver := by have := b8_toNat ver; omega
  have hd : decide (0 < ver) = decide (0 < (b8 ver).toNat) := by
    by_cases h : 0 < ver
    · rw [decide_eq_true h, decide_eq_true (by omega)]
    · rw [decide_eq_false h, decide_eq_false (by omega)]
  simp only [reg85_back, hd]
  rw [if_neg (by rintro (h | h); · omega
                 · exact h rfl), if_neg (by simp), hv, if_neg (by rw [hf]; simp)]

theorem sumR_ok {h v : List UInt8} (he : (sumR h v).e = 0) : (sumR h v).h = h ∧ (sumR h v).d = v.take (v.length - 6) := by
  unfold sumR at he ⊢
  split at he
  · next h1 => rw [if_pos h1]; exact ⟨rfl, rfl⟩
  · next h1 =>
    rw [if_neg h1]
    split at he
    · next h2 => rw [if_pos h2]; exact ⟨rfl, rfl⟩
    · cases he
theorem fromS_ok {cs : List UInt8} (he : (fromS cs).e = 0) : cs.length ≤ 90 ∧ partOk (fromS cs).h = true ∧ (∀ v ∈ (fromS cs).d, v.toNat < 32) ∧ (fromS cs).h.length + (fromS cs).d.length + 7 = cs.length := by
  by_cases hl : 90 < cs.length
  · rw [fromS_size hl] at he; cases he
  · cases hs : splitOk cs with
    | false => rw [fromS_form hl hs] at he; cases he
    | true =>
      rw [fromS_sum hl hs] at he ⊢
      obtain ⟨e1, e2⟩ := sumR_ok he
      rw [e1, e2]
      have hs' := hs
      unfold splitOk at hs
      simp only [Bool.and_eq_true, decide_eq_true_eq] at hs
      obtain ⟨a1, a2, a3, a4, a5⟩ := hs
      rcases oneAt_spec (lowS cs) with ⟨e, _⟩ | ⟨i, e, hi, _⟩
      · omega
      · have hil := (List.getElem?_eq_some_iff.1 hi).1
        rw [lowS_length] at hil
        have hh : headS cs = (lowS cs).take i := by unfold headS; rw [e, Int.toNat_natCast]
        have ht : tailS cs = (lowS cs).drop (i + 1) := by unfold tailS; rw [e, Int.toNat_natCast]
        have hvl : (valsS cs).length = cs.length - (i + 1) := by unfold valsS; rw [placesB_length, ht, List.length_drop, lowS_length]
        have hhl : (headS cs).length = i := by rw [hh, List.length_take, lowS_length]; omega
        rw [ht, List.length_drop, lowS_length] at a4
        refine ⟨by omega, ?_, ?_, ?_⟩
        · unfold partOk
          simp only [Bool.and_eq_true, Bool.not_eq_true', List.isEmpty_eq_false_iff]
          refine ⟨by intro h0; rw [h0] at hhl; simp at hhl; omega, ?_, ?_⟩
          · rw [hh, List.all_eq_true]
            intro c hc
            have hc2 := List.mem_of_mem_take hc
            unfold lowS at hc2
            obtain ⟨d, hd, rfl⟩ := List.mem_map.1 hc2
            exact lowerB_ok d (List.all_eq_true.1 a1 d hd)
          · rw [hh, List.any_eq_false]
            intro c hc
            have hc2 := List.mem_of_mem_take hc
            unfold lowS at hc2
            obtain ⟨d, hd, rfl⟩ := List.mem_map.1 hc2
            rw [lowerB_notUp]
            simp
        · intro v hv
          have hv2 := List.mem_of_mem_take hv
          unfold valsS placesB at hv2
          obtain ⟨c, hc, rfl⟩ := List.mem_map.1 hv2
          have hk := List.all_eq_true.1 a5 c hc
          unfold knownB at hk
          have hk0 : 0 ≤ posB l32 c := by simpa using hk
          have hlt : posB l32 c < 32 := by
            obtain ⟨o, ho⟩ : ∃ o : Nat, posB l32 c = o := ⟨(posB l32 c).toNat, by omega⟩
            have h1 := (List.getElem?_eq_some_iff.1 (Lib.indexByte_some (l := l32.data.toList) (by exact ho)).1).1
            have h2 : l32.data.toList.length = 32 := by decide
            omega
          have := b8_toNat (posB l32 c)
          omega
        · rw [List.length_take, hvl, hhl]
          omega
/-- What is read may be written, and has as many letters. -/
theorem seg_again {hrp cs : List UInt8} (he : (fromG hrp cs).e = 0) : (segS hrp (fromG hrp cs).v (fromG hrp cs).p).1 = 0 ∧ (segS hrp (fromG hrp cs).v (fromG hrp cs).p).2.length = cs.length ∧ partOk hrp = true ∧ hrp.length ≤ 83 := by
  unfold fromG segR at he ⊢
  split at he
  · next h => exact absurd he h
  · next h1 =>
    rw [if_neg h1]
    have h1' : (fromS cs).e = 0 := by omega
    obtain ⟨f1, f2, f3, f4⟩ := fromS_ok h1'
    split at he
    · cases he
    · next h2 =>
      rw [if_neg h2]
      have h2' : (fromS cs).h = hrp := by simpa using h2
      rw [h2'] at f2 f4
      revert he
      split
      · intro he; cases he
      · next v vs hd =>
        intro he
        rw [hd] at f3 f4
        split at he
        · cases he
        · next h3 =>
          rw [if_neg h3]
          split at he
          · next h4 => exact absurd he h4
          · next h4 =>
            rw [if_neg h4]
            split at he
            · cases he
            · next h5 =>
              rw [if_neg h5]
              have h4' : (regS 5 8 false vs).1 = 0 := by omega
              obtain ⟨g1, g2⟩ := reg58_len h4'
              have g3 := reg85_len (regS 5 8 false vs).2
              rw [g1] at g3
              have hn : ((vs.length * 5 / 8) * 8 + 4) / 5 = vs.length := by omega
              rw [hn] at g3
              have hfit : fitsB (v.toNat : Int) (regS 5 8 false vs).2.length = true := by cases hq : fitsB (v.toNat : Int) (regS 5 8 false vs).2.length <;> simp_all
              have hbv : b8 ((v.toNat : Nat) : Int) = v := by apply UInt8.toNat_inj.1; exact b8_nat32 _ v.toNat_lt
              simp only [List.length_cons] at f4
              have hseg : segS hrp (v.toNat : Int) (regS 5 8 false vs).2 = (0, hrp ++ [49] ++ letters l32 ((v :: (regS 8 5 true (regS 5 8 false vs).2).2) ++ closeB hrp (v :: (regS 8 5 true (regS 5 8 false vs).2).2) (decide (0 < (v.toNat : Int))))) := by
                unfold segS
                rw [if_neg (by omega), if_neg (by rw [hfit]; simp), hbv]
                refine bechS_good ?_ f2 ?_ _
                · rw [List.length_cons, g3]; omega
                · refine wide_of (fun x hx => ?_)
                  rcases List.mem_cons.1 hx with rfl | hx
                  · exact f3 _ List.mem_cons_self
                  · exact reg85_small _ x hx
              refine ⟨by rw [hseg], ?_, f2, by omega⟩
              rw [hseg]
              show (hrp ++ [49] ++ letters l32 _).length = _
              rw [splitOk_len, List.length_append, closeB_length, List.length_cons, g3]
              omega
end Go.Proofs.YtocblkacdoahfaaGreatDoor
