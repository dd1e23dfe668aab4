/-
  Texts joined: Chk, BcStr, Chk2. Conditions: those of each.
-/
import Derived.Test.YtgiljhdjknglpaaDoorK2
import Derived.Test.YtgiljhdjknglpaaDoorK3
import Derived.Deep.RegionWith
import Derived.Lib.Case
import Derived.Lib.LastIndexByte
/-
  text.Checksum: the sum of a descriptor. Conditions: the listed table holds what its text lays; sizes within the reach.
-/
namespace Go.Proofs.YtgiljhdjknglpaaDoor
open Go.RowKit

/-- The descriptors' code lies where it lies. -/
def CodeIs (w : World) : Prop := 0 < w.heap.size ∧ w.cell? ⟨0, 0, none⟩ = some (.int .i64 35) ∧ w.cell? ⟨0, 1, none⟩ = some (.int .u64 1056006543753) ∧
  w.cell? ⟨0, 2, none⟩ = some (.int .u64 730107360018) ∧ w.cell? ⟨0, 3, none⟩ = some (.int .u64 118834127661) ∧ w.cell? ⟨0, 4, none⟩ = some (.int .u64 236335490938) ∧
  w.cell? ⟨0, 5, none⟩ = some (.int .u64 430795026429)
theorem CodeIs.below {w w' : World} {B : Nat} (h : CodeIs w) (hb : Below B w w') (hB : 0 < B) : CodeIs w' := by
  obtain ⟨h0, h1, h2, h3, h4, h5, h6⟩ := h
  have k := fun o => hb.cell (p := ⟨0, o, none⟩) hB
  exact ⟨Nat.lt_of_lt_of_le h0 hb.size, (k 0).trans h1, (k 1).trans h2, (k 2).trans h3, (k 3).trans h4, (k 4).trans h5, (k 5).trans h6⟩

def turnsN (c : Nat) (vs : List UInt8) : Nat := vs.foldl (fun c v => turnN c v.toNat) c
theorem turns_nat : ∀ (vs : List UInt8) (c : Nat), c < 1099511627776 → vs.foldl (stepI X0) (c : Int) = ((turnsN c vs : Nat) : Int)
  | [], _, _ => rfl
  | v :: vs, c, hc => by
    have hv := v.toNat_lt
    rw [List.foldl_cons, stepI_nat c v hc, turns_nat vs _ (turnN_lt _ _ (by omega))]
    rfl
theorem turns_call (B : Nat) (x : Value) (vs : List UInt8) (c : Nat) (w : World) (hx : Byt w B x vs) (hB : B ≤ w.heap.size) (hl : vs.length ≤ 60000) (hc : c < 1099511627776) :
    Calls Tryd.prog 41 #[.agg #[.int .i64 35, .int .u64 1056006543753, .int .u64 730107360018, .int .u64 118834127661, .int .u64 236335490938, .int .u64 430795026429], .int .u64 c, x] w fun e w' => e = .returned (.int .u64 ((turnsN c vs : Nat) : Int)) ∧ Below w.heap.size w w' := by
  rw [← turns_nat vs c hc]
  exact step_any B x vs c X0 w hx hB hl (by omega) (by omega)

/-- One value, boxed. -/
theorem turn_call (q : Int) (c : Nat) (w : World) (h0 : 0 ≤ q) (h1 : q < 256) (hc : c < 1099511627776) :
    Calls Tryd.prog 41 #[.agg #[.int .i64 35, .int .u64 1056006543753, .int .u64 730107360018, .int .u64 118834127661, .int .u64 236335490938, .int .u64 430795026429], .int .u64 c, .slice (some ⟨w.heap.size, 0, none⟩) 1 1] (w.alloc (.cells #[.int .u8 q] 5))
      fun e w' => e = .returned (.int .u64 ((turnN c q.toNat : Nat) : Int)) ∧ Below w.heap.size w w' := by
  have hm : Byt (w.alloc (.cells #[.int .u8 q] 5)) (w.heap.size + 1) (.slice (some ⟨w.heap.size, 0, none⟩) 1 1) [b8 q] :=
    Byt.made w _ [_] [b8 q] (by rw [List.map_cons, List.map_nil, bv_b8_of h0 h1]) (by unfold maxLen; simp)
  refine (turns_call _ _ [b8 q] c _ hm (by simp) (by simp) hc).mono ?_
  rintro e w' ⟨rfl, hb⟩
  refine ⟨?_, ((Below.refl _ _).alloc (Nat.le_refl _) _).trans (hb.mono (by simp))⟩
  have : (b8 q).toNat = q.toNat := by have := b8_toNat q; omega
  unfold turnsN
  rw [List.foldl_cons, List.foldl_nil, this]

theorem chk1_open (c g : Nat) {p : Nat} : chk1 ⟨c, g, 2⟩ p = ⟨turnN (turnN c (p % 32)) (3 * g + p / 32), 0, 0⟩ := rfl
theorem chk1_in (c g k : Nat) {p : Nat} (h : k < 2) : chk1 ⟨c, g, k⟩ p = ⟨turnN c (p % 32), 3 * g + p / 32, k + 1⟩ := by
  unfold chk1
  rw [if_neg (by show ¬ k + 1 = 3; omega)]
def natsOf (ps : List UInt8) : List Nat := ps.map UInt8.toNat
theorem chkAll_snoc {ps : List UInt8} {i : Nat} {q : UInt8} (h : ps[i]? = some q) : chkAll ((natsOf ps).take (i + 1)) = chk1 (chkAll ((natsOf ps).take i)) q.toNat := by
  unfold chkAll natsOf
  rw [List.take_add_one, List.getElem?_map, h, List.foldl_append]
  rfl

/-- The letters of a sum. -/
def l32 : ByteArray := ⟨#[113, 112, 122, 114, 121, 57, 120, 56, 103, 102, 50, 116, 118, 100, 119, 48, 115, 51, 106, 110, 53, 52, 107, 104, 99, 101, 54, 109, 117, 97, 55, 108]⟩
def inB : ByteArray := ⟨#[48, 49, 50, 51, 52, 53, 54, 55, 56, 57, 40, 41, 91, 93, 44, 39, 47, 42, 97, 98, 99, 100, 101, 102, 103, 104, 64, 58, 36, 37, 123, 125, 73, 74, 75, 76, 77, 78, 79, 80, 81, 82, 83, 84, 85, 86, 87, 88, 89, 90, 38, 43, 45, 46, 59, 60, 61, 62, 63, 33, 94, 95, 124, 126, 105, 106, 107, 108, 109, 110, 111, 112, 113, 114, 115, 116, 117, 118, 119, 120, 121, 122, 65, 66, 67, 68, 69, 70, 71, 72, 96, 35, 34, 92, 32]⟩
def sumLetters (c : Nat) : List UInt8 := (eightOf c).map fun v => l32.data.toList.getD v 0

end Go.Proofs.YtgiljhdjknglpaaDoor

/-
  The texts of bech32, as lists of bytes: what is a part for people, what a text says, and that what is written is read again. Conditions: none (plain mathematics).
-/
namespace Go.Proofs.YtgiljhdjknglpaaDoor
open Go.RowKit

def okB (c : UInt8) : Bool := decide (33 ≤ (c.toNat : Int)) && decide ((c.toNat : Int) ≤ 126)
def partOk (h : List UInt8) : Bool := !h.isEmpty && (h.all okB && !h.any Lib.isUpperB)
def wideB (v : UInt8) : Bool := decide ((31 : Int) < (v.toNat : Int))
/-- What writing answers. -/
def bechS (h d : List UInt8) (m : Bool) : Int × List UInt8 :=
  if 83 < h.length + d.length then (2, []) else if partOk h = false ∨ d.any wideB = true then (3, []) else (0, h ++ [49] ++ letters l32 (d ++ closeB h d m))
theorem bechS_size {h d : List UInt8} (hl : 83 < h.length + d.length) (m : Bool) : bechS h d m = (2, []) := by unfold bechS; rw [if_pos hl]
theorem bechS_form {h d : List UInt8} (hl : ¬ 83 < h.length + d.length) (hf : partOk h = false ∨ d.any wideB = true) (m : Bool) : bechS h d m = (3, []) := by unfold bechS; rw [if_neg hl, if_pos hf]
theorem bechS_good {h d : List UInt8} (hl : ¬ 83 < h.length + d.length) (hp : partOk h = true) (hd : d.any wideB = false) (m : Bool) : bechS h d m = (0, h ++ [49] ++ letters l32 (d ++ closeB h d m)) := by
  unfold bechS; rw [if_neg hl, if_neg (by rw [hp, hd]; simp)]
theorem bechS_ok {h d : List UInt8} {m : Bool} (he : (bechS h d m).1 = 0) : h.length + d.length ≤ 83 ∧ partOk h = true ∧ d.any wideB = false := by
  unfold bechS at he
  split at he
  · cases he
  · next h1 =>
    split at he
    · cases he
    · next h2 => exact ⟨by omega, by cases hq : partOk h <;> simp_all, by cases hq : d.any wideB <;> simp_all⟩
theorem narrow {d : List UInt8} (h : d.any wideB = false) : ∀ v ∈ d, v.toNat < 32 := by
  intro v hv
  have := List.any_eq_false.1 h v hv
  unfold wideB at this
  have h2 : ¬ ((31 : Int) < v.toNat) := by simpa using this
  omega
theorem wide_of {d : List UInt8} (h : ∀ v ∈ d, v.toNat < 32) : d.any wideB = false := by
  rw [List.any_eq_false]
  intro v hv
  have := h v hv
  unfold wideB
  simp
  omega

/-- In lower case. -/
def lowS (cs : List UInt8) : List UInt8 := cs.map Lib.lowerB
theorem lowS_length (cs : List UInt8) : (lowS cs).length = cs.length := List.length_map _
/-- Where the last 1 stands; -1: nowhere. -/
def oneAt (cs : List UInt8) : Int := Lib.lastIndexByte ⟨cs.toArray⟩ 49
def headS (cs : List UInt8) : List UInt8 := (lowS cs).take (oneAt (lowS cs)).toNat
def tailS (cs : List UInt8) : List UInt8 := (lowS cs).drop ((oneAt (lowS cs)).toNat + 1)
def valsS (cs : List UInt8) : List UInt8 := placesB l32 (tailS cs)
def knownB (c : UInt8) : Bool := decide (0 ≤ posB l32 c)
def splitOk (cs : List UInt8) : Bool :=
  cs.all okB && (!(cs.any Lib.isUpperB && cs.any Lib.isLowerB) && (decide (1 ≤ oneAt (lowS cs)) && (decide (6 ≤ (tailS cs).length) && (tailS cs).all knownB)))
structure FromR where
  e : Int
  h : List UInt8
  d : List UInt8
  m : Bool
def noR (e : Int) : FromR := ⟨e, [], [], false⟩
def sumR (h v : List UInt8) : FromR := if sumB h v = 1 then ⟨0, h, v.take (v.length - 6), false⟩ else if sumB h v = 734539939 then ⟨0, h, v.take (v.length - 6), true⟩ else noR 5
/-- What reading answers. -/
def fromS (cs : List UInt8) : FromR := if 90 < cs.length then noR 2 else if splitOk cs = false then noR 3 else sumR (headS cs) (valsS cs)
theorem fromS_size {cs : List UInt8} (h : 90 < cs.length) : fromS cs = noR 2 := by unfold fromS; rw [if_pos h]
theorem fromS_form {cs : List UInt8} (h : ¬ 90 < cs.length) (h2 : splitOk cs = false) : fromS cs = noR 3 := by unfold fromS; rw [if_neg h, if_pos h2]
theorem fromS_sum {cs : List UInt8} (h : ¬ 90 < cs.length) (h2 : splitOk cs = true) : fromS cs = sumR (headS cs) (valsS cs) := by unfold fromS; rw [if_neg h, if_neg (by rw [h2]; simp)]

theorem lowerB_same {c : UInt8} (h : Lib.isUpperB c = false) : Lib.lowerB c = c := Lib.lowerB_of_not c h
theorem all_256 {p : UInt8 → Prop} [DecidablePred p] (h : ∀ n : Fin 256, p (UInt8.ofNat n.val)) (c : UInt8) : p c := by
  have := h ⟨c.toNat, c.toNat_lt⟩
  simpa using this
theorem lowerB_upper (c : UInt8) : (Lib.lowerB c = c) ↔ Lib.isUpperB c = false := all_256 (p := fun c => (Lib.lowerB c = c) ↔ Lib.isUpperB c = false) (by decide +kernel) c
theorem upperB_lower (c : UInt8) : (Lib.upperB c = c) ↔ Lib.isLowerB c = false := all_256 (p := fun c => (Lib.upperB c = c) ↔ Lib.isLowerB c = false) (by decide +kernel) c
theorem lowerB_one (c : UInt8) : (Lib.lowerB c = 49) ↔ c = 49 := all_256 (p := fun c => (Lib.lowerB c = 49) ↔ c = 49) (by decide +kernel) c
theorem lowerB_notUp (c : UInt8) : Lib.isUpperB (Lib.lowerB c) = false := all_256 (p := fun c => Lib.isUpperB (Lib.lowerB c) = false) (by decide +kernel) c
theorem lowerB_ok (c : UInt8) : okB c = true → okB (Lib.lowerB c) = true := all_256 (p := fun c => okB c = true → okB (Lib.lowerB c) = true) (by decide +kernel) c
theorem low_same {cs : List UInt8} : (cs == lowS cs) = !cs.any Lib.isUpperB := by
  induction cs with
  | nil => rfl
  | cons c cs ih =>
    unfold lowS at ih ⊢
    rw [List.map_cons, List.any_cons]
    by_cases h : Lib.isUpperB c = false
    · rw [h, (lowerB_upper c).2 h]
      simpa using ih
    · have h2 : ¬ Lib.lowerB c = c := fun e => h ((lowerB_upper c).1 e)
      have h3 : Lib.isUpperB c = true := by simpa using h
      rw [h3]
      have : ¬ (c :: cs = Lib.lowerB c :: cs.map Lib.lowerB) := fun e => h2 (List.cons.inj e).1.symm
      simpa using fun e => absurd e.symm h2
theorem up_same {cs : List UInt8} : (cs == cs.map Lib.upperB) = !cs.any Lib.isLowerB := by
  induction cs with
  | nil => rfl
  | cons c cs ih =>
    rw [List.map_cons, List.any_cons]
    by_cases h : Lib.isLowerB c = false
    · rw [h, (upperB_lower c).2 h]
      simpa using ih
    · have h2 : ¬ Lib.upperB c = c := fun e => h ((upperB_lower c).1 e)
      have h3 : Lib.isLowerB c = true := by simpa using h
      rw [h3]
      simpa using fun e => absurd e.symm h2

theorem get_bang {l : List UInt8} {j : Nat} (h : j < l.length) : ((⟨l.toArray⟩ : ByteArray).data[j]!) = l[j] := by
  show l.toArray[j]! = l[j]
  simp [h]
/-- The last 1 is where it is. -/
theorem oneAt_spec (cs : List UInt8) : (oneAt cs = -1 ∧ ∀ c ∈ cs, c ≠ 49) ∨ ∃ i : Nat, oneAt cs = i ∧ cs[i]? = some 49 ∧ ∀ c ∈ cs.drop (i + 1), c ≠ 49 := by
  have hsz : (⟨cs.toArray⟩ : ByteArray).size = cs.length := by show cs.toArray.size = _; simp
  unfold oneAt
  rcases Lib.lastIndexByte_spec ⟨cs.toArray⟩ 49 with ⟨e, h⟩ | ⟨i, hi, e, hc, h⟩
  · refine .inl ⟨e, fun c hc h49 => ?_⟩
    obtain ⟨j, hj, rfl⟩ := List.mem_iff_getElem.1 hc
    have := h j (by rw [hsz]; exact hj)
    rw [get_bang hj, h49] at this
    exact this rfl
  · rw [hsz] at hi
    rw [get_bang hi] at hc
    refine .inr ⟨i, e, ?_, fun c hc2 h49 => ?_⟩
    · rw [List.getElem?_eq_getElem hi]
      congr 1
      apply UInt8.toNat_inj.1
      have : (49 : UInt8).toNat = 49 := rfl
      omega
    · obtain ⟨j, hj, rfl⟩ := List.mem_iff_getElem.1 hc2
      rw [List.length_drop] at hj
      rw [List.getElem_drop] at h49
      have := h (i + 1 + j) (by omega) (by rw [hsz]; omega)
      rw [get_bang (by omega), h49] at this
      exact this rfl
theorem oneAt_is {cs : List UInt8} {i : Nat} (h : cs[i]? = some 49) (hn : ∀ c ∈ cs.drop (i + 1), c ≠ 49) : oneAt cs = i := by
  have hi := (List.getElem?_eq_some_iff.1 h).1
  rcases oneAt_spec cs with ⟨_, h2⟩ | ⟨j, e, hj, hn2⟩
  · exact absurd rfl (h2 49 (List.mem_of_getElem? h))
  · rw [e]
    have hj' := (List.getElem?_eq_some_iff.1 hj).1
    rcases Nat.lt_trichotomy i j with h3 | h3 | h3
    · refine absurd rfl (hn 49 ?_)
      refine List.mem_of_getElem? (i := j - (i + 1)) ?_
      rw [List.getElem?_drop]
      have : i + 1 + (j - (i + 1)) = j := by omega
      rw [this]; exact hj
    · rw [h3]
    · refine absurd rfl (hn2 49 ?_)
      refine List.mem_of_getElem? (i := i - (j + 1)) ?_
      rw [List.getElem?_drop]
      have : j + 1 + (i - (j + 1)) = i := by omega
      rw [this]; exact h
theorem letter_fact : ∀ n : Fin 32, let c := l32.data.toList.getD n.val 0; posB l32 c = n.val ∧ okB c = true ∧ Lib.isUpperB c = false ∧ c ≠ 49 := by decide +kernel
theorem letter_of {v : UInt8} (h : v.toNat < 32) : posB l32 (l32.data.toList.getD v.toNat 0) = v.toNat ∧ okB (l32.data.toList.getD v.toNat 0) = true ∧ Lib.isUpperB (l32.data.toList.getD v.toNat 0) = false ∧ l32.data.toList.getD v.toNat 0 ≠ 49 := letter_fact ⟨v.toNat, h⟩
theorem letters_back {vs : List UInt8} (h : ∀ v ∈ vs, v.toNat < 32) : placesB l32 (letters l32 vs) = vs ∧ (letters l32 vs).all knownB = true ∧ (letters l32 vs).all okB = true ∧ (letters l32 vs).any Lib.isUpperB = false ∧ ∀ c ∈ letters l32 vs, c ≠ 49 := by
  induction vs with
  | nil => exact ⟨rfl, rfl, rfl, rfl, by simp [letters]⟩
  | cons v vs ih =>
    obtain ⟨a1, a2, a3, a4, a5⟩ := ih (fun x hx => h x (List.mem_cons_of_mem _ hx))
    obtain ⟨b1, b2, b3, b4⟩ := letter_of (h v List.mem_cons_self)
    unfold letters placesB at *
    simp only [List.map_cons, List.all_cons, List.any_cons, a2, a3, a4, b2, b3]
    refine ⟨?_, ?_, rfl, rfl, ?_⟩
    · rw [a1, b1]
      congr 1
      apply UInt8.toNat_inj.1
      exact b8_nat32 _ v.toNat_lt
    · have : knownB (l32.data.toList.getD v.toNat 0) = true := by
        unfold knownB
        rw [b1]
        simp
      rw [this]
      rfl
    · intro c hc
      rcases List.mem_cons.1 hc with rfl | hc
      · exact b4
      · exact a5 c hc
theorem map_id_of {cs : List UInt8} (h : cs.any Lib.isUpperB = false) : lowS cs = cs := by
  have := low_same (cs := cs)
  rw [h] at this
  exact (by simpa using this : cs = lowS cs).symm
theorem take_app {h : List UInt8} {c : UInt8} {t : List UInt8} : (h ++ [c] ++ t).take h.length = h := by rw [List.append_assoc, List.take_left']; rfl
theorem drop_app {h : List UInt8} {c : UInt8} {t : List UInt8} : (h ++ [c] ++ t).drop (h.length + 1) = t := by rw [List.drop_left']; simp

/-- A text of a part and values: what it says. -/
theorem split_back {h vs : List UInt8} (hp : partOk h = true) (hv : ∀ v ∈ vs, v.toNat < 32) (hl : 6 ≤ vs.length) :
    splitOk (h ++ [49] ++ letters l32 vs) = true ∧ headS (h ++ [49] ++ letters l32 vs) = h ∧ valsS (h ++ [49] ++ letters l32 vs) = vs := by
  obtain ⟨a1, a2, a3, a4, a5⟩ := letters_back hv
  unfold partOk at hp
  simp only [Bool.and_eq_true, Bool.not_eq_true'] at hp
  obtain ⟨p1, p2, p3⟩ := hp
  have h1 : 1 ≤ h.length := by
    cases h with
    | nil => simp at p1
    | cons _ _ => simp
  have hup : (h ++ [49] ++ letters l32 vs).any Lib.isUpperB = false := by
    rw [List.any_append, List.any_append, p3, a4]
    rfl
  have hlow := map_id_of hup
  have hat : oneAt (h ++ [49] ++ letters l32 vs) = (h.length : Int) := by
    refine oneAt_is ?_ ?_
    · rw [List.append_assoc, List.getElem?_append_right (Nat.le_refl _), Nat.sub_self]
      rfl
    · rw [drop_app]
      exact a5
  have ht : tailS (h ++ [49] ++ letters l32 vs) = letters l32 vs := by
    unfold tailS
    rw [hlow, hat, Int.toNat_natCast, drop_app]
  refine ⟨?_, ?_, ?_⟩
  · unfold splitOk
    rw [ht, hlow, hat, hup, a2, List.all_append, List.all_append, p2, a3, letters_length]
    simp only [Bool.false_and, Bool.not_false, Bool.true_and, Bool.and_true]
    have e1 : [(49 : UInt8)].all okB = true := by decide
    rw [e1]
    simp
    omega
  · unfold headS
    rw [hlow, hat, Int.toNat_natCast, take_app]
  · unfold valsS
    rw [ht, a1]
theorem splitOk_len {h vs : List UInt8} : (h ++ [49] ++ letters l32 vs).length = h.length + 1 + vs.length := by simp [letters_length]; omega
/-- What is written is read again. -/
theorem bech_back {h d : List UInt8} {m : Bool} (he : (bechS h d m).1 = 0) : fromS (bechS h d m).2 = ⟨0, h, d, m⟩ := by
  obtain ⟨hl, hp, hd⟩ := bechS_ok he
  rw [bechS_good (by omega) hp hd]
  show fromS (h ++ [49] ++ letters l32 (d ++ closeB h d m)) = _
  have hv : ∀ v ∈ d ++ closeB h d m, v.toNat < 32 := fun v hv => by
    rcases List.mem_append.1 hv with h1 | h1
    · exact narrow hd v h1
    · exact closeB_small h d m v h1
  have h6 := closeB_length h d m
  obtain ⟨s1, s2, s3⟩ := split_back hp hv (by rw [List.length_append]; omega)
  rw [fromS_sum (by rw [splitOk_len, List.length_append]; omega) s1, s2, s3]
  unfold sumR
  rw [sum_close]
  have ht : (d ++ closeB h d m).take ((d ++ closeB h d m).length - 6) = d := by
    rw [List.length_append, h6, Nat.add_sub_cancel, List.take_left']
    rfl
  rw [ht]
  cases m
  · rw [if_pos (show lastX false = 1 from rfl)]
  · rw [if_neg (by decide), if_pos (show lastX true = 734539939 from rfl)]
/-- One letter that is another one is told. -/
theorem bech_one {h d : List UInt8} {m : Bool} (he : (bechS h d m).1 = 0) {k : Nat} {v v' : UInt8} (hk : (d ++ closeB h d m)[k]? = some v) (hne : v ≠ v') (hv' : v'.toNat < 32) :
    fromS (h ++ [49] ++ letters l32 ((d ++ closeB h d m).set k v')) = noR 5 := by
  obtain ⟨hl, hp, hd⟩ := bechS_ok he
  obtain ⟨L, hL⟩ : ∃ L, L = d ++ closeB h d m := ⟨_, rfl⟩
  have hv : ∀ v ∈ L, v.toNat < 32 := fun v hv => by
    rw [hL] at hv
    rcases List.mem_append.1 hv with h1 | h1
    · exact narrow hd v h1
    · exact closeB_small h d m v h1
  have h6 : L.length = d.length + 6 := by rw [hL, List.length_append, closeB_length]
  have hsum : sumB h L = lastX m := by rw [hL]; exact sum_close h d m
  rw [← hL] at hk ⊢
  have hkl := (List.getElem?_eq_some_iff.1 hk).1
  have hset : L.set k v' = L.take k ++ v' :: L.drop (k + 1) := by rw [List.set_eq_take_append_cons_drop, if_pos hkl]
  have hself : L = L.take k ++ v :: L.drop (k + 1) := by
    have hg : L[k] = v := (List.getElem?_eq_some_iff.1 hk).2
    rw [← hg, ← List.drop_eq_getElem_cons hkl, List.take_append_drop]
  have hvs : ∀ x ∈ L.set k v', x.toNat < 32 := fun x hx => by
    rcases List.mem_or_eq_of_mem_set hx with h1 | rfl
    · exact hv x h1
    · exact hv'
  obtain ⟨s1, s2, s3⟩ := split_back hp hvs (by rw [List.length_set]; omega)
  rw [fromS_sum (by rw [splitOk_len, List.length_set]; omega) s1, s2, s3]
  have told : ∀ n, sumB h (L.set k v') ≠ lastX n := fun n => by
    rw [hset]
    rw [hself] at hsum
    exact one_told h _ _ v v' (hv v (List.mem_of_getElem? hk)) hv' hne (by rw [List.length_drop]; omega) m n hsum
  unfold sumR
  rw [if_neg (show ¬ sumB h (L.set k v') = 1 from told false), if_neg (show ¬ sumB h (L.set k v') = 734539939 from told true)]
end Go.Proofs.YtgiljhdjknglpaaDoor

/-
  text.Checksum, walked. Conditions: the listed table holds what its text lays; sizes within the reach.
-/
namespace Go.Proofs.YtgiljhdjknglpaaDoor
open Go.RowKit

theorem bits_xor1 (c : Nat) (hc : c < 1099511627776) : bits .xor .u64 (c : Int) 1 = ((c ^^^ 1 : Nat) : Int) := bits_xor_u64_nat c 1 (by omega) (by omega)
theorem fives_eight (c : Nat) (hc : c < 1099511627776) : (fivesI (c : Int) 8).map UInt8.toNat = eightOf c := by
  have key : ∀ i, (fiveI (c : Int) (5 * (8 - 1 - i))).toNat = c / 2 ^ (5 * (7 - i)) % 32 := by
    intro i
    have e8 : 8 - 1 - i = 7 - i := by omega
    rw [e8]
    generalize 5 * (7 - i) = d
    have h2 : ((c : Int) / 2 ^ d) = ((c / 2 ^ d : Nat) : Int) := by simp
    have hle : c / 2 ^ d ≤ c := Nat.div_le_self _ _
    unfold fiveI
    rw [h2]
    generalize c / 2 ^ d = e at hle
    have h3 := bits_mask .u64 64 (by decide) wraps_u64 5 (by decide) (e : Int) (by omega) (by omega)
    have e5 : ((2 : Int) ^ 5 - 1) = 31 := by decide
    rw [e5] at h3
    rw [h3]
    have h4 := b8_toNat ((e : Int) % 2 ^ 5)
    omega
  unfold fivesI eightOf
  rw [List.map_map]
  exact List.map_congr_left fun i _ => key i
theorem letters_sum (c : Nat) (hc : c < 1099511627776) : letters l32 (fivesI (c : Int) 8) = sumLetters c := by
  unfold letters sumLetters
  rw [← fives_eight c hc, List.map_map]
  rfl
theorem fives_small (c : Nat) (hc : c < 1099511627776) : ∀ p ∈ fivesI (c : Int) 8, p.toNat < l32.size := by
  intro p hp
  have h : p.toNat ∈ (fivesI (c : Int) 8).map UInt8.toNat := List.mem_map_of_mem hp
  rw [fives_eight c hc] at h
  unfold eightOf at h
  obtain ⟨i, _, hi⟩ := List.mem_map.1 h
  have : l32.size = 32 := by decide
  omega

theorem below_made2 {w w1 : World} {o : Obj} (h : Below (w.alloc o).drew.heap.size (w.alloc o).drew w1) : Below w.heap.size w w1 :=
  (((Below.refl _ w).alloc (Nat.le_refl _) o)).trans ⟨h.os, h.tape, h.output, Nat.le_trans (by simp) h.size, fun k hk => h.block k (Nat.lt_of_lt_of_le hk (by simp))⟩
/-- What Checksum answers. -/
def ChkPost (w : World) (cs : List UInt8) (e : Ending) (w' : World) : Prop :=
  Below w.heap.size w w' ∧ ((∀ c ∈ cs, 0 ≤ posB inB c) ∧ e = .returned (.tuple #[.string ⟨(sumLetters (chkN (natsOf (placesB inB cs)))).toArray⟩, .int .i64 0]) ∨ (∃ c ∈ cs, posB inB c < 0) ∧ e = .returned (.tuple #[.string ⟨#[]⟩, .int .i64 3]))

theorem inB_places {cs : List UInt8} (h : ∀ c ∈ cs, 0 ≤ posB inB c) : ∀ p ∈ natsOf (placesB inB cs), p < 96 := by
  intro p hp
  unfold natsOf placesB at hp
  rw [List.map_map] at hp
  obtain ⟨c, hc, rfl⟩ := List.mem_map.1 hp
  have h0 := h c hc
  obtain ⟨o, ho⟩ : ∃ o : Nat, posB inB c = o := ⟨(posB inB c).toNat, by omega⟩
  have h1 := (List.getElem?_eq_some_iff.1 (Lib.indexByte_some (l := inB.data.toList) (by exact ho)).1).1
  have h2 : inB.data.toList.length = 95 := by decide
  have h3 := b8_toNat (posB inB c)
  show (b8 (posB inB c)).toNat < 96
  omega

set_option maxRecDepth 100000 in
set_option maxHeartbeats 3200000 in
theorem checksum_any (s : ByteArray) (w : World) (hl : s.size ≤ 2000) (hcode : CodeIs w) :
    Calls Tryd.prog 20 #[.string s] w (ChkPost w s.data.toList) := by
  have HC := Lib.hid hcode
  clear hcode
  go_enter Tryd.func20, Tryd.ntmps20
  go_wp2_with fail
  refine (places_any s inB w (by omega) (by decide)).mono ?_
  rintro e w1 ⟨hb1, ⟨hall, rfl, hrow⟩ | ⟨hno, rfl⟩⟩
  · obtain ⟨ps, hps⟩ : ∃ ps, ps = placesB inB s.data.toList := ⟨_, rfl⟩
    have hpl : ps.length = s.data.toList.length := by rw [hps, placesB_length]
    have hsz : s.data.toList.length = s.size := rfl
    have hp96 := inB_places hall
    have hC1 : CodeIs w1 := HC.out.below hb1 HC.out.1
    rw [← hps] at hrow hp96
    have HP := Lib.hid hps
    have H96 := Lib.hid hp96
    have HA := Lib.hid hall
    have HR := Lib.hid hrow
    have HC1 := Lib.hid hC1
    obtain ⟨n, hn⟩ : ∃ n, n = s.data.toList.length := ⟨_, rfl⟩
    rw [← hn] at hpl hsz
    rw [← hn]
    have HN := Lib.hid hn
    have HPL := Lib.hid hpl
    have hn2 : n ≤ 2000 := by omega
    clear hps hp96 hall hrow hC1 hn hpl hsz
    go_wp2_with fail
    go_loopw [20, 6, 7, 8] (fun j cc gg kk wr => ∃ (i : Nat) (c g k : Nat), i ≤ n ∧ j = .int .i64 i ∧ cc = .int .u64 c ∧ gg = .int .u8 g ∧ kk = .int .i64 k ∧ Hid (chkAll ((natsOf ps).take i) = ⟨c, g, k⟩) ∧ ChkOk ⟨c, g, k⟩ ∧ Below w1.heap.size w1 wr) (fun j _ _ _ _ => n - (intOf j).toNat)
    case atStart => exact ⟨0, 1, 0, 0, Nat.zero_le _, rfl, rfl, rfl, rfl, Lib.hid rfl, chkSt0_ok, Below.refl _ _⟩
    case round =>
      obtain ⟨i, c, g, k, hi, rfl, rfl, rfl, rfl, hst, hok, hbel⟩ := hrel
      have hcc := hok.c
      have hk3 := hok.k
      have hg8 := hok.g8
      simp only at hcc hk3 hg8
      by_cases hlt : i < n
      · obtain ⟨q, hq⟩ : ∃ q, ps[i]? = some q := ⟨_, List.getElem?_eq_getElem (by have := HPL.out; omega)⟩
        have hcell : wr.cell? ⟨w.heap.size, i, none⟩ = some (.int .u8 (q.toNat : Int)) := (hbel.cell (p := ⟨w.heap.size, i, none⟩) HR.out.lt).trans (HR.out.cell hq)
        have hq96 : q.toNat < 96 := H96.out _ (by unfold natsOf; exact List.mem_map_of_mem (List.mem_of_getElem? hq))
        obtain ⟨gz, g0, g1, g2, g3, g4, g5⟩ := HC1.out.below hbel HC1.out.1
        have hnext : chkAll ((natsOf ps).take (i + 1)) = chk1 ⟨c, g, k⟩ q.toNat := by rw [chkAll_snoc hq, hst.out]
        have hok2 := chk1_ok hok hq96
        have C1 := Lib.hid (turn_call ((q.toNat : Int) % 32) c wr (by omega) (by omega) hcc)
        have C2 := fun W => Lib.hid (turn_call (3 * (g : Int) + (q.toNat : Int) / 32) (turnN c (q.toNat % 32)) W (by omega) (by omega) (turnN_lt _ _ (by omega)))
        have e1 : ((q.toNat : Int) % 32).toNat = q.toNat % 32 := by omega
        have e2 : (3 * (g : Int) + (q.toNat : Int) / 32).toNat = 3 * g + q.toNat / 32 := by omega
        rw [e1] at C1
        simp only [e2] at C2
        have HB := Lib.hid hbel
        clear hq hst hok e1 e2 hbel
        by_cases hk2 : k = 2
        · subst hk2
          rw [chk1_open] at hnext hok2
          have HN2 := Lib.hid hnext
          have HO := Lib.hid hok2
          clear hnext hok2
          go_wp2_with fail
          refine C1.out.mono ?_
          rintro e w2 ⟨rfl, hb2⟩
          obtain ⟨fz, f0, f1, f2, f3, f4, f5⟩ := (HC1.out.below HB.out HC1.out.1).below hb2 gz
          go_wp2_with fail
          refine (C2 _).out.mono ?_
          rintro e w3 ⟨rfl, hb3⟩
          go_wp2
          refine ⟨⟨i + 1, _, _, _, by omega, by go_num, rfl, rfl, rfl, HN2, HO.out, (HB.out.trans (hb2.mono HB.out.size)).trans (hb3.mono (Nat.le_trans HB.out.size hb2.size))⟩, by simp [intOf]; omega⟩
        · rw [chk1_in _ _ _ (by omega)] at hnext hok2
          have HN2 := Lib.hid hnext
          have HO := Lib.hid hok2
          have hd : ((k : Int) + 1 == 3) = false := by simp; omega
          clear hnext hok2
          go_wp2_with fail
          refine C1.out.mono ?_
          rintro e w2 ⟨rfl, hb2⟩
          go_wp2
          refine ⟨⟨i + 1, _, _, _, by omega, by go_num, rfl, congrArg (Value.int .u8) (by omega), congrArg (Value.int .i64) (by omega), HN2, HO.out, HB.out.trans (hb2.mono HB.out.size)⟩, by simp [intOf]; omega⟩
      · have hie : (natsOf ps).take i = natsOf ps := List.take_of_length_le (by have := HPL.out; unfold natsOf; rw [List.length_map]; omega)
        rw [hie] at hst
        have hend := chkEnd_lt hok
        obtain ⟨ce, hce⟩ : ∃ ce, ce = chkEnd ⟨c, g, k⟩ := ⟨_, rfl⟩
        rw [← hce] at hend
        have HCE := Lib.hid hce
        have HB := Lib.hid hbel
        have HST := Lib.hid hst.out
        have C1 := Lib.hid (turn_call (g : Int) c wr (by omega) (by omega) hcc)
        obtain ⟨gz, g0, g1, g2, g3, g4, g5⟩ := HC1.out.below hbel HC1.out.1
        clear hce hbel hst hok hie
        go_upto_if 46 with fail
        go_cut [6] (fun s6 wx => s6 = .int .u64 (ce : Int) ∧ Below w1.heap.size w1 wx)
        case first =>
          by_cases hk0 : 0 < k
          · have hce : turnN c g = ce := by rw [HCE.out]; unfold chkEnd; rw [if_pos hk0]
            have hgn : ((g : Int)).toNat = g := by omega
            rw [hgn] at C1
            have HCE2 := Lib.hid hce
            clear hce hgn
            go_wp2_with fail
            refine C1.out.mono ?_
            rintro e w2 ⟨rfl, hb2⟩
            go_wp2
            go_meet
            exact ⟨by rw [← HCE2.out], HB.out.trans (hb2.mono HB.out.size)⟩
          · have hce : c = ce := by rw [HCE.out]; unfold chkEnd; rw [if_neg hk0]
            have HCE2 := Lib.hid hce
            clear hce
            go_wp2
            go_meet
            exact ⟨by rw [← HCE2.out], HB.out⟩
        case rest =>
          obtain ⟨rfl, hbw⟩ := hcut
          obtain ⟨gz', g0', g1', g2', g3', g4', g5'⟩ := HC1.out.below hbw HC1.out.1
          have hmk : ∀ W, (Instr.makeSlice 23 (.int .i64 8) (.int .i64 8)).run Tryd.prog W = .ok (.slice (some ⟨W.heap.size, 0, none⟩) 8 8) (W.alloc (.cells (zeroRow 8) 5)) := fun W => make_bytes W 8 8 rfl (by omega)
          have HBW := Lib.hid hbw
          clear hbw C1 HB g0 g1 g2 g3 g4 g5 gz
          have hz : Byt (wc.alloc (.cells (zeroRow 8) 5)).drew (wc.heap.size + 1) (.slice (some ⟨wc.heap.size, 0, none⟩) 8 8) (List.replicate 8 0) := by
            have h := (row_new wc 8).byt (n := 8) (c := 8) (by simp) (by omega) (by unfold maxLen; omega)
            have hs : (wc.alloc (.cells (zeroRow 8) 5)).heap.size = wc.heap.size + 1 := by simp
            rw [hs] at h
            have e : (List.replicate 8 (0 : UInt8)).take 8 = List.replicate 8 0 := rfl
            rw [e] at h
            exact h.keep (fun _ _ _ => rfl)
          have C8 := turns_call _ _ _ ce _ hz (by simp) (by simp) hend
          have e8 : turnsN ce (List.replicate 8 0) = eight ce := rfl
          rw [e8] at C8
          have hx := bits_xor1 (eight ce) (eight_lt ce)
          have hlt := Nat.xor_lt_two_pow (n := 40) (eight_lt ce) (show 1 < 1099511627776 by decide)
          have hN : eight ce ^^^ 1 = chkN (natsOf ps) := by unfold chkN; rw [HST.out, HCE.out]
          rw [hN] at hx hlt
          obtain ⟨z, hz0⟩ : ∃ z, z = chkN (natsOf ps) := ⟨_, rfl⟩
          rw [← hz0] at hx hlt
          have F8 := fun W => fives_any (z : Int) 8 W (by omega) (by omega) (by omega)
          have hfs := fives_small z hlt
          have hfl := letters_sum z hlt
          have C8' := Lib.hid C8
          have HZ0 := Lib.hid hz0
          have HFS := Lib.hid hfs
          have HFL := Lib.hid hfl
          have F8' := Lib.hid F8
          clear C8 e8 hN hz0 hfs hfl F8 hz
          go_wp2_with fail
          go_region_with (go_at_call 41; refine C8'.out.mono ?_; rintro e w2 ⟨rfl, hb2⟩)
          all_goals go_wp2_with fail
          all_goals refine (F8'.out _).mono ?_
          all_goals rintro e w3 ⟨rfl, hr3, hb3⟩
          all_goals have hby := hr3.byt (n := 8) (c := 8) (by simp [fivesI]) (by omega) (by unfold maxLen; omega)
          all_goals rw [List.take_of_length_le (by simp [fivesI])] at hby
          all_goals have S8 := Lib.hid (spell_any _ _ _ l32 w3 hby (Nat.le_refl _) (by simp [fivesI]) HFS.out)
          all_goals clear hby hr3
          all_goals go_wp2_with fail
          all_goals refine S8.out.mono ?_
          all_goals rintro e w4 ⟨rfl, hb4⟩
          all_goals rw [HFL.out]
          all_goals go_wp2
          all_goals go_ret2
          all_goals refine ⟨?_, .inl ⟨?_, ?_⟩⟩
          all_goals first
            | exact ((((hb1.trans (HBW.out.mono hb1.size)).trans ((below_made2 hb2).mono (Nat.le_trans hb1.size HBW.out.size))).trans (hb3.mono (Nat.le_trans (Nat.le_trans hb1.size HBW.out.size) (below_made2 hb2).size))).trans (hb4.mono (Nat.le_trans (Nat.le_trans (Nat.le_trans hb1.size HBW.out.size) (below_made2 hb2).size) hb3.size)))
            | exact HA.out
            | (rw [HZ0.out, HP.out]; rfl)
  · have HNO := Lib.hid hno
    clear hno
    go_wp2
    go_ret2
    exact ⟨hb1, .inr ⟨HNO.out, rfl⟩⟩
end Go.Proofs.YtgiljhdjknglpaaDoor
