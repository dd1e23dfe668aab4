/-
  Texts joined: B5P, B5R, Turn. Conditions: those of each.
-/
import Derived.Test.YtocblkacdoahfaaGreatDoorJ29
import Derived.Deep.CutBlock
import Derived.Deep.DeepCutAuto
import Derived.Test.YtocblkacdoahfaaGreatDoorJ19
/-
  Numbers in two bases: back and forth; long division. Conditions: none (plain mathematics).
-/
namespace Go.Proofs.YtocblkacdoahfaaGreatDoor.Tx
open Go.RowKit

theorem valF_append (b : Nat) (xs : List UInt8) (d : UInt8) : valF b (xs ++ [d]) = valF b xs * b + d.toNat := by
  unfold valF
  rw [List.foldl_append]
  rfl
theorem valF_zeros (b n : Nat) (xs : List UInt8) : valF b (List.replicate n 0 ++ xs) = valF b xs := by
  induction n with
  | zero => simp
  | succ n ih =>
    rw [List.replicate_succ, List.cons_append]
    have : valF b (0 :: (List.replicate n 0 ++ xs)) = valF b (List.replicate n 0 ++ xs) := by
      unfold valF
      rw [List.foldl_cons]
      simp
    rw [this, ih]
theorem valF_pow {b : Nat} (xs : List UInt8) (hx : ∀ d ∈ xs, d.toNat < b) : valF b xs < b ^ xs.length := by
  obtain ⟨r, hr⟩ : ∃ r, r = xs.reverse := ⟨_, rfl⟩
  have hp : xs = r.reverse := by rw [hr, List.reverse_reverse]
  rw [hp] at hx ⊢
  clear hp hr xs
  induction r with
  | nil => simp [valF]
  | cons d r ih =>
    have hd0 := hx d (by simp)
    have ih := ih (fun e he => hx e (by rw [List.reverse_cons]; exact List.mem_append_left _ he))
    rw [List.reverse_cons, valF_append, List.length_append, List.length_singleton, Nat.pow_succ]
    have h3 : (valF b r.reverse + 1) * b ≤ b ^ r.reverse.length * b := Nat.mul_le_mul_right b ih
    have h4 : (valF b r.reverse + 1) * b = valF b r.reverse * b + b := by rw [Nat.add_mul, Nat.one_mul]
    omega
theorem digN_of {b N j : Nat} {d : UInt8} (h : N / b ^ j % b = d.toNat) (hb : 0 < b) (hb2 : b ≤ 256) : digN b N j = d := by
  have := digN_nat (b := b) (N := N) (j := j) hb hb2
  exact UInt8.toNat.inj (by rw [this, h])
/-- The digits of a number that is written in digits. -/
theorem digitsL_val {b : Nat} (hb : 2 ≤ b) (hb2 : b ≤ 256) (xs : List UInt8) (hx : ∀ d ∈ xs, d.toNat < b) : digitsL b (valF b xs) xs.length = xs.reverse := by
  obtain ⟨r, hr⟩ : ∃ r, r = xs.reverse := ⟨_, rfl⟩
  have hp : xs = r.reverse := by rw [hr, List.reverse_reverse]
  rw [hp] at hx ⊢
  rw [List.reverse_reverse, List.length_reverse]
  clear hp hr xs
  induction r with
  | nil => rfl
  | cons d r ih =>
    have hd0 := hx d (by simp)
    have ih := ih (fun e he => hx e (by rw [List.reverse_cons]; exact List.mem_append_left _ he))
    rw [List.reverse_cons, valF_append, List.length_cons]
    have hsucc : ∀ (N k : Nat), digitsL b N (k + 1) = digN b N 0 :: digitsL b (N / b) k := by
      intro N k
      unfold digitsL
      rw [List.range_succ_eq_map, List.map_cons, List.map_map]
      congr 1
      refine List.map_congr_left fun j _ => ?_
      show digN b N (j + 1) = digN b (N / b) j
      unfold digN
      rw [Nat.pow_succ', Nat.div_div_eq_div_mul]
    have h1 : (valF b r.reverse * b + d.toNat) / b = valF b r.reverse := by
      rw [Nat.mul_comm, Nat.mul_add_div (by omega), Nat.div_eq_of_lt hd0, Nat.add_zero]
    have h2 : digN b (valF b r.reverse * b + d.toNat) 0 = d := by
      refine digN_of ?_ (by omega) hb2
      rw [Nat.pow_zero, Nat.div_one, Nat.mul_comm, Nat.mul_add_mod, Nat.mod_eq_of_lt hd0]
    rw [hsucc, h1, h2, ih]
theorem valF_digits {b : Nat} (hb : 2 ≤ b) (hb2 : b ≤ 256) (N k : Nat) : valF b (digitsL b N k).reverse = N % b ^ k := by
  induction k with
  | zero => simp [digitsL, valF, Nat.mod_one]
  | succ k ih =>
    rw [digitsL_succ, List.reverse_append, List.reverse_singleton, List.singleton_append]
    have hc : ∀ (d : UInt8) (xs : List UInt8), valF b (d :: xs) = d.toNat * b ^ xs.length + valF b xs := by
      intro d xs
      obtain ⟨r, hr⟩ : ∃ r, r = xs.reverse := ⟨_, rfl⟩
      have hp : xs = r.reverse := by rw [hr, List.reverse_reverse]
      rw [hp]
      clear hp hr xs
      induction r with
      | nil => simp [valF]
      | cons e r ihr =>
        rw [List.reverse_cons, ← List.cons_append, valF_append, valF_append, ihr, List.length_append, List.length_singleton, Nat.pow_succ, Nat.add_mul, Nat.mul_assoc]
        omega
    rw [hc, List.length_reverse, digitsL_length, ih, digN_nat (by omega) hb2]
    have := Nat.mod_pow_succ (x := N) (b := b) (k := k)
    rw [this, Nat.mul_comm (b ^ k), Nat.add_comm]
/-- Digits without a zero at the head are the number's. -/
theorem asc_of {b : Nat} (hb : 2 ≤ b) (hb2 : b ≤ 256) (xs : List UInt8) (hx : ∀ d ∈ xs, d.toNat < b) (hh : ∀ d, xs.head? = some d → d ≠ 0) : AscOf b (valF b xs) xs.reverse := by
  refine ⟨xs.length, (digitsL_val hb hb2 xs hx).symm, Nat.div_eq_of_lt (valF_pow xs hx), fun j hj => ?_⟩
  match xs, hx, hh, hj with
  | d :: r, hx, hh, hj =>
    have hd : d.toNat ≠ 0 := fun h => hh d rfl (UInt8.toNat.inj h)
    have hc : b ^ r.length ≤ valF b (d :: r) := by
      have h1 : ∀ (l : List UInt8), d.toNat * b ^ l.length ≤ valF b (d :: l) := by
        intro l
        obtain ⟨q, hq⟩ : ∃ q, q = l.reverse := ⟨_, rfl⟩
        have hp : l = q.reverse := by rw [hq, List.reverse_reverse]
        rw [hp]
        clear hp hq l
        induction q with
        | nil => simp [valF]
        | cons e q ih =>
          rw [List.reverse_cons, ← List.cons_append, valF_append, List.length_append, List.length_singleton, Nat.pow_succ, ← Nat.mul_assoc]
          exact Nat.le_trans (Nat.mul_le_mul_right b ih) (Nat.le_add_right _ _)
      exact Nat.le_trans (Nat.le_mul_of_pos_left _ (by omega)) (h1 r)
    have hj2 : b ^ j ≤ b ^ r.length := Nat.pow_le_pow_right (by omega) (by simp at hj; omega)
    have : 0 < valF b (d :: r) / b ^ j := Nat.div_pos (Nat.le_trans hj2 hc) (Nat.pow_pos (by omega))
    omega
theorem asc_head {b N : Nat} (hb : 2 ≤ b) (hb2 : b ≤ 256) {asc : List UInt8} (h : AscOf b N asc) : ∀ d, asc.reverse.head? = some d → d ≠ 0 := by
  obtain ⟨k, rfl, hk, hkj⟩ := h
  intro d hd
  match k, hk, hkj, hd with
  | 0, _, _, hd => cases hd
  | k + 1, hk, hkj, hd =>
    rw [digitsL_succ, List.reverse_append, List.reverse_singleton, List.singleton_append, List.head?_cons] at hd
    obtain rfl := Option.some.inj hd
    intro h0
    have h1 := digN_nat (b := b) (N := N) (j := k) (by omega) hb2
    rw [h0] at h1
    have h2 : N / b ^ k < b := by
      have : N / b ^ k / b = 0 := by rw [← div_next]; exact hk
      exact (Nat.div_eq_zero_iff_lt (by omega)).1 this
    rw [Nat.mod_eq_of_lt h2] at h1
    exact hkj k (by omega) h1.symm
theorem asc_val {b N : Nat} (hb : 2 ≤ b) (hb2 : b ≤ 256) {asc : List UInt8} (h : AscOf b N asc) : valF b asc.reverse = N := by
  obtain ⟨k, rfl, hk, _⟩ := h
  rw [valF_digits hb hb2]
  exact Nat.mod_eq_of_lt (Nat.lt_of_div_eq_zero (Nat.pow_pos (by omega)) hk)
theorem zerosN_rep (n : Nat) (xs : List UInt8) (h : ∀ d, xs.head? = some d → d ≠ 0) : zerosN (List.replicate n 0 ++ xs) = n := by
  unfold zerosN
  induction n with
  | zero =>
    match xs, h with
    | [], _ => rfl
    | d :: r, h =>
      have := h d rfl
      rw [List.replicate_zero, List.nil_append, List.takeWhile_cons_of_neg (by simpa using this)]
      rfl
  | succ n ih => rw [List.replicate_succ, List.cons_append, List.takeWhile_cons_of_pos (by simp), List.length_cons, ih]
theorem zeros_take (xs : List UInt8) : xs.take (zerosN xs) = List.replicate (zerosN xs) 0 ∧ ∀ d, (xs.drop (zerosN xs)).head? = some d → d ≠ 0 := by
  unfold zerosN
  induction xs with
  | nil => exact ⟨rfl, fun d h => by cases h⟩
  | cons a xs ih =>
    by_cases ha : a = 0
    · subst ha
      rw [List.takeWhile_cons_of_pos (by simp), List.length_cons, List.take_succ_cons, List.drop_succ_cons, List.replicate_succ, ih.1]
      exact ⟨rfl, ih.2⟩
    · rw [List.takeWhile_cons_of_neg (by simpa using ha)]
      exact ⟨rfl, fun d h => by obtain rfl := Option.some.inj h; exact ha⟩
/-- What was written in another base is written back. -/
theorem reb_back {b f : Nat} {ds out : List UInt8} (h : RebOf b f ds out) (hb : 2 ≤ b) (hb2 : b ≤ 256) (hf : 2 ≤ f) (hf2 : f ≤ 256) (hd : ∀ d ∈ ds, d.toNat < f) : RebOf f b out ds := by
  obtain ⟨asc, ha, rfl⟩ := h
  have hz := zerosN_rep (zerosN ds) asc.reverse (asc_head hb hb2 ha)
  obtain ⟨h1, h2⟩ := zeros_take ds
  refine ⟨(ds.drop (zerosN ds)).reverse, ?_, ?_⟩
  · rw [hz, List.drop_append_of_le_length (by simp), List.drop_of_length_le (by simp), List.nil_append, asc_val hb hb2 ha]
    exact asc_of hf hf2 _ (fun d h => hd d (List.mem_of_mem_drop h)) h2
  · rw [hz, List.reverse_reverse, ← h1, List.take_append_drop]

/-- Long division by 58. -/
def dvF (n : List UInt8) : List UInt8 := (List.range n.length).map fun i => b8 ((valF 256 (n.take (i + 1)) / 58 % 256 : Nat) : Int)
theorem dvF_length (n : List UInt8) : (dvF n).length = n.length := by simp [dvF]
theorem dvF_at {n : List UInt8} {i : Nat} (h : i < n.length) : (dvF n)[i]? = some (b8 ((valF 256 (n.take (i + 1)) / 58 % 256 : Nat) : Int)) := by
  unfold dvF
  rw [List.getElem?_map, List.getElem?_range h]
  rfl
theorem dv_step {A d : Nat} (hd : d < 256) : (A * 256 + d) / 58 % 256 = (A % 58 * 256 + d) / 58 ∧ (A * 256 + d) % 58 = (A % 58 * 256 + d) % 58 ∧ A / 58 * 256 + (A * 256 + d) / 58 % 256 = (A * 256 + d) / 58 := by omega
theorem valF_dv (n : List UInt8) : ∀ i, i ≤ n.length → valF 256 ((dvF n).take i) = valF 256 (n.take i) / 58 := by
  intro i
  induction i with
  | zero => intro _; simp [valF]
  | succ i ih =>
    intro hi
    have ih := ih (by omega)
    obtain ⟨d, hd⟩ : ∃ d, n[i]? = some d := ⟨_, List.getElem?_eq_getElem (by omega)⟩
    rw [valF_snoc 256 hd, valF_snoc 256 (dvF_at (by omega)), ih, valF_snoc 256 hd]
    have h1 := dv_step (A := valF 256 (n.take i)) d.toNat_lt
    have h2 := b8_toNat (((valF 256 (n.take i) * 256 + d.toNat) / 58 % 256 : Nat) : Int)
    omega
theorem valF_dvF (n : List UInt8) : valF 256 (dvF n) = valF 256 n / 58 := by
  have := valF_dv n n.length (Nat.le_refl _)
  rwa [← dvF_length n, List.take_length, dvF_length, List.take_length] at this
end Go.Proofs.YtocblkacdoahfaaGreatDoor.Tx

/-
  The reference's Base58. Conditions: sizes within the reach.
-/
namespace Go.Proofs.YtocblkacdoahfaaGreatDoor.Tx
open Go.RowKit

theorem valF_zero {b : Nat} {xs : List UInt8} (h : ∀ (j : Nat) (d : UInt8), xs[j]? = some d → d = 0) : valF b xs = 0 := by
  have : xs = List.replicate xs.length 0 ++ [] := by
    rw [List.append_nil]
    refine List.ext_getElem? fun j => ?_
    by_cases hj : j < xs.length
    · rw [List.getElem?_replicate, if_pos hj, List.getElem?_eq_getElem hj]
      exact congrArg some (h j _ (List.getElem?_eq_getElem hj))
    · rw [List.getElem?_eq_none (by omega), List.getElem?_eq_none (by rw [List.length_replicate]; omega)]
  rw [this, valF_zeros]
  rfl
theorem valF_ne {b : Nat} (hb : 0 < b) {xs : List UInt8} {i : Nat} {d : UInt8} (h : xs[i]? = some d) (hd : d ≠ 0) : valF b xs ≠ 0 := by
  obtain ⟨r, hr⟩ : ∃ r, r = xs.reverse := ⟨_, rfl⟩
  have hp : xs = r.reverse := by rw [hr, List.reverse_reverse]
  rw [hp] at h ⊢
  clear hp hr xs
  induction r with
  | nil => simp at h
  | cons e r ih =>
    rw [List.reverse_cons] at h ⊢
    rw [valF_append]
    by_cases hi : i < r.reverse.length
    · rw [List.getElem?_append_left hi] at h
      have := ih h
      have h2 := Nat.mul_pos (Nat.pos_of_ne_zero this) hb
      omega
    · rw [List.getElem?_append_right (by omega)] at h
      have hie : i - r.reverse.length = 0 := by
        have := (List.getElem?_eq_some_iff.1 h).1
        simp at this
        simp
        omega
      rw [hie] at h
      obtain rfl : e = d := by simpa using h
      have : e.toNat ≠ 0 := fun h0 => hd (UInt8.toNat.inj h0)
      omega
theorem take_zero {n : List UInt8} {bg : Nat} (h : ∀ j, j < bg → n[j]? = some 0) {i : Nat} (hi : i ≤ bg) : valF 256 (n.take i) = 0 :=
  valF_zero fun j d hj => by
    rw [List.getElem?_take] at hj
    split at hj
    · rw [h j (by omega)] at hj
      exact (Option.some.inj hj).symm
    · cases hj
theorem dvF_zero {n : List UInt8} {bg : Nat} (h : ∀ j, j < bg → n[j]? = some 0) {j : Nat} (hj : j < bg) : (dvF n)[j]? = some 0 := by
  have hl : j < n.length := (List.getElem?_eq_some_iff.1 (h j hj)).1
  rw [dvF_at hl, take_zero h (by omega)]
  rfl
theorem dvF_take {n : List UInt8} {bg : Nat} (h : ∀ j, j < bg → n[j]? = some 0) : (dvF n).take bg ++ n.drop bg = n := by
  have e : (dvF n).take bg = n.take bg := by
    refine List.ext_getElem? fun j => ?_
    rw [List.getElem?_take, List.getElem?_take]
    split
    · rename_i hj
      rw [dvF_zero h hj, h j hj]
    · rfl
  rw [e, List.take_append_drop]
theorem dvF_set {n : List UInt8} {i : Nat} (h : i < n.length) : ((dvF n).take i ++ n.drop i).set i (b8 ((valF 256 (n.take (i + 1)) / 58 % 256 : Nat) : Int)) = (dvF n).take (i + 1) ++ n.drop (i + 1) := by
  have hl : ((dvF n).take i).length = i := by rw [List.length_take, dvF_length]; omega
  have e : (dvF n).take (i + 1) = (dvF n).take i ++ [b8 ((valF 256 (n.take (i + 1)) / 58 % 256 : Nat) : Int)] := by
    rw [List.take_add_one, dvF_at h]
    rfl
  rw [List.set_append_right _ _ (by omega), hl, Nat.sub_self, List.drop_eq_getElem_cons h, List.set_cons_zero, e, List.append_assoc]
  rfl
theorem dvF_get {n : List UInt8} {i : Nat} {d : UInt8} (h : n[i]? = some d) : ((dvF n).take i ++ n.drop i)[i]? = some d := by
  have hi := (List.getElem?_eq_some_iff.1 h).1
  have hl : ((dvF n).take i).length = i := by rw [List.length_take, dvF_length]; omega
  rw [List.getElem?_append_right (by omega), hl, Nat.sub_self, List.getElem?_drop, Nat.add_zero, h]
theorem str_first {l : List UInt8} {c : UInt8} : (⟨#[c]⟩ : ByteArray) ++ ⟨l.toArray⟩ = ⟨(c :: l).toArray⟩ := by
  apply Go.WideShapes.bytes_inj
  simp
theorem one_str8r (W : World) (q : UInt8) :
    (convert 23 9 (.slice (some ⟨W.heap.size, 0, none⟩) 1 1)).run Tryz.prog (W.alloc (.cells #[.int .u8 (q.toNat : Int)] 5)) = .ok (.string ⟨#[q]⟩) (W.alloc (.cells #[.int .u8 (q.toNat : Int)] 5)) :=
  run_string_of (P := Tryz.prog) _ 23 9 5 Tryz.underlying23 Tryz.underlying5 Tryz.underlying9 _ _ _ (Byt.made W 5 _ [q] rfl (by unfold maxLen; simp))
def strN : Value → Nat
  | .string b => b.size
  | _ => 0
theorem zerosN_below {xs : List UInt8} {i : Nat} (h : i < zerosN xs) : xs[i]? = some 0 := by
  have h1 := (zeros_take xs).1
  have h2 : (xs.take (zerosN xs))[i]? = some 0 := by rw [h1, List.getElem?_replicate, if_pos h]
  rw [List.getElem?_take, if_pos h] at h2
  exact h2
theorem zerosN_end {xs : List UInt8} {d : UInt8} (h : xs[zerosN xs]? = some d) : d ≠ 0 := by
  refine (zeros_take xs).2 d ?_
  rw [List.head?_drop]
  exact h
theorem letters_zeros (n : Nat) (xs : List UInt8) : letters b58D (List.replicate n 0 ++ xs) = List.replicate n 49 ++ letters b58D xs := by
  unfold letters
  rw [List.map_append, List.map_replicate]
  rfl
theorem b58_at {v : Nat} (h : v < 58) : b58D.data.toList.getD v 0 = (b58D[v]'(by show v < 58; exact h)) := by
  rw [List.getD_eq_getElem?_getD, Lib.data_getElem? b58D v (by show v < 58; exact h)]
  rfl

end Go.Proofs.YtocblkacdoahfaaGreatDoor.Tx

/-
  The reference's turn and place. Conditions: the numbers are below 2^40.
-/
namespace Go.Proofs.YtocblkacdoahfaaGreatDoor
open Go.RowKit

theorem mixN_next (up c m : Nat) : (if up / 2 ^ m % 2 = 1 then mixN up c m ^^^ gN m else mixN up c m) = mixN up c (m + 1) := rfl

/-- Where a byte stands, up to i none. -/
theorem posB_at {al : ByteArray} {c : UInt8} {i : Nat} (hi : i < al.size) (hall : ∀ (k : Nat) (d : UInt8), k < i → al.data.toList[k]? = some d → d ≠ c) (hc : al[i] = c) : posB al c = i := by
  unfold posB
  have hg := Lib.data_getElem? al i hi
  rw [hc] at hg
  have hge := Lib.indexByte_ge al.data.toList c
  by_cases h : Lib.indexByte al.data.toList c = -1
  · exact absurd hg (Lib.indexByte_none h i)
  · obtain ⟨o, ho⟩ : ∃ o : Nat, Lib.indexByte al.data.toList c = o := ⟨(Lib.indexByte al.data.toList c).toNat, by omega⟩
    obtain ⟨h1, h2⟩ := Lib.indexByte_some ho
    rw [ho]
    have h3 : ¬ i < o := fun h => h2 i h hg
    have h4 : ¬ o < i := fun h => hall o c h h1 rfl
    have : o = i := by omega
    rw [this]
theorem posB_no {al : ByteArray} {c : UInt8} (hall : ∀ (k : Nat) (d : UInt8), k < al.size → al.data.toList[k]? = some d → d ≠ c) : posB al c = -1 := by
  unfold posB
  have hge := Lib.indexByte_ge al.data.toList c
  by_cases h : Lib.indexByte al.data.toList c = -1
  · exact h
  · obtain ⟨o, ho⟩ : ∃ o : Nat, Lib.indexByte al.data.toList c = o := ⟨(Lib.indexByte al.data.toList c).toNat, by omega⟩
    have h1 := (Lib.indexByte_some ho).1
    exact absurd rfl (hall o c ((List.getElem?_eq_some_iff.1 h1).1) h1)

end Go.Proofs.YtocblkacdoahfaaGreatDoor
