/-
  Texts joined: B5P, B5R, B5F. Conditions: those of each.
-/
import Derived.Test.YtgiljhdjknglpaaDoorK13
import Derived.Deep.CutBlock
import Derived.Deep.DeepCutAuto
import Derived.Test.YtgiljhdjknglpaaDoorK10
/-
  Numbers in two bases: back and forth; long division. Conditions: none (plain mathematics).
-/
namespace Go.Proofs.YtgiljhdjknglpaaDoor
open Go.RowKit

theorem valF_append (b : Nat) (xs : List UInt8) (d : UInt8) : valF b (xs ++ [d]) = valF b xs * b + d.toNat := by
  unfold valF
  rw [List.foldl_append]
  rfl
theorem valF_zeros (b n : Nat) (xs : List UInt8) : valF b (List.replicate n 0 ++ xs) = valF b xs := by
  induction n with
  | zero => simp
  | succ n ih =>
    rw [List.replicate_succ, List.cons_append]
    have : valF b (0 :: (List.replicate n 0 ++ xs)) = valF b (List.replicate n 0 ++ xs) := by
      unfold valF
      rw [List.foldl_cons]
      simp
    rw [this, ih]
theorem valF_pow {b : Nat} (xs : List UInt8) (hx : ∀ d ∈ xs, d.toNat < b) : valF b xs < b ^ xs.length := by
  obtain ⟨r, hr⟩ : ∃ r, r = xs.reverse := ⟨_, rfl⟩
  have hp : xs = r.reverse := by rw [hr, List.reverse_reverse]
  rw [hp] at hx ⊢
  clear hp hr xs
  induction r with
  | nil => simp [valF]
  | cons d r ih =>
    have hd0 := hx d (by simp)
    have ih := ih (fun e he => hx e (by rw [List.reverse_cons]; exact List.mem_append_left _ he))
    rw [List.reverse_cons, valF_append, List.length_append, List.length_singleton, Nat.pow_succ]
    have h3 : (valF b r.reverse + 1) * b ≤ b ^ r.reverse.length * b := Nat.mul_le_mul_right b ih
    have h4 : (valF b r.reverse + 1) * b = valF b r.reverse * b + b := by rw [Nat.add_mul, Nat.one_mul]
    omega
theorem digN_of {b N j : Nat} {d : UInt8} (h : N / b ^ j % b = d.toNat) (hb : 0 < b) (hb2 : b ≤ 256) : digN b N j = d := by
  have := digN_nat (b := b) (N := N) (j := j) hb hb2
  exact UInt8.toNat.inj (by rw [this, h])
/-- The digits of a number that is written in digits. -/
theorem digitsL_val {b : Nat} (hb : 2 ≤ b) (hb2 : b ≤ 256) (xs : List UInt8) (hx : ∀ d ∈ xs, d.toNat < b) : digitsL b (valF b xs) xs.length = xs.reverse := by
  obtain ⟨r, hr⟩ : ∃ r, r = xs.reverse := ⟨_, rfl⟩
  have hp : xs = r.reverse := by rw [hr, List.reverse_reverse]
  rw [hp] at hx ⊢
  rw [List.reverse_reverse, List.length_reverse]
  clear hp hr xs
  induction r with
  | nil => rfl
  | cons d r ih =>
    have hd0 := hx d (by simp)
    have ih := ih (fun e he => hx e (by rw [List.reverse_cons]; exact List.mem_append_left _ he))
    rw [List.reverse_cons, valF_append, List.length_cons]
    have hsucc : ∀ (N k : Nat), digitsL b N (k + 1) = digN b N 0 :: digitsL b (N / b) k := by
      intro N k
      unfold digitsL
      rw [List.range_succ_eq_map, List.map_cons, List.map_map]
      congr 1
      refine List.map_congr_left fun j _ => ?_
      show digN b N (j + 1) = digN b (N / b) j
      unfold digN
      rw [Nat.pow_succ', Nat.div_div_eq_div_mul]
    have h1 : (valF b r.reverse * b + d.toNat) / b = valF b r.reverse := by
      rw [Nat.mul_comm, Nat.mul_add_div (by omega), Nat.div_eq_of_lt hd0, Nat.add_zero]
    have h2 : digN b (valF b r.reverse * b + d.toNat) 0 = d := by
      refine digN_of ?_ (by omega) hb2
      rw [Nat.pow_zero, Nat.div_one, Nat.mul_comm, Nat.mul_add_mod, Nat.mod_eq_of_lt hd0]
    rw [hsucc, h1, h2, ih]
theorem valF_digits {b : Nat} (hb : 2 ≤ b) (hb2 : b ≤ 256) (N k : Nat) : valF b (digitsL b N k).reverse = N % b ^ k := by
  induction k with
  | zero => simp [digitsL, valF, Nat.mod_one]
  | succ k ih =>
    rw [digitsL_succ, List.reverse_append, List.reverse_singleton, List.singleton_append]
    have hc : ∀ (d : UInt8) (xs : List UInt8), valF b (d :: xs) = d.toNat * b ^ xs.length + valF b xs := by
      intro d xs
      obtain ⟨r, hr⟩ : ∃ r, r = xs.reverse := ⟨_, rfl⟩
      have hp : xs = r.reverse := by rw [hr, List.reverse_reverse]
      rw [hp]
      clear hp hr xs
      induction r with
      | nil => simp [valF]
      | cons e r ihr =>
        rw [List.reverse_cons, ← List.cons_append, valF_append, valF_append, ihr, List.length_append, List.length_singleton, Nat.pow_succ, Nat.add_mul, Nat.mul_assoc]
        omega
    rw [hc, List.length_reverse, digitsL_length, ih, digN_nat (by omega) hb2]
    have := Nat.mod_pow_succ (x := N) (b := b) (k := k)
    rw [this, Nat.mul_comm (b ^ k), Nat.add_comm]
/-- Digits without a zero at the head are the number's. -/
theorem asc_of {b : Nat} (hb : 2 ≤ b) (hb2 : b ≤ 256) (xs : List UInt8) (hx : ∀ d ∈ xs, d.toNat < b) (hh : ∀ d, xs.head? = some d → d ≠ 0) : AscOf b (valF b xs) xs.reverse := by
  refine ⟨xs.length, (digitsL_val hb hb2 xs hx).symm, Nat.div_eq_of_lt (valF_pow xs hx), fun j hj => ?_⟩
  match xs, hx, hh, hj with
  | d :: r, hx, hh, hj =>
    have hd : d.toNat ≠ 0 := fun h => hh d rfl (UInt8.toNat.inj h)
    have hc : b ^ r.length ≤ valF b (d :: r) := by
      have h1 : ∀ (l : List UInt8), d.toNat * b ^ l.length ≤ valF b (d :: l) := by
        intro l
        obtain ⟨q, hq⟩ : ∃ q, q = l.reverse := ⟨_, rfl⟩
        have hp : l = q.reverse := by rw [hq, List.reverse_reverse]
        rw [hp]
        clear hp hq l
        induction q with
        | nil => simp [valF]
        | cons e q ih =>
          rw [List.reverse_cons, ← List.cons_append, valF_append, List.length_append, List.length_singleton, Nat.pow_succ, ← Nat.mul_assoc]
          exact Nat.le_trans (Nat.mul_le_mul_right b ih) (Nat.le_add_right _ _)
      exact Nat.le_trans (Nat.le_mul_of_pos_left _ (by omega)) (h1 r)
    have hj2 : b ^ j ≤ b ^ r.length := Nat.pow_le_pow_right (by omega) (by simp at hj; omega)
    have : 0 < valF b (d :: r) / b ^ j := Nat.div_pos (Nat.le_trans hj2 hc) (Nat.pow_pos (by omega))
    omega
theorem asc_head {b N : Nat} (hb : 2 ≤ b) (hb2 : b ≤ 256) {asc : List UInt8} (h : AscOf b N asc) : ∀ d, asc.reverse.head? = some d → d ≠ 0 := by
  obtain ⟨k, rfl, hk, hkj⟩ := h
  intro d hd
  match k, hk, hkj, hd with
  | 0, _, _, hd => cases hd
  | k + 1, hk, hkj, hd =>
    rw [digitsL_succ, List.reverse_append, List.reverse_singleton, List.singleton_append, List.head?_cons] at hd
    obtain rfl := Option.some.inj hd
    intro h0
    have h1 := digN_nat (b := b) (N := N) (j := k) (by omega) hb2
    rw [h0] at h1
    have h2 : N / b ^ k < b := by
      have : N / b ^ k / b = 0 := by rw [← div_next]; exact hk
      exact (Nat.div_eq_zero_iff_lt (by omega)).1 this
    rw [Nat.mod_eq_of_lt h2] at h1
    exact hkj k (by omega) h1.symm
theorem asc_val {b N : Nat} (hb : 2 ≤ b) (hb2 : b ≤ 256) {asc : List UInt8} (h : AscOf b N asc) : valF b asc.reverse = N := by
  obtain ⟨k, rfl, hk, _⟩ := h
  rw [valF_digits hb hb2]
  exact Nat.mod_eq_of_lt (Nat.lt_of_div_eq_zero (Nat.pow_pos (by omega)) hk)
theorem zerosN_rep (n : Nat) (xs : List UInt8) (h : ∀ d, xs.head? = some d → d ≠ 0) : zerosN (List.replicate n 0 ++ xs) = n := by
  unfold zerosN
  induction n with
  | zero =>
    match xs, h with
    | [], _ => rfl
    | d :: r, h =>
      have := h d rfl
      rw [List.replicate_zero, List.nil_append, List.takeWhile_cons_of_neg (by simpa using this)]
      rfl
  | succ n ih => rw [List.replicate_succ, List.cons_append, List.takeWhile_cons_of_pos (by simp), List.length_cons, ih]
theorem zeros_take (xs : List UInt8) : xs.take (zerosN xs) = List.replicate (zerosN xs) 0 ∧ ∀ d, (xs.drop (zerosN xs)).head? = some d → d ≠ 0 := by
  unfold zerosN
  induction xs with
  | nil => exact ⟨rfl, fun d h => by cases h⟩
  | cons a xs ih =>
    by_cases ha : a = 0
    · subst ha
      rw [List.takeWhile_cons_of_pos (by simp), List.length_cons, List.take_succ_cons, List.drop_succ_cons, List.replicate_succ, ih.1]
      exact ⟨rfl, ih.2⟩
    · rw [List.takeWhile_cons_of_neg (by simpa using ha)]
      exact ⟨rfl, fun d h => by obtain rfl := Option.some.inj h; exact ha⟩
/-- What was written in another base is written back. -/
theorem reb_back {b f : Nat} {ds out : List UInt8} (h : RebOf b f ds out) (hb : 2 ≤ b) (hb2 : b ≤ 256) (hf : 2 ≤ f) (hf2 : f ≤ 256) (hd : ∀ d ∈ ds, d.toNat < f) : RebOf f b out ds := by
  obtain ⟨asc, ha, rfl⟩ := h
  have hz := zerosN_rep (zerosN ds) asc.reverse (asc_head hb hb2 ha)
  obtain ⟨h1, h2⟩ := zeros_take ds
  refine ⟨(ds.drop (zerosN ds)).reverse, ?_, ?_⟩
  · rw [hz, List.drop_append_of_le_length (by simp), List.drop_of_length_le (by simp), List.nil_append, asc_val hb hb2 ha]
    exact asc_of hf hf2 _ (fun d h => hd d (List.mem_of_mem_drop h)) h2
  · rw [hz, List.reverse_reverse, ← h1, List.take_append_drop]

/-- Long division by 58. -/
def dvF (n : List UInt8) : List UInt8 := (List.range n.length).map fun i => b8 ((valF 256 (n.take (i + 1)) / 58 % 256 : Nat) : Int)
theorem dvF_length (n : List UInt8) : (dvF n).length = n.length := by simp [dvF]
theorem dvF_at {n : List UInt8} {i : Nat} (h : i < n.length) : (dvF n)[i]? = some (b8 ((valF 256 (n.take (i + 1)) / 58 % 256 : Nat) : Int)) := by
  unfold dvF
  rw [List.getElem?_map, List.getElem?_range h]
  rfl
theorem dv_step {A d : Nat} (hd : d < 256) : (A * 256 + d) / 58 % 256 = (A % 58 * 256 + d) / 58 ∧ (A * 256 + d) % 58 = (A % 58 * 256 + d) % 58 ∧ A / 58 * 256 + (A * 256 + d) / 58 % 256 = (A * 256 + d) / 58 := by omega
theorem valF_dv (n : List UInt8) : ∀ i, i ≤ n.length → valF 256 ((dvF n).take i) = valF 256 (n.take i) / 58 := by
  intro i
  induction i with
  | zero => intro _; simp [valF]
  | succ i ih =>
    intro hi
    have ih := ih (by omega)
    obtain ⟨d, hd⟩ : ∃ d, n[i]? = some d := ⟨_, List.getElem?_eq_getElem (by omega)⟩
    rw [valF_snoc 256 hd, valF_snoc 256 (dvF_at (by omega)), ih, valF_snoc 256 hd]
    have h1 := dv_step (A := valF 256 (n.take i)) d.toNat_lt
    have h2 := b8_toNat (((valF 256 (n.take i) * 256 + d.toNat) / 58 % 256 : Nat) : Int)
    omega
theorem valF_dvF (n : List UInt8) : valF 256 (dvF n) = valF 256 n / 58 := by
  have := valF_dv n n.length (Nat.le_refl _)
  rwa [← dvF_length n, List.take_length, dvF_length, List.take_length] at this
end Go.Proofs.YtgiljhdjknglpaaDoor

/-
  The reference's Base58. Conditions: sizes within the reach.
-/
namespace Go.Proofs.YtgiljhdjknglpaaDoor
open Go.RowKit

theorem valF_zero {b : Nat} {xs : List UInt8} (h : ∀ (j : Nat) (d : UInt8), xs[j]? = some d → d = 0) : valF b xs = 0 := by
  have : xs = List.replicate xs.length 0 ++ [] := by
    rw [List.append_nil]
    refine List.ext_getElem? fun j => ?_
    by_cases hj : j < xs.length
    · rw [List.getElem?_replicate, if_pos hj, List.getElem?_eq_getElem hj]
      exact congrArg some (h j _ (List.getElem?_eq_getElem hj))
    · rw [List.getElem?_eq_none (by omega), List.getElem?_eq_none (by rw [List.length_replicate]; omega)]
  rw [this, valF_zeros]
  rfl
theorem valF_ne {b : Nat} (hb : 0 < b) {xs : List UInt8} {i : Nat} {d : UInt8} (h : xs[i]? = some d) (hd : d ≠ 0) : valF b xs ≠ 0 := by
  obtain ⟨r, hr⟩ : ∃ r, r = xs.reverse := ⟨_, rfl⟩
  have hp : xs = r.reverse := by rw [hr, List.reverse_reverse]
  rw [hp] at h ⊢
  clear hp hr xs
  induction r with
  | nil => simp at h
  | cons e r ih =>
    rw [List.reverse_cons] at h ⊢
    rw [valF_append]
    by_cases hi : i < r.reverse.length
    · rw [List.getElem?_append_left hi] at h
      have := ih h
      have h2 := Nat.mul_pos (Nat.pos_of_ne_zero this) hb
      omega
    · rw [List.getElem?_append_right (by omega)] at h
      have hie : i - r.reverse.length = 0 := by
        have := (List.getElem?_eq_some_iff.1 h).1
        simp at this
        simp
        omega
      rw [hie] at h
      obtain rfl : e = d := by simpa using h
      have : e.toNat ≠ 0 := fun h0 => hd (UInt8.toNat.inj h0)
      omega
theorem take_zero {n : List UInt8} {bg : Nat} (h : ∀ j, j < bg → n[j]? = some 0) {i : Nat} (hi : i ≤ bg) : valF 256 (n.take i) = 0 :=
  valF_zero fun j d hj => by
    rw [List.getElem?_take] at hj
    split at hj
    · rw [h j (by omega)] at hj
      exact (Option.some.inj hj).symm
    · cases hj
theorem dvF_zero {n : List UInt8} {bg : Nat} (h : ∀ j, j < bg → n[j]? = some 0) {j : Nat} (hj : j < bg) : (dvF n)[j]? = some 0 := by
  have hl : j < n.length := (List.getElem?_eq_some_iff.1 (h j hj)).1
  rw [dvF_at hl, take_zero h (by omega)]
  rfl
theorem dvF_take {n : List UInt8} {bg : Nat} (h : ∀ j, j < bg → n[j]? = some 0) : (dvF n).take bg ++ n.drop bg = n := by
  have e : (dvF n).take bg = n.take bg := by
    refine List.ext_getElem? fun j => ?_
    rw [List.getElem?_take, List.getElem?_take]
    split
    · rename_i hj
      rw [dvF_zero h hj, h j hj]
    · rfl
  rw [e, List.take_append_drop]
theorem dvF_set {n : List UInt8} {i : Nat} (h : i < n.length) : ((dvF n).take i ++ n.drop i).set i (b8 ((valF 256 (n.take (i + 1)) / 58 % 256 : Nat) : Int)) = (dvF n).take (i + 1) ++ n.drop (i + 1) := by
  have hl : ((dvF n).take i).length = i := by rw [List.length_take, dvF_length]; omega
  have e : (dvF n).take (i + 1) = (dvF n).take i ++ [b8 ((valF 256 (n.take (i + 1)) / 58 % 256 : Nat) : Int)] := by
    rw [List.take_add_one, dvF_at h]
    rfl
  rw [List.set_append_right _ _ (by omega), hl, Nat.sub_self, List.drop_eq_getElem_cons h, List.set_cons_zero, e, List.append_assoc]
  rfl
theorem dvF_get {n : List UInt8} {i : Nat} {d : UInt8} (h : n[i]? = some d) : ((dvF n).take i ++ n.drop i)[i]? = some d := by
  have hi := (List.getElem?_eq_some_iff.1 h).1
  have hl : ((dvF n).take i).length = i := by rw [List.length_take, dvF_length]; omega
  rw [List.getElem?_append_right (by omega), hl, Nat.sub_self, List.getElem?_drop, Nat.add_zero, h]
theorem str_first {l : List UInt8} {c : UInt8} : (⟨#[c]⟩ : ByteArray) ++ ⟨l.toArray⟩ = ⟨(c :: l).toArray⟩ := by
  apply Go.WideShapes.bytes_inj
  simp
theorem one_str8r (W : World) (q : UInt8) :
    (convert 23 9 (.slice (some ⟨W.heap.size, 0, none⟩) 1 1)).run Tryd.prog (W.alloc (.cells #[.int .u8 (q.toNat : Int)] 5)) = .ok (.string ⟨#[q]⟩) (W.alloc (.cells #[.int .u8 (q.toNat : Int)] 5)) :=
  run_string_of (P := Tryd.prog) _ 23 9 5 Tryd.underlying23 Tryd.underlying5 Tryd.underlying9 _ _ _ (Byt.made W 5 _ [q] rfl (by unfold maxLen; simp))
def strN : Value → Nat
  | .string b => b.size
  | _ => 0
theorem zerosN_below {xs : List UInt8} {i : Nat} (h : i < zerosN xs) : xs[i]? = some 0 := by
  have h1 := (zeros_take xs).1
  have h2 : (xs.take (zerosN xs))[i]? = some 0 := by rw [h1, List.getElem?_replicate, if_pos h]
  rw [List.getElem?_take, if_pos h] at h2
  exact h2
theorem zerosN_end {xs : List UInt8} {d : UInt8} (h : xs[zerosN xs]? = some d) : d ≠ 0 := by
  refine (zeros_take xs).2 d ?_
  rw [List.head?_drop]
  exact h
theorem letters_zeros (n : Nat) (xs : List UInt8) : letters b58D (List.replicate n 0 ++ xs) = List.replicate n 49 ++ letters b58D xs := by
  unfold letters
  rw [List.map_append, List.map_replicate]
  rfl
theorem b58_at {v : Nat} (h : v < 58) : b58D.data.toList.getD v 0 = (b58D[v]'(by show v < 58; exact h)) := by
  rw [List.getD_eq_getElem?_getD, Lib.data_getElem? b58D v (by show v < 58; exact h)]
  rfl

end Go.Proofs.YtgiljhdjknglpaaDoor

/-
  The reference's FromBase58. Conditions: sizes within the reach.
-/
namespace Go.Proofs.YtgiljhdjknglpaaDoor
open Go.RowKit

theorem posB_inj8 {al : ByteArray} {a b : UInt8} (ha : 0 ≤ posB al a) (hb : posB al a = posB al b) : a = b := by
  obtain ⟨o, ho⟩ : ∃ o : Nat, posB al a = o := ⟨(posB al a).toNat, by omega⟩
  have h1 := (Lib.indexByte_some (l := al.data.toList) (c := a) (by exact ho)).1
  have h2 := (Lib.indexByte_some (l := al.data.toList) (c := b) (by exact hb ▸ ho)).1
  rw [h1] at h2
  injection h2
theorem posB_range8 (al : ByteArray) (c : UInt8) : -1 ≤ posB al c ∧ posB al c < al.size := by
  have hge := Lib.indexByte_ge al.data.toList c
  have e : posB al c = Lib.indexByte al.data.toList c := rfl
  refine ⟨by omega, ?_⟩
  by_cases h : posB al c < 0
  · have : 0 ≤ al.size := Nat.zero_le _
    omega
  · obtain ⟨o, ho⟩ : ∃ o : Nat, posB al c = o := ⟨(posB al c).toNat, by omega⟩
    have := (List.getElem?_eq_some_iff.1 (Lib.indexByte_some (l := al.data.toList) (by exact ho)).1).1
    have h2 : al.data.toList.length = al.size := rfl
    omega
/-- What a text in base 58 says: the error, the bytes. -/
def Dec (cs : List UInt8) (k : Int) (out : List UInt8) : Prop :=
  (250 < cs.length ∧ k = 2 ∧ out = []) ∨ (cs.length ≤ 250 ∧ (∃ c ∈ cs, posB b58D c < 0) ∧ k = 3 ∧ out = []) ∨ (cs.length ≤ 250 ∧ (∀ c ∈ cs, 0 ≤ posB b58D c) ∧ k = 0 ∧ RebOf 256 58 (placesB b58D cs) out)
theorem Dec.unique {cs : List UInt8} {k k' : Int} {out out' : List UInt8} (h : Dec cs k out) (h' : Dec cs k' out') : k = k' ∧ out = out' := by
  rcases h with ⟨h1, h2, h3⟩ | ⟨h1, ⟨c, hc, hn⟩, h2, h3⟩ | ⟨h1, ha, h2, h3⟩ <;> rcases h' with ⟨g1, g2, g3⟩ | ⟨g1, ⟨c', hc', hn'⟩, g2, g3⟩ | ⟨g1, ga, g2, g3⟩
  · exact ⟨by rw [h2, g2], by rw [h3, g3]⟩
  · omega
  · omega
  · omega
  · exact ⟨by rw [h2, g2], by rw [h3, g3]⟩
  · have := ga c hc; omega
  · omega
  · have := ha c' hc'; omega
  · exact ⟨by rw [h2, g2], h3.unique g3⟩
/-- The state behind some letters: the digits of the number that they are. -/
def AccOf (cs : List UInt8) (n : List UInt8) : Prop := AscOf 256 (valF 58 (placesB b58D cs)) n.reverse
theorem placesB_snoc (cs : List UInt8) (c : UInt8) : placesB b58D (cs ++ [c]) = placesB b58D cs ++ [b8 (posB b58D c)] := by unfold placesB; rw [List.map_append]; rfl

/-- Digits of M * 58 + d, the lower m of them turned. -/
def mixR (N M k m : Nat) : List UInt8 := (digitsL 256 N m ++ (digitsL 256 M k).drop m).reverse
theorem mixR_length {N M k m : Nat} (h : m ≤ k) : (mixR N M k m).length = k := by
  unfold mixR
  rw [List.length_reverse, List.length_append, digitsL_length, List.length_drop, digitsL_length]
  omega
theorem mixR_get {N M k m : Nat} (h : m < k) : (mixR N M k m)[k - 1 - m]? = some (digN 256 M m) := by
  unfold mixR
  have hl : (digitsL 256 N m ++ (digitsL 256 M k).drop m).length = k := by rw [List.length_append, digitsL_length, List.length_drop, digitsL_length]; omega
  rw [List.getElem?_reverse (by omega), hl, show k - 1 - (k - 1 - m) = m by omega, List.getElem?_append_right (by rw [digitsL_length]; exact Nat.le_refl _), digitsL_length, Nat.sub_self, List.getElem?_drop, Nat.add_zero]
  exact digitsL_at h
theorem mixR_set {N M k m : Nat} (h : m < k) : (mixR N M k m).set (k - 1 - m) (digN 256 N m) = mixR N M k (m + 1) := by
  have hl0 := mixR_length (N := N) (M := M) (Nat.le_of_lt h)
  have hl1 := mixR_length (N := N) (M := M) (show m + 1 ≤ k from h)
  refine List.ext_getElem? fun j => ?_
  by_cases hj : j < k
  · have hg : ∀ m', m' ≤ k → (mixR N M k m')[j]? = if k - 1 - j < m' then some (digN 256 N (k - 1 - j)) else some (digN 256 M (k - 1 - j)) := by
      intro m' hm'
      unfold mixR
      have hl : (digitsL 256 N m' ++ (digitsL 256 M k).drop m').length = k := by rw [List.length_append, digitsL_length, List.length_drop, digitsL_length]; omega
      rw [List.getElem?_reverse (by omega), hl]
      split
      · rename_i hlt
        rw [List.getElem?_append_left (by rw [digitsL_length]; exact hlt)]
        exact digitsL_at hlt
      · rename_i hge
        rw [List.getElem?_append_right (by rw [digitsL_length]; omega), digitsL_length, List.getElem?_drop, show m' + (k - 1 - j - m') = k - 1 - j by omega]
        exact digitsL_at (by omega)
    by_cases hjm : j = k - 1 - m
    · subst hjm
      rw [List.getElem?_set_self (by omega), hg (m + 1) h, if_pos (by omega), show k - 1 - (k - 1 - m) = m by omega]
    · rw [List.getElem?_set_ne (by omega), hg m (by omega), hg (m + 1) h]
      by_cases hlt : k - 1 - j < m
      · rw [if_pos hlt, if_pos (by omega)]
      · rw [if_neg hlt, if_neg (by omega)]
  · rw [List.getElem?_eq_none (by rw [List.length_set]; omega), List.getElem?_eq_none (by omega)]
theorem mixR_zero (N M k : Nat) : mixR N M k 0 = (digitsL 256 M k).reverse := by unfold mixR; simp [digitsL]
theorem mixR_full (N M k : Nat) : mixR N M k k = (digitsL 256 N k).reverse := by unfold mixR; rw [List.drop_of_length_le (by rw [digitsL_length]; exact Nat.le_refl _), List.append_nil]
theorem own_made8 (w : World) (e : TypeId) (l : List Value) (ys : List UInt8) (h : l = ys.map bv) (hl : ys.length ≤ maxLen) {base : Nat} (hb : base ≤ w.heap.size) :
    (w.alloc (.cells l.toArray e)).ownsRow base e 1 (.slice (some ⟨w.heap.size, 0, none⟩) ys.length ys.length) ys.length (ys.map bv) :=
  ⟨by simp, .inr ⟨w.heap.size, ys.length, _, rfl, hb, heap_alloc_new w _, Nat.le_refl _, hl, by rw [h]; simp, by
    rw [Nat.mul_one, h]
    exact List.take_of_length_le (by simp)⟩⟩
theorem own_base8 {w : World} {b b' : Nat} {e : TypeId} {size n : Nat} {v : Value} {xs : List Value} (h : w.ownsRow b e size v n xs) (hb : b' ≤ b) : w.ownsRow b' e size v n xs := by
  refine ⟨h.1, ?_⟩
  rcases h.2 with h | ⟨g, cap, cur, hv, hg, r⟩
  · exact .inl h
  · exact .inr ⟨g, cap, cur, hv, Nat.le_trans hb hg, r⟩
theorem own_join8 {w : World} {base : Nat} {v : Value} {t l p : List UInt8} (h : w.ownsRow base 5 1 v (t.length + l.length) (t.map bv ++ l.map bv)) (hp : p = t ++ l) : OwnB w base v p := by
  subst hp
  unfold OwnB
  rw [List.length_append, List.map_append]
  exact h
theorem pos_one (c : UInt8) : posB b58D c = 0 ↔ c = 49 := by
  constructor
  · intro h
    exact (posB_inj8 (al := b58D) (a := c) (b := 49) (by omega) (by rw [h]; decide +kernel))
  · rintro rfl
    decide +kernel
/-- The digits behind one letter more. -/
theorem acc_step {M kk p cr : Nat} (hp : p < 58) (hk : M / 256 ^ kk = 0) (hkj : ∀ j, j < kk → M / 256 ^ j ≠ 0) (hcr : cr = (M * 58 + p) / 256 ^ kk) (hcr58 : cr < 58) :
    (cr = 0 → AscOf 256 (M * 58 + p) (digitsL 256 (M * 58 + p) kk)) ∧ (0 < cr → AscOf 256 (M * 58 + p) (digitsL 256 (M * 58 + p) (kk + 1)) ∧ digN 256 (M * 58 + p) kk = b8 (cr : Int)) := by
  have hge : ∀ j, j < kk → (M * 58 + p) / 256 ^ j ≠ 0 := fun j hj h => hkj j hj (by
    have h1 : M / 256 ^ j ≤ (M * 58 + p) / 256 ^ j := Nat.div_le_div_right (by omega)
    rw [h] at h1
    exact Nat.le_zero.1 h1)
  refine ⟨fun h0 => ⟨kk, rfl, by rw [← hcr]; exact h0, hge⟩, fun h0 => ⟨⟨kk + 1, rfl, ?_, fun j hj => ?_⟩, ?_⟩⟩
  · rw [div_next, ← hcr]
    exact Nat.div_eq_of_lt (by omega)
  · by_cases h : j < kk
    · exact hge j h
    · obtain rfl : j = kk := by omega
      rw [← hcr]
      exact Nat.ne_of_gt h0
  · unfold digN
    rw [← hcr, Nat.mod_eq_of_lt (by omega)]
theorem byt_own8 {w : World} {base : Nat} {v : Value} {n : List UInt8} (h : OwnB w base v n) : ∃ A c, v = .slice A n.length c ∧ n.length ≤ c ∧ c ≤ 9223372036854775807 := by
  obtain ⟨A, c, e, h1, h2, _⟩ := Byt.of_own h
  unfold maxLen at h2
  exact ⟨A, c, e, h1, h2⟩
def RDec (w : World) (cs : List UInt8) (e : Ending) (w' : World) : Prop := ∃ k v out, Dec cs k out ∧ e = .returned (.tuple #[v, .int .i64 k]) ∧ OwnB w' w.heap.size v out ∧ Below w.heap.size w w'

end Go.Proofs.YtgiljhdjknglpaaDoor
