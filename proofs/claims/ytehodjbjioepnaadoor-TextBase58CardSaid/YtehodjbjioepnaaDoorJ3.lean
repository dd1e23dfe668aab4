/-
  Texts joined: HexRef, Val, FromHex, FromHex2, B58, B5P, B5R, Turn, B5F. Conditions: those of each.
-/
import Derived.Test.YtehodjbjioepnaaDoorJ2
import Derived.Test.YtehodjbjioepnaaDoorJ1
import Derived.Deep.CutBlock
import Derived.Deep.DeepCutAuto
/-
  The reference's Hex and value. Conditions: sizes within the reach.
-/
namespace Go.Proofs.YtehodjbjioepnaaDoor
open Go.RowKit

def hexD : ByteArray := ⟨#[48, 49, 50, 51, 52, 53, 54, 55, 56, 57, 97, 98, 99, 100, 101, 102, 65, 66, 67, 68, 69, 70]⟩
/-- A digit's number. -/
def digI (q : Int) : Int := if q < 10 then 48 + q else 87 + q
def digs (c : UInt8) : List UInt8 := [b8 (digI ((c.toNat : Int) / 16)), b8 (digI ((c.toNat : Int) % 16))]
def digsOf (xs : List UInt8) : List UInt8 := xs.flatMap digs
theorem digsOf_length (xs : List UInt8) : (digsOf xs).length = 2 * xs.length := by
  induction xs with
  | nil => rfl
  | cons c xs ih => unfold digsOf at ih ⊢; rw [List.flatMap_cons, List.length_append, ih, List.length_cons]; simp [digs]; omega
theorem digsOf_snoc {xs : List UInt8} {i : Nat} {q : UInt8} (h : xs[i]? = some q) : digsOf (xs.take (i + 1)) = digsOf (xs.take i) ++ digs q := by
  unfold digsOf
  rw [List.take_add_one, h, List.flatMap_append]
  simp
theorem dig_letter : ∀ n : Fin 16, hexD.data.toList.getD (b8 (n.val : Int)).toNat 0 = b8 (digI (n.val : Int)) := by decide +kernel
theorem digs_letters (xs : List UInt8) : letters hexD (nibsOf xs) = digsOf xs := by
  unfold letters nibsOf digsOf
  rw [List.map_flatMap]
  refine congrArg (fun f => List.flatMap f xs) (funext fun c => ?_)
  have hc := c.toNat_lt
  have h1 := dig_letter ⟨c.toNat / 16, by omega⟩
  have h2 := dig_letter ⟨c.toNat % 16, by omega⟩
  have e1 : ((c.toNat / 16 : Nat) : Int) = (c.toNat : Int) / 16 := by omega
  have e2 : ((c.toNat % 16 : Nat) : Int) = (c.toNat : Int) % 16 := by omega
  dsimp only at h1 h2
  rw [e1] at h1
  rw [e2] at h2
  unfold nibs digs
  rw [List.map_cons, List.map_cons, List.map_nil, h1, h2]

theorem digI_bd {q : Int} (h0 : 0 ≤ q) (h1 : q ≤ 15) : 48 ≤ digI q ∧ digI q ≤ 102 := by
  unfold digI
  split <;> omega
end Go.Proofs.YtehodjbjioepnaaDoor

/-
  The reference's value: a hexadecimal digit's number. Conditions: none.
-/
namespace Go.Proofs.YtehodjbjioepnaaDoor
open Go.RowKit

/-- Is it the k-th digit? -/
def hitB (c : UInt8) (k : Nat) : Bool := decide ((c.toNat : Int) = digI k) || (decide (9 < k) && decide ((c.toNat : Int) = digI k - 32))
/-- The digit's number, or -1. -/
def refVal (c : UInt8) : Int := match (List.range 16).find? (hitB c) with | some k => k | none => -1
theorem find_first {f : Nat → Bool} {n k : Nat} (hk : k < n) (hf : f k = true) (hall : ∀ j, j < k → f j = false) : (List.range n).find? f = some k := by
  rw [List.find?_range_eq_some]
  exact ⟨hf, by simpa using hk, fun j hj => by simpa using hall j hj⟩
theorem refVal_at {c : UInt8} {k : Nat} (hk : k < 16) (hf : hitB c k = true) (hall : ∀ j, j < k → hitB c j = false) : refVal c = k := by
  unfold refVal
  rw [find_first hk hf hall]
theorem refVal_no {c : UInt8} (hall : ∀ j, j < 16 → hitB c j = false) : refVal c = -1 := by
  unfold refVal
  have : (List.range 16).find? (hitB c) = none := by
    rw [List.find?_eq_none]
    intro j hj
    rw [hall j (by simpa using hj)]
    simp
  rw [this]

/-- The number, by the program's table of digits. -/
def valB (c : UInt8) : Int := let p := posB hexD c; if p < 0 then -1 else if 15 < p then p - 6 else p
theorem val_same_fin : ∀ c : Fin 256, refVal (UInt8.ofNat c.val) = valB (UInt8.ofNat c.val) := by decide +kernel
theorem val_same (c : UInt8) : refVal c = valB c := by
  have h := val_same_fin ⟨c.toNat, by have := c.toNat_lt; omega⟩
  simpa using h
theorem val_bd (c : UInt8) : -1 ≤ valB c ∧ valB c ≤ 15 := by
  have h : ∀ c : Fin 256, -1 ≤ valB (UInt8.ofNat c.val) ∧ valB (UInt8.ofNat c.val) ≤ 15 := by decide +kernel
  have h := h ⟨c.toNat, by have := c.toNat_lt; omega⟩
  simpa using h

end Go.Proofs.YtehodjbjioepnaaDoor

/-
  text.FromHex, and the reference's. Conditions: sizes within the reach.
-/
namespace Go.Proofs.YtehodjbjioepnaaDoor
open Go.RowKit

def pairB (cs : List UInt8) (k : Nat) : UInt8 := b8 (16 * valB (cs.getD (2 * k) 0) + valB (cs.getD (2 * k + 1) 0))
def outL (cs : List UInt8) (n : Nat) : List UInt8 := (List.range n).map (pairB cs)
def GoodHex (cs : List UInt8) : Prop := cs.length % 2 = 0 ∧ ∀ c ∈ cs, 0 ≤ valB c
theorem outL_length (cs : List UInt8) (n : Nat) : (outL cs n).length = n := by simp [outL]
theorem outL_succ (cs : List UInt8) (n : Nat) : outL cs (n + 1) = outL cs n ++ [pairB cs n] := by simp [outL, List.range_succ]
theorem outL_take (cs : List UInt8) {k n : Nat} (h : k ≤ n) : (outL cs n).take k = outL cs k := by
  unfold outL
  rw [← List.map_take, List.take_range, Nat.min_eq_left h]
theorem outL_at (cs : List UInt8) {k n : Nat} (h : k < n) : (outL cs n)[k]? = some (pairB cs k) := by
  unfold outL
  rw [List.getElem?_map, List.getElem?_range h]
  rfl

/-- What the reference's FromHex answers. -/
def RefFromPost (w : World) (cs : List UInt8) (e : Ending) (w' : World) : Prop :=
  Below w.heap.size w w' ∧ (GoodHex cs ∧ (∃ v, e = .returned (.tuple #[v, .bool true]) ∧ w'.ownsRow w.heap.size 5 1 v (outL cs (cs.length / 2)).length ((outL cs (cs.length / 2)).map bv)) ∨
    ¬ GoodHex cs ∧ e = .returned (.tuple #[.slice none 0 0, .bool false]))

end Go.Proofs.YtehodjbjioepnaaDoor

/-
  text.FromHex. Conditions: sizes within the reach.
-/
namespace Go.Proofs.YtehodjbjioepnaaDoor
open Go.RowKit

/-- What FromHex answers. -/
def FromPost (w : World) (cs : List UInt8) (e : Ending) (w' : World) : Prop :=
  Below w.heap.size w w' ∧ (GoodHex cs ∧ (∃ g n, n = cs.length / 2 ∧ e = .returned (.tuple #[.slice (some ⟨g, 0, none⟩) n n, .int .i64 0]) ∧ Row w' g (outL cs n)) ∨
    ¬ GoodHex cs ∧ e = .returned (.tuple #[.slice none 0 0, .int .i64 3]))

theorem val_pos {c : UInt8} : 0 ≤ valB c ↔ 0 ≤ posB hexD c := by
  have hge := Lib.indexByte_ge hexD.data.toList c
  have e : posB hexD c = Lib.indexByte hexD.data.toList c := rfl
  unfold valB
  simp only
  split
  · omega
  · split <;> omega
theorem pos_lt (c : UInt8) : posB hexD c < 22 := by
  have hge := Lib.indexByte_ge hexD.data.toList c
  by_cases h : posB hexD c < 0
  · omega
  · obtain ⟨o, ho⟩ : ∃ o : Nat, posB hexD c = o := ⟨(posB hexD c).toNat, by omega⟩
    have := (List.getElem?_eq_some_iff.1 (Lib.indexByte_some (l := hexD.data.toList) (by exact ho)).1).1
    have h2 : hexD.data.toList.length = 22 := by decide
    omega
end Go.Proofs.YtehodjbjioepnaaDoor

/-
  text.Base58; and the fixed fact of the laws on texts comes out true. Conditions: the listed table holds what its text lays; sizes within the reach.
-/
namespace Go.Proofs.YtehodjbjioepnaaDoor
open Go.RowKit

def b58D : ByteArray := ⟨#[49, 50, 51, 52, 53, 54, 55, 56, 57, 65, 66, 67, 68, 69, 70, 71, 72, 74, 75, 76, 77, 78, 80, 81, 82, 83, 84, 85, 86, 87, 88, 89, 90, 97, 98, 99, 100, 101, 102, 103, 104, 105, 106, 107, 109, 110, 111, 112, 113, 114, 115, 116, 117, 118, 119, 120, 121, 122]⟩
theorem reb_small {b f : Nat} {ds out : List UInt8} (h : RebOf b f ds out) (h0 : 0 < b) (h1 : b ≤ 256) : ∀ d ∈ out, d.toNat < b := by
  obtain ⟨asc, ⟨k, rfl, _, _⟩, rfl⟩ := h
  intro d hd
  rcases List.mem_append.1 hd with h | h
  · rw [List.eq_of_mem_replicate h]
    exact h0
  · rw [List.mem_reverse] at h
    unfold digitsL at h
    obtain ⟨j, _, rfl⟩ := List.mem_map.1 h
    rw [digN_nat h0 h1]
    exact Nat.mod_lt _ h0
theorem reb_length {b f : Nat} {ds out : List UInt8} (h : RebOf b f ds out) (hb : 2 ≤ b) (hf : f ≤ 256) (hf0 : 0 < f) (hd : ∀ d ∈ ds, d.toNat < f) : out.length ≤ 9 * ds.length := by
  obtain ⟨asc, ha, rfl⟩ := h
  have h1 := valF_lt hf hf0 (ds.drop (zerosN ds)) (fun d h => hd d (List.mem_of_mem_drop h))
  have h2 := ha.short hb h1
  have h3 := zerosN_le ds
  rw [List.length_drop] at h2
  rw [List.length_append, List.length_replicate, List.length_reverse]
  omega
theorem RebOf.unique {b f : Nat} {ds x y : List UInt8} (hx : RebOf b f ds x) (hy : RebOf b f ds y) : x = y := by
  obtain ⟨a, ha, rfl⟩ := hx
  obtain ⟨c, hc, rfl⟩ := hy
  rw [ha.unique hc]

set_option maxRecDepth 100000 in
set_option maxHeartbeats 800000 in
theorem base58_any (B : Nat) (x : Value) (ds : List UInt8) (w : World) (hx : Byt w B x ds) (hB : B ≤ w.heap.size) (hl : ds.length ≤ 6000) :
    Calls Tryd.prog 7 #[x] w fun e w' => ∃ out, e = .returned (.string ⟨(letters b58D out).toArray⟩) ∧ RebOf 58 256 ds out ∧ Below w.heap.size w w' := by
  have hd : ∀ d ∈ ds, d.toNat < 256 := fun d _ => d.toNat_lt
  have C := reb_any B x ds 256 58 w hx hB (by omega) (by omega) (by omega) (by omega) (by omega) hd
  obtain ⟨A, c, hxf⟩ := hx.form
  subst hxf
  have HC := Lib.hid C
  have HD := Lib.hid hd
  clear C hd
  go_enter Tryd.func7, Tryd.ntmps7
  go_wp2_with fail
  refine HC.out.mono ?_
  rintro e w1 ⟨v, out, rfl, hreb, hown, hb1⟩
  have hol := reb_length hreb (by omega) (by omega) (by omega) HD.out
  have hsp := spell_any _ v out b58D w1 hown.byt (Nat.le_refl _) (by omega) (fun p hp => reb_small hreb (by omega) (by omega) p hp)
  have HS := Lib.hid hsp
  have HR := Lib.hid hreb
  obtain ⟨A1, c1, rfl⟩ := hown.form
  clear hsp hreb hown hol
  go_wp2_with fail
  refine HS.out.mono ?_
  rintro e w2 ⟨rfl, hb2⟩
  go_wp2
  go_ret
  exact ⟨out, rfl, HR.out, hb1.trans (hb2.mono hb1.size)⟩

theorem asc_one : AscOf 58 1 [1] := ⟨1, by decide, by decide, fun j hj => by
  have : j = 0 := by omega
  subst this; decide⟩
theorem reb_001 {out : List UInt8} (h : RebOf 58 256 [0, 0, 1] out) : out = [0, 0, 1] := by
  refine h.unique ⟨[1], ?_, by decide⟩
  exact asc_one

theorem bytes_two {s : ByteArray} {l : List UInt8} (h : s.data.toList = l) : s = ⟨l.toArray⟩ := Go.WideShapes.bytes_inj (by rw [h])

set_option maxRecDepth 100000 in
set_option maxHeartbeats 1600000 in
theorem awake_any (w : World) (hc : CodeIs w) :
    Calls Tryd.prog 4 #[] w fun e w' => e = .returned (.bool true) ∧ Below w.heap.size w w' := by
  have K := checksum_any ⟨#[114, 97, 119, 40, 100, 101, 97, 100, 98, 101, 101, 102, 41]⟩ w (by decide) hc
  have k1 : ∀ c ∈ ([114, 97, 119, 40, 100, 101, 97, 100, 98, 101, 101, 102, 41] : List UInt8), 0 ≤ posB inB c := by decide +kernel
  have k2 : sumLetters (chkN (natsOf (placesB inB [114, 97, 119, 40, 100, 101, 97, 100, 98, 101, 101, 102, 41]))) = [56, 57, 102, 56, 115, 112, 120, 109] := by decide +kernel
  have h1 : nibsOf [10] = [0, 10] := by decide
  have h2 : letters hexD [0, 10] = [48, 97] := by decide
  have HK := Lib.hid K
  have HK1 := Lib.hid k1
  have HK2 := Lib.hid k2
  have H12 := Lib.hid (And.intro h1 h2)
  clear K k1 k2 h1 h2
  go_enter Tryd.func4, Tryd.ntmps4
  go_wp2_with fail
  refine HK.out.mono ?_
  rintro e w1 ⟨hb1, ⟨_, rfl⟩ | ⟨⟨c, hcm, hneg⟩, _⟩⟩
  · have e2 : sumLetters (chkN (natsOf (placesB inB (ByteArray.data ⟨#[114, 97, 119, 40, 100, 101, 97, 100, 98, 101, 101, 102, 41]⟩).toList))) = [56, 57, 102, 56, 115, 112, 120, 109] := HK2.out
    rw [e2]
    have hm1 : Byt (w1.alloc (.cells #[.int .u8 0, .int .u8 0, .int .u8 1] 5)) (w1.heap.size + 1) (.slice (some ⟨w1.heap.size, 0, none⟩) 3 3) [0, 0, 1] :=
      Byt.made w1 _ [_, _, _] [0, 0, 1] rfl (by unfold maxLen; simp)
    have C58 := base58_any _ _ _ _ hm1 (by simp) (by simp)
    have HC58 := Lib.hid C58
    clear e2 hm1 C58
    go_wp2_with fail
    refine HC58.out.mono ?_
    rintro e w2 ⟨out, rfl, hreb, hb2⟩
    have ho := reb_001 hreb
    subst ho
    have el : letters b58D [0, 0, 1] = [49, 49, 50] := by decide
    rw [el]
    have hm2 : Byt (w2.alloc (.cells #[.int .u8 10] 5)) (w2.heap.size + 1) (.slice (some ⟨w2.heap.size, 0, none⟩) 1 1) [10] :=
      Byt.made w2 _ [_] [10] rfl (by unfold maxLen; simp)
    have CH := hexp_any _ _ _ _ hm2 (by simp) (by simp)
    have HCH := Lib.hid CH
    clear hreb el hm2 CH
    go_wp2_with fail
    refine HCH.out.mono ?_
    rintro e w3 ⟨rfl, hb3⟩
    have e3 : (letters ⟨#[48, 49, 50, 51, 52, 53, 54, 55, 56, 57, 97, 98, 99, 100, 101, 102, 65, 66, 67, 68, 69, 70]⟩ (nibsOf [10])) = [48, 97] := by rw [H12.out.1]; exact H12.out.2
    rw [e3]
    clear e3
    go_wp2
    go_ret
    exact ⟨rfl, (hb1.trans (((((Below.refl _ w1).alloc (Nat.le_refl _) _)).trans (hb2.mono (by simp))).mono hb1.size)).trans ((((Below.refl _ w2).alloc (Nat.le_refl _) _).trans (hb3.mono (by simp))).mono (by have := hb1.size; have h5 := hb2.size; simp at h5; omega))⟩
  · have := HK1.out c hcm
    omega
end Go.Proofs.YtehodjbjioepnaaDoor

/-
  Numbers in two bases: back and forth; long division. Conditions: none (plain mathematics).
-/
namespace Go.Proofs.YtehodjbjioepnaaDoor
open Go.RowKit

theorem valF_append (b : Nat) (xs : List UInt8) (d : UInt8) : valF b (xs ++ [d]) = valF b xs * b + d.toNat := by
  unfold valF
  rw [List.foldl_append]
  rfl
theorem valF_zeros (b n : Nat) (xs : List UInt8) : valF b (List.replicate n 0 ++ xs) = valF b xs := by
  induction n with
  | zero => simp
  | succ n ih =>
    rw [List.replicate_succ, List.cons_append]
    have : valF b (0 :: (List.replicate n 0 ++ xs)) = valF b (List.replicate n 0 ++ xs) := by
      unfold valF
      rw [List.foldl_cons]
      simp
    rw [this, ih]
theorem valF_pow {b : Nat} (xs : List UInt8) (hx : ∀ d ∈ xs, d.toNat < b) : valF b xs < b ^ xs.length := by
  obtain ⟨r, hr⟩ : ∃ r, r = xs.reverse := ⟨_, rfl⟩
  have hp : xs = r.reverse := by rw [hr, List.reverse_reverse]
  rw [hp] at hx ⊢
  clear hp hr xs
  induction r with
  | nil => simp [valF]
  | cons d r ih =>
    have hd0 := hx d (by simp)
    have ih := ih (fun e he => hx e (by rw [List.reverse_cons]; exact List.mem_append_left _ he))
    rw [List.reverse_cons, valF_append, List.length_append, List.length_singleton, Nat.pow_succ]
    have h3 : (valF b r.reverse + 1) * b ≤ b ^ r.reverse.length * b := Nat.mul_le_mul_right b ih
    have h4 : (valF b r.reverse + 1) * b = valF b r.reverse * b + b := by rw [Nat.add_mul, Nat.one_mul]
    omega
theorem digN_of {b N j : Nat} {d : UInt8} (h : N / b ^ j % b = d.toNat) (hb : 0 < b) (hb2 : b ≤ 256) : digN b N j = d := by
  have := digN_nat (b := b) (N := N) (j := j) hb hb2
  exact UInt8.toNat.inj (by rw [this, h])
/-- The digits of a number that is written in digits. -/
theorem digitsL_val {b : Nat} (hb : 2 ≤ b) (hb2 : b ≤ 256) (xs : List UInt8) (hx : ∀ d ∈ xs, d.toNat < b) : digitsL b (valF b xs) xs.length = xs.reverse := by
  obtain ⟨r, hr⟩ : ∃ r, r = xs.reverse := ⟨_, rfl⟩
  have hp : xs = r.reverse := by rw [hr, List.reverse_reverse]
  rw [hp] at hx ⊢
  rw [List.reverse_reverse, List.length_reverse]
  clear hp hr xs
  induction r with
  | nil => rfl
  | cons d r ih =>
    have hd0 := hx d (by simp)
    have ih := ih (fun e he => hx e (by rw [List.reverse_cons]; exact List.mem_append_left _ he))
    rw [List.reverse_cons, valF_append, List.length_cons]
    have hsucc : ∀ (N k : Nat), digitsL b N (k + 1) = digN b N 0 :: digitsL b (N / b) k := by
      intro N k
      unfold digitsL
      rw [List.range_succ_eq_map, List.map_cons, List.map_map]
      congr 1
      refine List.map_congr_left fun j _ => ?_
      show digN b N (j + 1) = digN b (N / b) j
      unfold digN
      rw [Nat.pow_succ', Nat.div_div_eq_div_mul]
    have h1 : (valF b r.reverse * b + d.toNat) / b = valF b r.reverse := by
      rw [Nat.mul_comm, Nat.mul_add_div (by omega), Nat.div_eq_of_lt hd0, Nat.add_zero]
    have h2 : digN b (valF b r.reverse * b + d.toNat) 0 = d := by
      refine digN_of ?_ (by omega) hb2
      rw [Nat.pow_zero, Nat.div_one, Nat.mul_comm, Nat.mul_add_mod, Nat.mod_eq_of_lt hd0]
    rw [hsucc, h1, h2, ih]
theorem valF_digits {b : Nat} (hb : 2 ≤ b) (hb2 : b ≤ 256) (N k : Nat) : valF b (digitsL b N k).reverse = N % b ^ k := by
  induction k with
  | zero => simp [digitsL, valF, Nat.mod_one]
  | succ k ih =>
    rw [digitsL_succ, List.reverse_append, List.reverse_singleton, List.singleton_append]
    have hc : ∀ (d : UInt8) (xs : List UInt8), valF b (d :: xs) = d.toNat * b ^ xs.length + valF b xs := by
      intro d xs
      obtain ⟨r, hr⟩ : ∃ r, r = xs.reverse := ⟨_, rfl⟩
      have hp : xs = r.reverse := by rw [hr, List.reverse_reverse]
      rw [hp]
      clear hp hr xs
      induction r with
      | nil => simp [valF]
      | cons e r ihr =>
        rw [List.reverse_cons, ← List.cons_append, valF_append, valF_append, ihr, List.length_append, List.length_singleton, Nat.pow_succ, Nat.add_mul, Nat.mul_assoc]
        omega
    rw [hc, List.length_reverse, digitsL_length, ih, digN_nat (by omega) hb2]
    have := Nat.mod_pow_succ (x := N) (b := b) (k := k)
    rw [this, Nat.mul_comm (b ^ k), Nat.add_comm]
/-- Digits without a zero at the head are the number's. -/
theorem asc_of {b : Nat} (hb : 2 ≤ b) (hb2 : b ≤ 256) (xs : List UInt8) (hx : ∀ d ∈ xs, d.toNat < b) (hh : ∀ d, xs.head? = some d → d ≠ 0) : AscOf b (valF b xs) xs.reverse := by
  refine ⟨xs.length, (digitsL_val hb hb2 xs hx).symm, Nat.div_eq_of_lt (valF_pow xs hx), fun j hj => ?_⟩
  match xs, hx, hh, hj with
  | d :: r, hx, hh, hj =>
    have hd : d.toNat ≠ 0 := fun h => hh d rfl (UInt8.toNat.inj h)
    have hc : b ^ r.length ≤ valF b (d :: r) := by
      have h1 : ∀ (l : List UInt8), d.toNat * b ^ l.length ≤ valF b (d :: l) := by
        intro l
        obtain ⟨q, hq⟩ : ∃ q, q = l.reverse := ⟨_, rfl⟩
        have hp : l = q.reverse := by rw [hq, List.reverse_reverse]
        rw [hp]
        clear hp hq l
        induction q with
        | nil => simp [valF]
        | cons e q ih =>
          rw [List.reverse_cons, ← List.cons_append, valF_append, List.length_append, List.length_singleton, Nat.pow_succ, ← Nat.mul_assoc]
          exact Nat.le_trans (Nat.mul_le_mul_right b ih) (Nat.le_add_right _ _)
      exact Nat.le_trans (Nat.le_mul_of_pos_left _ (by omega)) (h1 r)
    have hj2 : b ^ j ≤ b ^ r.length := Nat.pow_le_pow_right (by omega) (by simp at hj; omega)
    have : 0 < valF b (d :: r) / b ^ j := Nat.div_pos (Nat.le_trans hj2 hc) (Nat.pow_pos (by omega))
    omega
theorem asc_head {b N : Nat} (hb : 2 ≤ b) (hb2 : b ≤ 256) {asc : List UInt8} (h : AscOf b N asc) : ∀ d, asc.reverse.head? = some d → d ≠ 0 := by
  obtain ⟨k, rfl, hk, hkj⟩ := h
  intro d hd
  match k, hk, hkj, hd with
  | 0, _, _, hd => cases hd
  | k + 1, hk, hkj, hd =>
    rw [digitsL_succ, List.reverse_append, List.reverse_singleton, List.singleton_append, List.head?_cons] at hd
    obtain rfl := Option.some.inj hd
    intro h0
    have h1 := digN_nat (b := b) (N := N) (j := k) (by omega) hb2
    rw [h0] at h1
    have h2 : N / b ^ k < b := by
      have : N / b ^ k / b = 0 := by rw [← div_next]; exact hk
      exact (Nat.div_eq_zero_iff_lt (by omega)).1 this
    rw [Nat.mod_eq_of_lt h2] at h1
    exact hkj k (by omega) h1.symm
theorem asc_val {b N : Nat} (hb : 2 ≤ b) (hb2 : b ≤ 256) {asc : List UInt8} (h : AscOf b N asc) : valF b asc.reverse = N := by
  obtain ⟨k, rfl, hk, _⟩ := h
  rw [valF_digits hb hb2]
  exact Nat.mod_eq_of_lt (Nat.lt_of_div_eq_zero (Nat.pow_pos (by omega)) hk)
theorem zerosN_rep (n : Nat) (xs : List UInt8) (h : ∀ d, xs.head? = some d → d ≠ 0) : zerosN (List.replicate n 0 ++ xs) = n := by
  unfold zerosN
  induction n with
  | zero =>
    match xs, h with
    | [], _ => rfl
    | d :: r, h =>
      have := h d rfl
      rw [List.replicate_zero, List.nil_append, List.takeWhile_cons_of_neg (by simpa using this)]
      rfl
  | succ n ih => rw [List.replicate_succ, List.cons_append, List.takeWhile_cons_of_pos (by simp), List.length_cons, ih]
theorem zeros_take (xs : List UInt8) : xs.take (zerosN xs) = List.replicate (zerosN xs) 0 ∧ ∀ d, (xs.drop (zerosN xs)).head? = some d → d ≠ 0 := by
  unfold zerosN
  induction xs with
  | nil => exact ⟨rfl, fun d h => by cases h⟩
  | cons a xs ih =>
    by_cases ha : a = 0
    · subst ha
      rw [List.takeWhile_cons_of_pos (by simp), List.length_cons, List.take_succ_cons, List.drop_succ_cons, List.replicate_succ, ih.1]
      exact ⟨rfl, ih.2⟩
    · rw [List.takeWhile_cons_of_neg (by simpa using ha)]
      exact ⟨rfl, fun d h => by obtain rfl := Option.some.inj h; exact ha⟩
/-- What was written in another base is written back. -/
theorem reb_back {b f : Nat} {ds out : List UInt8} (h : RebOf b f ds out) (hb : 2 ≤ b) (hb2 : b ≤ 256) (hf : 2 ≤ f) (hf2 : f ≤ 256) (hd : ∀ d ∈ ds, d.toNat < f) : RebOf f b out ds := by
  obtain ⟨asc, ha, rfl⟩ := h
  have hz := zerosN_rep (zerosN ds) asc.reverse (asc_head hb hb2 ha)
  obtain ⟨h1, h2⟩ := zeros_take ds
  refine ⟨(ds.drop (zerosN ds)).reverse, ?_, ?_⟩
  · rw [hz, List.drop_append_of_le_length (by simp), List.drop_of_length_le (by simp), List.nil_append, asc_val hb hb2 ha]
    exact asc_of hf hf2 _ (fun d h => hd d (List.mem_of_mem_drop h)) h2
  · rw [hz, List.reverse_reverse, ← h1, List.take_append_drop]

/-- Long division by 58. -/
def dvF (n : List UInt8) : List UInt8 := (List.range n.length).map fun i => b8 ((valF 256 (n.take (i + 1)) / 58 % 256 : Nat) : Int)
theorem dvF_length (n : List UInt8) : (dvF n).length = n.length := by simp [dvF]
theorem dvF_at {n : List UInt8} {i : Nat} (h : i < n.length) : (dvF n)[i]? = some (b8 ((valF 256 (n.take (i + 1)) / 58 % 256 : Nat) : Int)) := by
  unfold dvF
  rw [List.getElem?_map, List.getElem?_range h]
  rfl
theorem dv_step {A d : Nat} (hd : d < 256) : (A * 256 + d) / 58 % 256 = (A % 58 * 256 + d) / 58 ∧ (A * 256 + d) % 58 = (A % 58 * 256 + d) % 58 ∧ A / 58 * 256 + (A * 256 + d) / 58 % 256 = (A * 256 + d) / 58 := by omega
theorem valF_dv (n : List UInt8) : ∀ i, i ≤ n.length → valF 256 ((dvF n).take i) = valF 256 (n.take i) / 58 := by
  intro i
  induction i with
  | zero => intro _; simp [valF]
  | succ i ih =>
    intro hi
    have ih := ih (by omega)
    obtain ⟨d, hd⟩ : ∃ d, n[i]? = some d := ⟨_, List.getElem?_eq_getElem (by omega)⟩
    rw [valF_snoc 256 hd, valF_snoc 256 (dvF_at (by omega)), ih, valF_snoc 256 hd]
    have h1 := dv_step (A := valF 256 (n.take i)) d.toNat_lt
    have h2 := b8_toNat (((valF 256 (n.take i) * 256 + d.toNat) / 58 % 256 : Nat) : Int)
    omega
theorem valF_dvF (n : List UInt8) : valF 256 (dvF n) = valF 256 n / 58 := by
  have := valF_dv n n.length (Nat.le_refl _)
  rwa [← dvF_length n, List.take_length, dvF_length, List.take_length] at this
end Go.Proofs.YtehodjbjioepnaaDoor

/-
  The reference's Base58. Conditions: sizes within the reach.
-/
namespace Go.Proofs.YtehodjbjioepnaaDoor
open Go.RowKit

theorem valF_zero {b : Nat} {xs : List UInt8} (h : ∀ (j : Nat) (d : UInt8), xs[j]? = some d → d = 0) : valF b xs = 0 := by
  have : xs = List.replicate xs.length 0 ++ [] := by
    rw [List.append_nil]
    refine List.ext_getElem? fun j => ?_
    by_cases hj : j < xs.length
    · rw [List.getElem?_replicate, if_pos hj, List.getElem?_eq_getElem hj]
      exact congrArg some (h j _ (List.getElem?_eq_getElem hj))
    · rw [List.getElem?_eq_none (by omega), List.getElem?_eq_none (by rw [List.length_replicate]; omega)]
  rw [this, valF_zeros]
  rfl
theorem valF_ne {b : Nat} (hb : 0 < b) {xs : List UInt8} {i : Nat} {d : UInt8} (h : xs[i]? = some d) (hd : d ≠ 0) : valF b xs ≠ 0 := by
  obtain ⟨r, hr⟩ : ∃ r, r = xs.reverse := ⟨_, rfl⟩
  have hp : xs = r.reverse := by rw [hr, List.reverse_reverse]
  rw [hp] at h ⊢
  clear hp hr xs
  induction r with
  | nil => simp at h
  | cons e r ih =>
    rw [List.reverse_cons] at h ⊢
    rw [valF_append]
    by_cases hi : i < r.reverse.length
    · rw [List.getElem?_append_left hi] at h
      have := ih h
      have h2 := Nat.mul_pos (Nat.pos_of_ne_zero this) hb
      omega
    · rw [List.getElem?_append_right (by omega)] at h
      have hie : i - r.reverse.length = 0 := by
        have := (List.getElem?_eq_some_iff.1 h).1
        simp at this
        simp
        omega
      rw [hie] at h
      obtain rfl : e = d := by simpa using h
      have : e.toNat ≠ 0 := fun h0 => hd (UInt8.toNat.inj h0)
      omega
theorem take_zero {n : List UInt8} {bg : Nat} (h : ∀ j, j < bg → n[j]? = some 0) {i : Nat} (hi : i ≤ bg) : valF 256 (n.take i) = 0 :=
  valF_zero fun j d hj => by
    rw [List.getElem?_take] at hj
    split at hj
    · rw [h j (by omega)] at hj
      exact (Option.some.inj hj).symm
    · cases hj
theorem dvF_zero {n : List UInt8} {bg : Nat} (h : ∀ j, j < bg → n[j]? = some 0) {j : Nat} (hj : j < bg) : (dvF n)[j]? = some 0 := by
  have hl : j < n.length := (List.getElem?_eq_some_iff.1 (h j hj)).1
  rw [dvF_at hl, take_zero h (by omega)]
  rfl
theorem dvF_take {n : List UInt8} {bg : Nat} (h : ∀ j, j < bg → n[j]? = some 0) : (dvF n).take bg ++ n.drop bg = n := by
  have e : (dvF n).take bg = n.take bg := by
    refine List.ext_getElem? fun j => ?_
    rw [List.getElem?_take, List.getElem?_take]
    split
    · rename_i hj
      rw [dvF_zero h hj, h j hj]
    · rfl
  rw [e, List.take_append_drop]
theorem dvF_set {n : List UInt8} {i : Nat} (h : i < n.length) : ((dvF n).take i ++ n.drop i).set i (b8 ((valF 256 (n.take (i + 1)) / 58 % 256 : Nat) : Int)) = (dvF n).take (i + 1) ++ n.drop (i + 1) := by
  have hl : ((dvF n).take i).length = i := by rw [List.length_take, dvF_length]; omega
  have e : (dvF n).take (i + 1) = (dvF n).take i ++ [b8 ((valF 256 (n.take (i + 1)) / 58 % 256 : Nat) : Int)] := by
    rw [List.take_add_one, dvF_at h]
    rfl
  rw [List.set_append_right _ _ (by omega), hl, Nat.sub_self, List.drop_eq_getElem_cons h, List.set_cons_zero, e, List.append_assoc]
  rfl
theorem dvF_get {n : List UInt8} {i : Nat} {d : UInt8} (h : n[i]? = some d) : ((dvF n).take i ++ n.drop i)[i]? = some d := by
  have hi := (List.getElem?_eq_some_iff.1 h).1
  have hl : ((dvF n).take i).length = i := by rw [List.length_take, dvF_length]; omega
  rw [List.getElem?_append_right (by omega), hl, Nat.sub_self, List.getElem?_drop, Nat.add_zero, h]
theorem str_first {l : List UInt8} {c : UInt8} : (⟨#[c]⟩ : ByteArray) ++ ⟨l.toArray⟩ = ⟨(c :: l).toArray⟩ := by
  apply Go.WideShapes.bytes_inj
  simp
theorem one_str8 (W : World) (q : UInt8) :
    (convert 22 9 (.slice (some ⟨W.heap.size, 0, none⟩) 1 1)).run Tryd.prog (W.alloc (.cells #[.int .u8 (q.toNat : Int)] 5)) = .ok (.string ⟨#[q]⟩) (W.alloc (.cells #[.int .u8 (q.toNat : Int)] 5)) :=
  run_string_of (P := Tryd.prog) _ 22 9 5 Tryd.underlying22 Tryd.underlying5 Tryd.underlying9 _ _ _ (Byt.made W 5 _ [q] rfl (by unfold maxLen; simp))
def strN : Value → Nat
  | .string b => b.size
  | _ => 0
theorem zerosN_below {xs : List UInt8} {i : Nat} (h : i < zerosN xs) : xs[i]? = some 0 := by
  have h1 := (zeros_take xs).1
  have h2 : (xs.take (zerosN xs))[i]? = some 0 := by rw [h1, List.getElem?_replicate, if_pos h]
  rw [List.getElem?_take, if_pos h] at h2
  exact h2
theorem zerosN_end {xs : List UInt8} {d : UInt8} (h : xs[zerosN xs]? = some d) : d ≠ 0 := by
  refine (zeros_take xs).2 d ?_
  rw [List.head?_drop]
  exact h
theorem letters_zeros (n : Nat) (xs : List UInt8) : letters b58D (List.replicate n 0 ++ xs) = List.replicate n 49 ++ letters b58D xs := by
  unfold letters
  rw [List.map_append, List.map_replicate]
  rfl
theorem b58_at {v : Nat} (h : v < 58) : b58D.data.toList.getD v 0 = (b58D[v]'(by show v < 58; exact h)) := by
  rw [List.getD_eq_getElem?_getD, Lib.data_getElem? b58D v (by show v < 58; exact h)]
  rfl

set_option maxRecDepth 100000 in
set_option maxHeartbeats 6400000 in
theorem refB58_any (B : Nat) (x : Value) (ds : List UInt8) (w : World) (hx : Byt w B x ds) (hB : B ≤ w.heap.size) (hl : ds.length ≤ 200) :
    Calls Tryd.prog 9 #[x] w fun e w' => ∃ out, e = .returned (.string ⟨(letters b58D out).toArray⟩) ∧ RebOf 58 256 ds out ∧ Below w.heap.size w w' := by
  obtain ⟨i0, hi, hz0, hz1, hz2⟩ := info_parts info_u8
  obtain ⟨A, c, rfl⟩ := hx.form
  have hown : (w.alloc (.cells #[] 5)).ownsRow w.heap.size 5 1 (.slice (some ⟨w.heap.size, 0, none⟩) 0 0) 0 [] :=
    World.ownsRow_made w #[] 0 (Nat.le_refl _) (by unfold maxLen; omega) rfl
  have hr1 : Byt (w.alloc (.cells #[] 5)) B (.slice A ds.length c) ds := hx.below ((Below.refl _ _).alloc hB _)
  obtain ⟨V, hV⟩ : ∃ V, V = valF 256 ds := ⟨_, rfl⟩
  have hV2 : V < 2 ^ (8 * ds.length) := by rw [hV]; exact valF_lt (by omega) (by omega) ds (fun d _ => d.toNat_lt)
  obtain ⟨L, hL⟩ : ∃ L, L = ds.length := ⟨_, rfl⟩
  have HX := Lib.hid hx
  have HV := Lib.hid hV
  have HV2 := Lib.hid hV2
  have HL := Lib.hid hL
  rw [← hL] at hl hr1 HX HV2 ⊢
  clear hx hV hV2 hL
  go_enter Tryd.func9, Tryd.ntmps9
  go_upto_region 2 with (at_builtin; refine wpList_append_bytes rfl (.tmp 10) (.tmp 11) 22 rfl w.heap.size 5 i0 slice_u8 hi hz0 hz1 hz2 _ 0 [] rfl hown B _ ds rfl hr1 (by have := HL.out; omega) (by simp) ?_; intro v1 w1 hown1 hg1 hat1; rw [← HL.out] at hown1; obtain ⟨A1, c1, rfl⟩ := own_form hown1)
  rw [Nat.zero_add] at *
  have hb1 : Below w.heap.size w w1 := ((Below.refl _ w).alloc (Nat.le_refl _) _).grown hg1 (by simp) (fun k hk => by cases hk; exact Nat.le_refl _)
  have how1 : OwnB w1 w.heap.size (.slice A1 L c1) ds := by unfold OwnB; rw [← HL.out]; simpa using hown1
  have H1 := Lib.hid how1
  have HB1 := Lib.hid hb1
  clear hown1 hg1 hat1 hb1 hown hr1 how1
  go_upto_block 0 with fail
  go_cut [4] (fun s wx => ∃ asc, AscOf 58 V asc ∧ s = .string ⟨(letters b58D asc.reverse).toArray⟩ ∧ Below w.heap.size w wx)
  case first => as_aux_lemma =>
    go_wp2_with fail
    go_loopw [4, 5] (fun s g wr => ∃ (k bg : Nat) (n : List UInt8), Hid (n.length = L) ∧ bg ≤ L ∧ g = .int .i64 (bg : Int) ∧ Hid (∀ j, j < bg → n[j]? = some 0) ∧ Hid (valF 256 n = V / 58 ^ k) ∧ Hid (∀ j, j < k → V / 58 ^ j ≠ 0) ∧ s = .string ⟨(letters b58D (digitsL 58 V k).reverse).toArray⟩ ∧ Hid (OwnB wr w.heap.size (.slice A1 L c1) n) ∧ Hid (Below w.heap.size w wr)) (fun s g _ => (8 * L + 1 - strN s) * (L + 1) + (L - (intOf g).toNat))
    case atStart => exact ⟨0, 0, ds, Lib.hid HL.out.symm, Nat.zero_le _, rfl, Lib.hid (fun j h => by omega), Lib.hid (by rw [Nat.pow_zero, Nat.div_one]; exact HV.out.symm), Lib.hid (fun j h => by omega), rfl, H1, HB1⟩
    case round =>
      obtain ⟨k, bg, n, hnl, hbg, rfl, hz, hval, hk, rfl, hown, hbel⟩ := hrel
      by_cases hlt : bg < L
      · obtain ⟨q, hq⟩ : ∃ q, n[bg]? = some q := ⟨_, List.getElem?_eq_getElem (by have := hnl.out; omega)⟩
        have hown2 := hown.out
        rw [← hnl.out] at hown2
        obtain ⟨gn, cn, e, _, _, _⟩ := hown2.block (by have := hnl.out; omega)
        obtain ⟨e1, _, e3⟩ := Value.slice.inj e
        subst e1 e3
        have hcq : wr.cell? ⟨gn, bg, none⟩ = some (.int .u8 (q.toNat : Int)) := hown.out.cell hq
        have hd : decide (bg < L) = true := decide_eq_true hlt
        clear hown2 e
        by_cases hq0 : q = 0
        · have hz2 : ∀ j, j < bg + 1 → n[j]? = some 0 := fun j hj => by
            by_cases h : j < bg
            · exact hz.out j h
            · obtain rfl : j = bg := by omega
              rw [hq, hq0]
          have HZ2 := Lib.hid hz2
          have e0 : ((q.toNat : Int) == 0) = true := by rw [hq0]; rfl
          obtain ⟨u, hu⟩ : ∃ u : Int, u = (q.toNat : Int) := ⟨_, rfl⟩
          rw [← hu] at hcq e0
          clear hu hz2 hq hq0
          go_wp2_with fail
          go_roundw
          case rel => exact ⟨k, bg + 1, n, hnl, by omega, by go_num, HZ2, hval, hk, rfl, hown, hbel⟩
          case measure => simp [intOf]; omega
        · have hne := valF_ne (b := 256) (by omega) hq hq0
          have HNE := Lib.hid hne
          have e0 : ((q.toNat : Int) == 0) = false := by
            simp only [beq_eq_false_iff_ne, ne_eq]
            intro h
            exact hq0 (UInt8.toNat.inj (by show q.toNat = 0; omega))
          obtain ⟨u, hu⟩ : ∃ u : Int, u = (q.toNat : Int) := ⟨_, rfl⟩
          rw [← hu] at hcq e0
          clear hu hq hq0 hne
          go_wp2_with fail
          clear hcq e0
          go_loopw [6, 7] (fun r g wx => ∃ i : Nat, bg ≤ i ∧ i ≤ L ∧ g = .int .i64 (i : Int) ∧ r = .int .i64 ((valF 256 (n.take i) % 58 : Nat) : Int) ∧ Hid (OwnB wx w.heap.size (.slice (some ⟨gn, 0, none⟩) L c1) ((dvF n).take i ++ n.drop i)) ∧ Hid (Below w.heap.size w wx)) (fun _ g _ => L - (intOf g).toNat)
          case atStart => exact ⟨bg, Nat.le_refl _, by omega, rfl, by rw [take_zero hz.out (Nat.le_refl _)]; rfl, Lib.hid (by rw [dvF_take hz.out]; exact hown.out), hbel⟩
          case round =>
            obtain ⟨i, hib, hiL, rfl, rfl, hownx, hbelx⟩ := hrel
            by_cases hltx : i < L
            · obtain ⟨d, hdi⟩ : ∃ d, n[i]? = some d := ⟨_, List.getElem?_eq_getElem (by have := hnl.out; omega)⟩
              have hcd : wr.cell? ⟨gn, i, none⟩ = some (.int .u8 (d.toNat : Int)) := hownx.out.cell (dvF_get hdi)
              have hfr := hownx.out.free i
              have hsn := valF_snoc 256 hdi
              have hdv := dv_step (A := valF 256 (n.take i)) d.toNat_lt
              rw [← hsn] at hdv
              obtain ⟨h1, h2, _⟩ := hdv
              have hset := hownx.out.set i (b8 ((valF 256 (n.take (i + 1)) / 58 % 256 : Nat) : Int))
              rw [dvF_set (by have := hnl.out; omega)] at hset
              have hd256 := d.toNat_lt
              obtain ⟨R, hR⟩ : ∃ R, R = valF 256 (n.take i) % 58 := ⟨_, rfl⟩
              have hR58 : R < 58 := by rw [hR]; exact Nat.mod_lt _ (by decide)
              rw [← hR] at h1 h2 ⊢
              obtain ⟨Q, hQ⟩ : ∃ Q, Q = (R * 256 + d.toNat) / 58 := ⟨_, rfl⟩
              have hQ256 : Q < 256 := by rw [hQ]; omega
              rw [h1, ← hQ, bv_b8_of (by omega) (by omega)] at hset
              obtain ⟨dd, hdd⟩ : ∃ dd, dd = d.toNat := ⟨_, rfl⟩
              rw [← hdd] at hcd h2 hQ hd256
              have hw1 : IntKind.i64.wrap ((R : Int) * 256) = (R : Int) * 256 := IntWalk.i64_in _ (by omega)
              obtain ⟨X, hX⟩ : ∃ X, X = R * 256 + dd := ⟨_, rfl⟩
              have hw2 : IntKind.i64.wrap ((R : Int) * 256 + (dd : Int)) = (X : Int) := by rw [IntWalk.i64_in _ (by omega)]; omega
              have hX2 : (R : Int) * 256 + (dd : Int) = (X : Int) := by omega
              have hq1 : (X : Int).tdiv 58 = (Q : Int) := by rw [Int.tdiv_eq_ediv_of_nonneg (by omega)]; omega
              have hq2 : (X : Int) / 58 = (Q : Int) := by omega
              obtain ⟨Y, hY⟩ : ∃ Y, Y = (R * 256 + dd) % 58 := ⟨_, rfl⟩
              have hy1 : (X : Int).tmod 58 = (Y : Int) := by rw [Int.tmod_eq_emod_of_nonneg (by omega)]; omega
              have hy2 : (X : Int) % 58 = (Y : Int) := by omega
              have hw3 : IntKind.i64.wrap (Q : Int) = (Q : Int) := IntWalk.i64_in _ (by omega)
              have hw4 : IntKind.i64.wrap (Y : Int) = (Y : Int) := IntWalk.i64_in _ (by omega)
              have hw5 : IntKind.u8.wrap (Q : Int) = (Q : Int) := by rw [IntKind.wrap_u8]; omega
              rw [← hY] at h2
              have H2 := Lib.hid h2
              have HS := Lib.hid hset
              have hdx : decide (i < L) = true := decide_eq_true hltx
              clear h1 h2 hset hsn hdi hR hQ hdd hX hY
              go_wp2_with fail
              go_roundw
              case rel => exact ⟨i + 1, by omega, by omega, by go_num, by rw [H2.out], HS, Lib.hid (hbelx.out.setCell (by have := (World.ownsRow.lt hownx.out gn rfl).1; exact this) _)⟩
              case measure => simp [intOf]; omega
            · obtain rfl : i = L := by omega
              have hln : n.length = i := hnl.out
              have hrow := hownx.out
              rw [← hln, List.drop_length, List.append_nil, List.take_of_length_le (by rw [dvF_length]; exact Nat.le_refl _), hln] at hrow
              have HROW := Lib.hid hrow
              rw [List.take_of_length_le (by omega)]
              obtain ⟨Y, hY⟩ : ∃ Y, Y = valF 256 n % 58 := ⟨_, rfl⟩
              have hY58 : Y < 58 := by rw [hY]; exact Nat.mod_lt _ (by decide)
              have hdig : (digN 58 V k).toNat = Y := by rw [digN_nat (by omega) (by omega), ← hval.out, hY]
              rw [← hY]
              have hlet : letters b58D (digitsL 58 V (k + 1)).reverse = (b58D[Y]'(by show Y < 58; exact hY58)) :: letters b58D (digitsL 58 V k).reverse := by
                rw [digitsL_succ, List.reverse_append, List.reverse_singleton, List.singleton_append]
                show b58D.data.toList.getD (digN 58 V k).toNat 0 :: _ = _
                rw [hdig, b58_at hY58]
                rfl
              have kc := fun W => one_str8 W ((⟨#[49, 50, 51, 52, 53, 54, 55, 56, 57, 65, 66, 67, 68, 69, 70, 71, 72, 74, 75, 76, 77, 78, 80, 81, 82, 83, 84, 85, 86, 87, 88, 89, 90, 97, 98, 99, 100, 101, 102, 103, 104, 105, 106, 107, 109, 110, 111, 112, 113, 114, 115, 116, 117, 118, 119, 120, 121, 122]⟩ : ByteArray)[Y]'(by show Y < 58; exact hY58))
              have hk8 : k ≤ 8 * i := digits_short (by omega) HV2.out hk.out
              have hkl : (letters b58D (digitsL 58 V k).reverse).length = k := by rw [letters_length, List.length_reverse, digitsL_length]
              obtain ⟨S, hS⟩ : ∃ S, S = letters b58D (digitsL 58 V k).reverse := ⟨_, rfl⟩
              rw [← hS] at hlet hkl ⊢
              have hss : (⟨S.toArray⟩ : ByteArray).size = k := by show S.toArray.size = k; simpa using hkl
              have HSS := Lib.hid hss
              have hss2 : (⟨S.toArray⟩ : ByteArray).size ≤ 1600 := by omega
              have hsl2 : S.length ≤ 1600 := by omega
              have hk1 : ∀ j, j < k + 1 → V / 58 ^ j ≠ 0 := fun j hj => by
                by_cases h : j < k
                · exact hk.out j h
                · obtain rfl : j = k := by omega
                  rw [← hval.out]
                  exact HNE.out
              have hv1 : valF 256 (dvF n) = V / 58 ^ (k + 1) := by rw [valF_dvF, hval.out, ← div_next]
              have hz1 : ∀ j, j < bg → (dvF n)[j]? = some 0 := fun j hj => dvF_zero hz.out hj
              have HSE := Lib.hid hS
              have HLET := Lib.hid hlet
              have HK1 := Lib.hid hk1
              have HV1 := Lib.hid hv1
              have HZ1 := Lib.hid hz1
              have HDL := Lib.hid ((dvF_length n).trans hln)
              have HK8 := Lib.hid hk8
              clear hlet hk1 hv1 hz1 hS hkl hrow hln hdig hY hss hk8
              go_wp2_with fail
              go_roundw
              case rel => exact ⟨k + 1, bg, dvF n, HDL, by omega, rfl, HZ1, HV1, HK1, by rw [HLET.out, ← str_first]; rfl, Lib.hid (World.ownsRow.alloc HROW.out _), Lib.hid (hbelx.out.alloc hbelx.out.size _)⟩
              case measure =>
                have h1 := HSS.out
                have h2 := HK8.out
                rw [← HSE.out]
                simp only [strN, intOf, ByteArray.size_append, h1]
                show (8 * i + 1 - (1 + k)) * (i + 1) + _ < _
                have h3 : (8 * i + 1 - (1 + k)) * (i + 1) + (i + 1) ≤ (8 * i + 1 - k) * (i + 1) := by
                  have : 8 * i + 1 - k = (8 * i + 1 - (1 + k)) + 1 := by omega
                  rw [this, Nat.add_mul, Nat.one_mul]
                  exact Nat.le_refl _
                omega
      · obtain rfl : bg = L := by omega
        have hz0' : V / 58 ^ k = 0 := by
          rw [← hval.out]
          exact valF_zero fun j d hj => by
            have := hz.out j (by have := (List.getElem?_eq_some_iff.1 hj).1; have := hnl.out; omega)
            rw [this] at hj
            exact (Option.some.inj hj).symm
        have HE := Lib.hid (show AscOf 58 V (digitsL 58 V k) from ⟨k, rfl, hz0', hk.out⟩)
        clear hz0'
        go_wp2_with fail
        go_meet
        exact ⟨_, HE.out, rfl, hbel.out⟩
  case rest => as_aux_lemma =>
    obtain ⟨asc, hasc, rfl, hbel⟩ := hcut
    have HA := Lib.hid hasc
    have HBE := Lib.hid hbel
    have hzl : zerosN ds ≤ L := by rw [HL.out]; exact zerosN_le ds
    obtain ⟨z, hz⟩ : ∃ z, z = zerosN ds := ⟨_, rfl⟩
    have HZ := Lib.hid hz
    have hal : asc.length ≤ 8 * L := hasc.short (by omega) HV2.out
    have HAL := Lib.hid (show (letters b58D asc.reverse).length ≤ 1600 by rw [letters_length, List.length_reverse]; omega)
    rw [← hz] at hzl
    obtain ⟨T, hT⟩ : ∃ T, T = letters b58D asc.reverse := ⟨_, rfl⟩
    have HT := Lib.hid hT
    rw [← hT] at HAL ⊢
    clear hasc hbel hz hal hT
    go_wp2_with fail
    go_loopw [4, 9] (fun s g wr => ∃ i : Nat, i ≤ z ∧ g = .int .i64 (i : Int) ∧ s = .string ⟨(List.replicate i 49 ++ T).toArray⟩ ∧ Hid (Below w.heap.size w wr)) (fun _ g _ => z - (intOf g).toNat)
    case atStart => exact ⟨0, Nat.zero_le _, rfl, rfl, HBE⟩
    case round =>
      obtain ⟨i, hiz, rfl, rfl, hb⟩ := hrel
      have hTl := HAL.out
      have hsl : (List.replicate i 49 ++ T).length ≤ 1800 := by rw [List.length_append, List.length_replicate]; omega
      obtain ⟨S, hS⟩ : ∃ S, S = List.replicate i 49 ++ T := ⟨_, rfl⟩
      rw [← hS] at hsl ⊢
      have hss : (⟨S.toArray⟩ : ByteArray).size ≤ 1800 := by show S.toArray.size ≤ 1800; simpa using hsl
      have HS := Lib.hid hS
      clear hS
      by_cases hlt : i < z
      · have hlt2 : i < L := by omega
        have hq := zerosN_below (xs := ds) (i := i) (by rw [← HZ.out]; exact hlt)
        obtain ⟨A', c', e0, _, _, _, h4⟩ := HX.out
        obtain ⟨e1, e2, e3⟩ := Value.slice.inj e0
        subst e1 e3
        obtain ⟨b, o, rfl, hbb, hbc⟩ := h4 (by rintro rfl; simp at hq)
        have hci : wr.cell? ⟨b, o + i, none⟩ = some (.int .u8 0) := (hb.out.cell (p := ⟨b, _, none⟩) (by show b < _; omega)).trans (hbc i 0 hq)
        have hd : decide (i < L) = true := decide_eq_true hlt2
        have HJ := Lib.hid (show (⟨#[49]⟩ : ByteArray) ++ ⟨S.toArray⟩ = ⟨(List.replicate (i + 1) 49 ++ T).toArray⟩ by rw [str_first, HS.out]; rfl)
        clear hbc h4 e0 hq e2
        go_wp2_with fail
        go_roundw
        case rel => exact ⟨i + 1, by omega, by go_num, by rw [← HJ.out], hb⟩
        case measure => simp [intOf]; omega
      · obtain rfl : i = z := by omega
        have hfin : (⟨S.toArray⟩ : ByteArray) = ⟨(letters b58D (List.replicate i 0 ++ asc.reverse)).toArray⟩ := by rw [letters_zeros, HS.out, HT.out]
        have HREB := Lib.hid (show RebOf 58 256 ds (List.replicate i 0 ++ asc.reverse) from ⟨asc, by
          have h1 : valF 256 (ds.drop (zerosN ds)) = V := by
            rw [HV.out]
            have h2 := (zeros_take ds).1
            conv => rhs; rw [← List.take_append_drop (zerosN ds) ds, h2, valF_zeros]
          rw [h1]
          exact HA.out, by rw [HZ.out]⟩)
        have HFIN := Lib.hid hfin
        clear hfin
        by_cases hiL : i = L
        · have hd : decide (i < L) = false := decide_eq_false (by omega)
          go_wp2_with fail
          go_ret
          exact ⟨_, by rw [← HFIN.out]; rfl, HREB.out, hb.out⟩
        · obtain ⟨q, hq⟩ : ∃ q, ds[i]? = some q := ⟨_, List.getElem?_eq_getElem (by have := HL.out; omega)⟩
          have hq0 : q ≠ 0 := zerosN_end (xs := ds) (by rw [← HZ.out]; exact hq)
          obtain ⟨A', c', e0, _, _, _, h4⟩ := HX.out
          obtain ⟨e1, e2, e3⟩ := Value.slice.inj e0
          subst e1 e3
          obtain ⟨b, o, rfl, hbb, hbc⟩ := h4 (by rintro rfl; simp at hq)
          have hci : wr.cell? ⟨b, o + i, none⟩ = some (.int .u8 (q.toNat : Int)) := (hb.out.cell (p := ⟨b, _, none⟩) (by show b < _; omega)).trans (hbc i q hq)
          have hd : decide (i < L) = true := decide_eq_true (by omega)
          have e0' : ((q.toNat : Int) == 0) = false := by
            simp only [beq_eq_false_iff_ne, ne_eq]
            intro h
            exact hq0 (UInt8.toNat.inj (by show q.toNat = 0; omega))
          obtain ⟨u, hu⟩ : ∃ u : Int, u = (q.toNat : Int) := ⟨_, rfl⟩
          rw [← hu] at hci e0'
          clear hbc h4 e0 hq hq0 hu e2
          go_wp2_with fail
          go_ret
          exact ⟨_, by rw [← HFIN.out]; rfl, HREB.out, hb.out⟩
end Go.Proofs.YtehodjbjioepnaaDoor

/-
  The reference's turn and place. Conditions: the numbers are below 2^40.
-/
namespace Go.Proofs.YtehodjbjioepnaaDoor
open Go.RowKit

theorem mixN_next (up c m : Nat) : (if up / 2 ^ m % 2 = 1 then mixN up c m ^^^ gN m else mixN up c m) = mixN up c (m + 1) := rfl

/-- Where a byte stands, up to i none. -/
theorem posB_at {al : ByteArray} {c : UInt8} {i : Nat} (hi : i < al.size) (hall : ∀ (k : Nat) (d : UInt8), k < i → al.data.toList[k]? = some d → d ≠ c) (hc : al[i] = c) : posB al c = i := by
  unfold posB
  have hg := Lib.data_getElem? al i hi
  rw [hc] at hg
  have hge := Lib.indexByte_ge al.data.toList c
  by_cases h : Lib.indexByte al.data.toList c = -1
  · exact absurd hg (Lib.indexByte_none h i)
  · obtain ⟨o, ho⟩ : ∃ o : Nat, Lib.indexByte al.data.toList c = o := ⟨(Lib.indexByte al.data.toList c).toNat, by omega⟩
    obtain ⟨h1, h2⟩ := Lib.indexByte_some ho
    rw [ho]
    have h3 : ¬ i < o := fun h => h2 i h hg
    have h4 : ¬ o < i := fun h => hall o c h h1 rfl
    have : o = i := by omega
    rw [this]
theorem posB_no {al : ByteArray} {c : UInt8} (hall : ∀ (k : Nat) (d : UInt8), k < al.size → al.data.toList[k]? = some d → d ≠ c) : posB al c = -1 := by
  unfold posB
  have hge := Lib.indexByte_ge al.data.toList c
  by_cases h : Lib.indexByte al.data.toList c = -1
  · exact h
  · obtain ⟨o, ho⟩ : ∃ o : Nat, Lib.indexByte al.data.toList c = o := ⟨(Lib.indexByte al.data.toList c).toNat, by omega⟩
    have h1 := (Lib.indexByte_some ho).1
    exact absurd rfl (hall o c ((List.getElem?_eq_some_iff.1 h1).1) h1)

set_option maxRecDepth 100000 in
set_option maxHeartbeats 1600000 in
theorem place_any (al : ByteArray) (c : UInt8) (w : World) (hal : al.size ≤ 255) :
    Calls Tryd.prog 26 #[.string al, .int .u8 (c.toNat : Int)] w fun e w' => e = .returned (.int .i64 (posB al c)) ∧ w = w' := by
  go_enter Tryd.func26, Tryd.ntmps26
  go_wp2_with fail
  go_loopw [5] (fun j wr => ∃ i : Nat, i ≤ al.size ∧ j = .int .i64 i ∧ wr = w ∧ Hid (∀ (k : Nat) (d : UInt8), k < i → al.data.toList[k]? = some d → d ≠ c)) (fun j _ => al.size - (intOf j).toNat)
  case atStart => exact ⟨0, Nat.zero_le _, rfl, rfl, Lib.hid (fun k d h => by omega)⟩
  case round =>
    obtain ⟨i, hi, rfl, rfl, hall⟩ := hrel
    by_cases hlt : i < al.size
    · by_cases hq : al[i] = c
      · have hd : (((al[i]'hlt).toNat : Int) == (c.toNat : Int)) = true := by rw [hq]; simp
        have HP := Lib.hid (posB_at hlt hall.out hq)
        clear hq
        go_wp2
        go_ret
        exact ⟨by rw [HP.out]; rfl, rfl⟩
      · have hd : (((al[i]'hlt).toNat : Int) == (c.toNat : Int)) = false := by
          have : (al[i]'hlt).toNat ≠ c.toNat := fun h => hq (UInt8.toNat_inj.1 h)
          simp; omega
        have HA : Hid (∀ (k : Nat) (d : UInt8), k < i + 1 → al.data.toList[k]? = some d → d ≠ c) := Lib.hid (fun k d hk hd2 => by
          by_cases hki : k < i
          · exact hall.out k d hki hd2
          · have : k = i := by omega
            subst this
            rw [Lib.data_getElem? al k hlt] at hd2
            injection hd2 with hd2
            rw [← hd2]
            exact hq)
        clear hq hall
        go_wp2
        refine ⟨⟨i + 1, by omega, by go_num, trivial, HA⟩, by simp [intOf]; omega⟩
    · have HP := Lib.hid (posB_no (al := al) (c := c) (fun k d hk hd => hall.out k d (by omega) hd))
      clear hall
      go_wp2
      go_ret
      exact ⟨by rw [HP.out]; rfl, rfl⟩
end Go.Proofs.YtehodjbjioepnaaDoor

/-
  The reference's FromBase58. Conditions: sizes within the reach.
-/
namespace Go.Proofs.YtehodjbjioepnaaDoor
open Go.RowKit

theorem posB_inj8 {al : ByteArray} {a b : UInt8} (ha : 0 ≤ posB al a) (hb : posB al a = posB al b) : a = b := by
  obtain ⟨o, ho⟩ : ∃ o : Nat, posB al a = o := ⟨(posB al a).toNat, by omega⟩
  have h1 := (Lib.indexByte_some (l := al.data.toList) (c := a) (by exact ho)).1
  have h2 := (Lib.indexByte_some (l := al.data.toList) (c := b) (by exact hb ▸ ho)).1
  rw [h1] at h2
  injection h2
theorem posB_range8 (al : ByteArray) (c : UInt8) : -1 ≤ posB al c ∧ posB al c < al.size := by
  have hge := Lib.indexByte_ge al.data.toList c
  have e : posB al c = Lib.indexByte al.data.toList c := rfl
  refine ⟨by omega, ?_⟩
  by_cases h : posB al c < 0
  · have : 0 ≤ al.size := Nat.zero_le _
    omega
  · obtain ⟨o, ho⟩ : ∃ o : Nat, posB al c = o := ⟨(posB al c).toNat, by omega⟩
    have := (List.getElem?_eq_some_iff.1 (Lib.indexByte_some (l := al.data.toList) (by exact ho)).1).1
    have h2 : al.data.toList.length = al.size := rfl
    omega
/-- What a text in base 58 says: the error, the bytes. -/
def Dec (cs : List UInt8) (k : Int) (out : List UInt8) : Prop :=
  (250 < cs.length ∧ k = 2 ∧ out = []) ∨ (cs.length ≤ 250 ∧ (∃ c ∈ cs, posB b58D c < 0) ∧ k = 3 ∧ out = []) ∨ (cs.length ≤ 250 ∧ (∀ c ∈ cs, 0 ≤ posB b58D c) ∧ k = 0 ∧ RebOf 256 58 (placesB b58D cs) out)
theorem Dec.unique {cs : List UInt8} {k k' : Int} {out out' : List UInt8} (h : Dec cs k out) (h' : Dec cs k' out') : k = k' ∧ out = out' := by
  rcases h with ⟨h1, h2, h3⟩ | ⟨h1, ⟨c, hc, hn⟩, h2, h3⟩ | ⟨h1, ha, h2, h3⟩ <;> rcases h' with ⟨g1, g2, g3⟩ | ⟨g1, ⟨c', hc', hn'⟩, g2, g3⟩ | ⟨g1, ga, g2, g3⟩
  · exact ⟨by rw [h2, g2], by rw [h3, g3]⟩
  · omega
  · omega
  · omega
  · exact ⟨by rw [h2, g2], by rw [h3, g3]⟩
  · have := ga c hc; omega
  · omega
  · have := ha c' hc'; omega
  · exact ⟨by rw [h2, g2], h3.unique g3⟩
/-- The state behind some letters: the digits of the number that they are. -/
def AccOf (cs : List UInt8) (n : List UInt8) : Prop := AscOf 256 (valF 58 (placesB b58D cs)) n.reverse
theorem placesB_snoc (cs : List UInt8) (c : UInt8) : placesB b58D (cs ++ [c]) = placesB b58D cs ++ [b8 (posB b58D c)] := by unfold placesB; rw [List.map_append]; rfl

/-- Digits of M * 58 + d, the lower m of them turned. -/
def mixR (N M k m : Nat) : List UInt8 := (digitsL 256 N m ++ (digitsL 256 M k).drop m).reverse
theorem mixR_length {N M k m : Nat} (h : m ≤ k) : (mixR N M k m).length = k := by
  unfold mixR
  rw [List.length_reverse, List.length_append, digitsL_length, List.length_drop, digitsL_length]
  omega
theorem mixR_get {N M k m : Nat} (h : m < k) : (mixR N M k m)[k - 1 - m]? = some (digN 256 M m) := by
  unfold mixR
  have hl : (digitsL 256 N m ++ (digitsL 256 M k).drop m).length = k := by rw [List.length_append, digitsL_length, List.length_drop, digitsL_length]; omega
  rw [List.getElem?_reverse (by omega), hl, show k - 1 - (k - 1 - m) = m by omega, List.getElem?_append_right (by rw [digitsL_length]; exact Nat.le_refl _), digitsL_length, Nat.sub_self, List.getElem?_drop, Nat.add_zero]
  exact digitsL_at h
theorem mixR_set {N M k m : Nat} (h : m < k) : (mixR N M k m).set (k - 1 - m) (digN 256 N m) = mixR N M k (m + 1) := by
  have hl0 := mixR_length (N := N) (M := M) (Nat.le_of_lt h)
  have hl1 := mixR_length (N := N) (M := M) (show m + 1 ≤ k from h)
  refine List.ext_getElem? fun j => ?_
  by_cases hj : j < k
  · have hg : ∀ m', m' ≤ k → (mixR N M k m')[j]? = if k - 1 - j < m' then some (digN 256 N (k - 1 - j)) else some (digN 256 M (k - 1 - j)) := by
      intro m' hm'
      unfold mixR
      have hl : (digitsL 256 N m' ++ (digitsL 256 M k).drop m').length = k := by rw [List.length_append, digitsL_length, List.length_drop, digitsL_length]; omega
      rw [List.getElem?_reverse (by omega), hl]
      split
      · rename_i hlt
        rw [List.getElem?_append_left (by rw [digitsL_length]; exact hlt)]
        exact digitsL_at hlt
      · rename_i hge
        rw [List.getElem?_append_right (by rw [digitsL_length]; omega), digitsL_length, List.getElem?_drop, show m' + (k - 1 - j - m') = k - 1 - j by omega]
        exact digitsL_at (by omega)
    by_cases hjm : j = k - 1 - m
    · subst hjm
      rw [List.getElem?_set_self (by omega), hg (m + 1) h, if_pos (by omega), show k - 1 - (k - 1 - m) = m by omega]
    · rw [List.getElem?_set_ne (by omega), hg m (by omega), hg (m + 1) h]
      by_cases hlt : k - 1 - j < m
      · rw [if_pos hlt, if_pos (by omega)]
      · rw [if_neg hlt, if_neg (by omega)]
  · rw [List.getElem?_eq_none (by rw [List.length_set]; omega), List.getElem?_eq_none (by omega)]
theorem mixR_zero (N M k : Nat) : mixR N M k 0 = (digitsL 256 M k).reverse := by unfold mixR; simp [digitsL]
theorem mixR_full (N M k : Nat) : mixR N M k k = (digitsL 256 N k).reverse := by unfold mixR; rw [List.drop_of_length_le (by rw [digitsL_length]; exact Nat.le_refl _), List.append_nil]
theorem own_made8 (w : World) (e : TypeId) (l : List Value) (ys : List UInt8) (h : l = ys.map bv) (hl : ys.length ≤ maxLen) {base : Nat} (hb : base ≤ w.heap.size) :
    (w.alloc (.cells l.toArray e)).ownsRow base e 1 (.slice (some ⟨w.heap.size, 0, none⟩) ys.length ys.length) ys.length (ys.map bv) :=
  ⟨by simp, .inr ⟨w.heap.size, ys.length, _, rfl, hb, heap_alloc_new w _, Nat.le_refl _, hl, by rw [h]; simp, by
    rw [Nat.mul_one, h]
    exact List.take_of_length_le (by simp)⟩⟩
theorem own_base8 {w : World} {b b' : Nat} {e : TypeId} {size n : Nat} {v : Value} {xs : List Value} (h : w.ownsRow b e size v n xs) (hb : b' ≤ b) : w.ownsRow b' e size v n xs := by
  refine ⟨h.1, ?_⟩
  rcases h.2 with h | ⟨g, cap, cur, hv, hg, r⟩
  · exact .inl h
  · exact .inr ⟨g, cap, cur, hv, Nat.le_trans hb hg, r⟩
theorem own_join8 {w : World} {base : Nat} {v : Value} {t l p : List UInt8} (h : w.ownsRow base 5 1 v (t.length + l.length) (t.map bv ++ l.map bv)) (hp : p = t ++ l) : OwnB w base v p := by
  subst hp
  unfold OwnB
  rw [List.length_append, List.map_append]
  exact h
theorem pos_one (c : UInt8) : posB b58D c = 0 ↔ c = 49 := by
  constructor
  · intro h
    exact (posB_inj8 (al := b58D) (a := c) (b := 49) (by omega) (by rw [h]; decide +kernel))
  · rintro rfl
    decide +kernel
/-- The digits behind one letter more. -/
theorem acc_step {M kk p cr : Nat} (hp : p < 58) (hk : M / 256 ^ kk = 0) (hkj : ∀ j, j < kk → M / 256 ^ j ≠ 0) (hcr : cr = (M * 58 + p) / 256 ^ kk) (hcr58 : cr < 58) :
    (cr = 0 → AscOf 256 (M * 58 + p) (digitsL 256 (M * 58 + p) kk)) ∧ (0 < cr → AscOf 256 (M * 58 + p) (digitsL 256 (M * 58 + p) (kk + 1)) ∧ digN 256 (M * 58 + p) kk = b8 (cr : Int)) := by
  have hge : ∀ j, j < kk → (M * 58 + p) / 256 ^ j ≠ 0 := fun j hj h => hkj j hj (by
    have h1 : M / 256 ^ j ≤ (M * 58 + p) / 256 ^ j := Nat.div_le_div_right (by omega)
    rw [h] at h1
    exact Nat.le_zero.1 h1)
  refine ⟨fun h0 => ⟨kk, rfl, by rw [← hcr]; exact h0, hge⟩, fun h0 => ⟨⟨kk + 1, rfl, ?_, fun j hj => ?_⟩, ?_⟩⟩
  · rw [div_next, ← hcr]
    exact Nat.div_eq_of_lt (by omega)
  · by_cases h : j < kk
    · exact hge j h
    · obtain rfl : j = kk := by omega
      rw [← hcr]
      exact Nat.ne_of_gt h0
  · unfold digN
    rw [← hcr, Nat.mod_eq_of_lt (by omega)]
theorem byt_own8 {w : World} {base : Nat} {v : Value} {n : List UInt8} (h : OwnB w base v n) : ∃ A c, v = .slice A n.length c ∧ n.length ≤ c ∧ c ≤ 9223372036854775807 := by
  obtain ⟨A, c, e, h1, h2, _⟩ := Byt.of_own h
  unfold maxLen at h2
  exact ⟨A, c, e, h1, h2⟩
def RDec (w : World) (cs : List UInt8) (e : Ending) (w' : World) : Prop := ∃ k v out, Dec cs k out ∧ e = .returned (.tuple #[v, .int .i64 k]) ∧ OwnB w' w.heap.size v out ∧ Below w.heap.size w w'

set_option maxRecDepth 100000 in
set_option maxHeartbeats 6400000 in
theorem refFrom58_any (s : ByteArray) (w : World) : Calls Tryd.prog 15 #[.string s] w (RDec w s.data.toList) := by
  obtain ⟨i0, hi, hz0, hz1, hz2⟩ := info_parts info_u8
  obtain ⟨cs, hcs⟩ : ∃ cs, cs = s.data.toList := ⟨_, rfl⟩
  have hlen : cs.length = s.size := by rw [hcs]; rfl
  have hget : ∀ (m : Nat) (h : m < s.size), cs[m]? = some (s[m]'h) := fun m h => by rw [hcs]; exact Lib.data_getElem? s m h
  rw [← hcs]
  have HG := Lib.hid hget
  have HL := Lib.hid hlen
  clear hcs hget hlen
  by_cases h250 : 250 < s.size
  · have hd : decide ((250 : Int) < (s.size : Int)) = true := decide_eq_true (by omega)
    have HD := Lib.hid (show Dec cs 2 [] from .inl ⟨by rw [HL.out]; exact h250, rfl, rfl⟩)
    go_enter Tryd.func15, Tryd.ntmps15
    go_wp2_with fail
    go_ret2
    exact ⟨2, _, [], HD.out, rfl, OwnB.nil _ _, Below.refl _ _⟩
  have hd : decide ((250 : Int) < (s.size : Int)) = false := decide_eq_false (by omega)
  go_enter Tryd.func15, Tryd.ntmps15
  go_upto_block 0 with fail
  go_cut [4] (fun v wx => Hid (∀ c ∈ cs, 0 ≤ posB b58D c) ∧ ∃ n, Hid (AccOf cs n) ∧ Hid (OwnB wx w.heap.size v n) ∧ Hid (Below w.heap.size w wx))
  case first => as_aux_lemma =>
    go_wp2_with fail
    go_loopw [4, 5] (fun v g wr => ∃ (i : Nat) (n : List UInt8) (u : Value), u = v ∧ i ≤ s.size ∧ g = .int .i64 (i : Int) ∧ Hid (∀ c ∈ cs.take i, 0 ≤ posB b58D c) ∧ Hid (AccOf (cs.take i) n) ∧ Hid (OwnB wr w.heap.size u n) ∧ Hid (Below w.heap.size w wr)) (fun _ g _ => s.size - (intOf g).toNat)
    case atStart => exact ⟨0, [], _, rfl, Nat.zero_le _, rfl, Lib.hid (by simp), Lib.hid (by unfold AccOf; exact AscOf.zero _), Lib.hid (OwnB.nil _ _), Lib.hid (Below.refl _ _)⟩
    case round =>
      obtain ⟨i, n, u, hu, hii, rfl, hall, hacc, hown, hbel⟩ := hrel
      subst hu
      by_cases hlt : i < s.size
      · have hci := HG.out i hlt
        have P := fun W => place_any b58D (s[i]'hlt) W (by decide)
        have hr := posB_range8 b58D (s[i]'hlt)
        obtain ⟨ch, hch⟩ : ∃ ch, ch = s[i]'hlt := ⟨_, rfl⟩
        rw [← hch] at P hr hci
        have h58 : (b58D.size : Int) = 58 := rfl
        obtain ⟨pz, hpz⟩ : ∃ pz, pz = posB b58D ch := ⟨_, rfl⟩
        rw [← hpz] at P hr
        have HP := Lib.hid P
        have HCI := Lib.hid hci
        have HPZ := Lib.hid hpz
        have HCH := Lib.hid hch
        obtain ⟨A, c, rfl, hcap1, hcap2⟩ := byt_own8 hown.out
        clear P hci hpz
        by_cases hneg : pz < 0
        · have hmem : ch ∈ cs := List.mem_of_getElem? HCI.out
          have HD := Lib.hid (show Dec cs 3 [] from .inr (.inl ⟨by rw [HL.out]; omega, ⟨ch, hmem, by rw [← HPZ.out]; exact hneg⟩, rfl, rfl⟩))
          have hdn : decide (pz < 0) = true := decide_eq_true hneg
          clear hmem
          rw [hch] at HP
          clear hch
          go_wp2_with fail
          refine (HP.out _).mono ?_
          rintro e w2 ⟨rfl, rfl⟩
          go_wp2_with fail
          go_ret2
          exact ⟨3, _, [], HD.out, rfl, OwnB.nil _ _, hbel.out⟩
        · obtain ⟨p, hp⟩ : ∃ p : Nat, pz = (p : Int) := ⟨pz.toNat, by omega⟩
          subst hp
          have hp58 : p < 58 := by omega
          have hdn : decide ((p : Int) < 0) = false := decide_eq_false hneg
          obtain ⟨kk, hkk, hk0, hkj⟩ := hacc.out
          have hkl : n.length = kk := by have := congrArg List.length hkk; rwa [List.length_reverse, digitsL_length] at this
          obtain ⟨M, hM⟩ : ∃ M, M = valF 58 (placesB b58D (cs.take i)) := ⟨_, rfl⟩
          rw [← hM] at hkk hk0 hkj
          have hnn : n = (digitsL 256 M kk).reverse := by rw [← hkk, List.reverse_reverse]
          have hkb : kk ≤ 2000 := by
            have h1 : M < 2 ^ (8 * (placesB b58D (cs.take i)).length) := by
              rw [hM]
              refine valF_lt (by omega) (by omega) _ (fun d hd => ?_)
              unfold placesB at hd
              obtain ⟨c1, hc1, rfl⟩ := List.mem_map.1 hd
              have h2 := posB_range8 b58D c1
              have h3 := hall.out c1 hc1
              have h4 := b8_toNat (posB b58D c1)
              have h58' : (b58D.size : Int) = 58 := rfl
              omega
            have h2 := digits_short (by omega) h1 hkj
            rw [placesB_length, List.length_take] at h2
            omega
          have hsnc : valF 58 (placesB b58D (cs.take (i + 1))) = M * 58 + p := by
            rw [List.take_add_one, HCI.out]
            show valF 58 (placesB b58D (cs.take i ++ [ch])) = _
            rw [placesB_snoc, valF_append, ← hM, ← HPZ.out]
            have := b8_toNat (p : Int)
            omega
          have hall2 : ∀ c ∈ cs.take (i + 1), 0 ≤ posB b58D c := by
            rw [List.take_add_one, HCI.out]
            intro c1 hc1
            rcases List.mem_append.1 hc1 with h | h
            · exact hall.out c1 h
            · obtain rfl : c1 = ch := by simpa using h
              rw [← HPZ.out]
              omega
          obtain ⟨N, hN⟩ : ∃ N, N = M * 58 + p := ⟨_, rfl⟩
          rw [← hN] at hsnc
          have hown0 : OwnB wr w.heap.size (.slice A kk c) (mixR N M kk 0) := by
            rw [mixR_zero, ← hnn, ← hkl]
            exact hown.out
          have HOWN := Lib.hid hown0
          have HSNC := Lib.hid hsnc
          have HALL := Lib.hid hall2
          have HNN := Lib.hid hN
          have HK0 := Lib.hid hk0
          have HKJ := Lib.hid hkj
          rw [hkl] at hcap1 ⊢
          have hwk : IntKind.i64.wrap ((kk : Int) - 1) = (kk : Int) - 1 := IntWalk.i64_in _ (by omega)
          have hcr0 : M * 58 + p = N := hN.symm
          rw [hch] at HP
          clear hacc hkk hkl hnn hsnc hall2 hown0 hk0 hkj hM hown hch hN hr
          go_wp2_with fail
          refine (HP.out _).mono ?_
          rintro e w2 ⟨rfl, rfl⟩
          go_wp2_with fail
          go_loopw [7, 8] (fun q g wx => ∃ (m cr : Nat), m ≤ kk ∧ g = .int .i64 ((kk : Int) - 1 - (m : Int)) ∧ q = .int .i64 (cr : Int) ∧ cr < 58 ∧ Hid (N / 256 ^ m = cr + M / 256 ^ m * 58) ∧ Hid (OwnB wx w.heap.size (.slice A kk c) (mixR N M kk m)) ∧ Hid (Below w.heap.size w wx)) (fun _ g _ => (intOf g + 1).toNat)
          case atStart => exact ⟨0, p, Nat.zero_le _, by go_num, rfl, hp58, Lib.hid (by rw [Nat.pow_zero, Nat.div_one, Nat.div_one, HNN.out]; omega), HOWN, hbel⟩
          case round =>
            obtain ⟨m, cr, hm, rfl, rfl, hcr, hrel2, hownx, hbelx⟩ := hrel
            by_cases hlm : m < kk
            · obtain ⟨t, ht⟩ : ∃ t, t = kk - 1 - m := ⟨_, rfl⟩
              have htI : (kk : Int) - 1 - (m : Int) = (t : Int) := by omega
              have hget2 := mixR_get (N := N) (M := M) hlm
              rw [← ht] at hget2
              have hown2 := hownx.out
              have hml := mixR_length (N := N) (M := M) (Nat.le_of_lt hlm)
              rw [← hml] at hown2
              obtain ⟨gn, cn, e, _, _, _⟩ := hown2.block (by rw [hml]; omega)
              obtain ⟨e1, _, e3⟩ := Value.slice.inj e
              subst e1 e3
              have hc3 : wr.cell? ⟨gn, t, none⟩ = some (bv (digN 256 M m)) := hownx.out.cell hget2
              have hfr := hownx.out.free t
              obtain ⟨c1, c2, c3⟩ := carry_next (b := 256) (by omega) (by omega) hcr hrel2.out
              have hset := hownx.out.set t (digN 256 N m)
              rw [ht, mixR_set hlm, ← ht] at hset
              have hdM : bv (digN 256 M m) = .int .u8 ((M / 256 ^ m % 256 : Nat) : Int) := by unfold bv; rw [digN_nat (by omega) (by omega)]
              have hdN : bv (digN 256 N m) = .int .u8 ((N / 256 ^ m % 256 : Nat) : Int) := by unfold bv; rw [digN_nat (by omega) (by omega)]
              rw [hdM] at hc3
              rw [hdN] at hset
              obtain ⟨D, hD⟩ : ∃ D, D = M / 256 ^ m % 256 := ⟨_, rfl⟩
              have hD256 : D < 256 := by rw [hD]; exact Nat.mod_lt _ (by decide)
              rw [← hD] at c1 c2 c3 hc3
              rw [← c1] at hset
              obtain ⟨X, hX⟩ : ∃ X, X = cr + D * 58 := ⟨_, rfl⟩
              rw [← hX] at hset c2 c3
              obtain ⟨Y, hY⟩ : ∃ Y, Y = X % 256 := ⟨_, rfl⟩
              obtain ⟨Z, hZ⟩ : ∃ Z, Z = X / 256 := ⟨_, rfl⟩
              rw [← hY] at hset
              rw [← hZ] at c2 c3
              have hX20 : X < 20000 := by omega
              have hw1 : IntKind.i64.wrap ((D : Int) * 58) = (D : Int) * 58 := IntWalk.i64_in _ (by omega)
              have hw2 : IntKind.i64.wrap ((D : Int) * 58 + (cr : Int)) = (X : Int) := by rw [IntWalk.i64_in _ (by omega)]; omega
              have hX2 : (D : Int) * 58 + (cr : Int) = (X : Int) := by omega
              have hy1 : (X : Int).tmod 256 = (Y : Int) := by rw [Int.tmod_eq_emod_of_nonneg (by omega)]; omega
              have hy2 : (X : Int) % 256 = (Y : Int) := by omega
              have hz1' : (X : Int).tdiv 256 = (Z : Int) := by rw [Int.tdiv_eq_ediv_of_nonneg (by omega)]; omega
              have hz2' : (X : Int) / 256 = (Z : Int) := by omega
              have hw3 : IntKind.i64.wrap (Y : Int) = (Y : Int) := IntWalk.i64_in _ (by omega)
              have hw4 : IntKind.i64.wrap (Z : Int) = (Z : Int) := IntWalk.i64_in _ (by omega)
              have hw5 : IntKind.u8.wrap (Y : Int) = (Y : Int) := by rw [IntKind.wrap_u8]; omega
              have hw6 : IntKind.i64.wrap ((t : Int) - 1) = (t : Int) - 1 := IntWalk.i64_in _ (by omega)
              have htk : (t : Int) < (kk : Int) := by omega
              have dge : decide ((0 : Int) ≤ (t : Int)) = true := decide_eq_true (by omega)
              have C2 := Lib.hid c2
              have HS := Lib.hid hset
              have HT := Lib.hid htI
              rw [htI]
              clear c1 c2 hset hdM hdN hD hX hY hZ hget2 hown2 hml e htI ht hrel2
              go_wp2_with fail
              go_roundw
              case rel => exact ⟨m + 1, Z, by omega, by have := HT.out; go_num, rfl, c3, C2, HS, Lib.hid (hbelx.out.setCell (World.ownsRow.lt hownx.out gn rfl).1 _)⟩
              case measure => simp [intOf]
            · obtain rfl : m = kk := by omega
              have htI : (m : Int) - 1 - (m : Int) = -1 := by omega
              have hr3 := hrel2.out
              rw [HK0.out, Nat.zero_mul, Nat.add_zero] at hr3
              have hst := acc_step (M := M) (kk := m) (p := p) (cr := cr) hp58 HK0.out HKJ.out (by rw [hcr0]; exact hr3.symm) hcr
              rw [hcr0] at hst
              have hrow := hownx.out
              rw [mixR_full] at hrow
              have HROW := Lib.hid hrow
              have HST := Lib.hid hst
              rw [htI]
              clear hrow hst hr3 hrel2 htI
              by_cases hc0 : cr = 0
              · subst hc0
                have ha := HST.out.1 rfl
                have HA := Lib.hid (show AccOf (cs.take (i + 1)) (digitsL 256 N m).reverse by unfold AccOf; rw [List.reverse_reverse, HSNC.out]; exact ha)
                clear ha
                go_wp2_with fail
                go_roundw
                case rel => exact ⟨i + 1, _, _, rfl, by omega, by go_num, HALL, HA, Lib.hid (by have h := HROW.out; unfold OwnB at h ⊢; rw [List.length_reverse, digitsL_length] at h ⊢; exact h), hbelx⟩
                case measure => simp [intOf]; omega
              · obtain ⟨ha, hdg⟩ := HST.out.2 (by omega)
                have HA := Lib.hid (show AccOf (cs.take (i + 1)) ([b8 (cr : Int)] ++ (digitsL 256 N m).reverse) by
                  unfold AccOf
                  rw [HSNC.out, List.reverse_append, List.reverse_reverse, List.reverse_singleton, ← hdg, ← digitsL_succ]
                  exact ha)
                have dgt : decide ((0 : Int) < (cr : Int)) = true := decide_eq_true (by omega)
                have hw7 : IntKind.u8.wrap (cr : Int) = (cr : Int) := by rw [IntKind.wrap_u8]; omega
                have hsz : w.heap.size ≤ wr.heap.size := hbelx.out.size
                have hba : Below wr.heap.size wr (wr.alloc (.cells #[.int .u8 (cr : Int)] 5)) := (Below.refl _ wr).alloc (Nat.le_refl _) _
                have hom := own_made8 wr 5 [.int .u8 (cr : Int)] [b8 (cr : Int)] (by rw [List.map_cons, bv_b8_of (by omega) (by omega)]; rfl) (by unfold maxLen; simp) hsz
                have HOM := Lib.hid hom
                have HBY := Lib.hid ((Byt.of_own HROW.out).below hba)
                have HBB := Lib.hid (hbelx.out.alloc hsz (.cells #[.int .u8 (cr : Int)] 5))
                have hl2 : (digitsL 256 N m).reverse.length = m := by rw [List.length_reverse, digitsL_length]
                obtain ⟨dg, hdgs⟩ : ∃ dg, dg = (digitsL 256 N m).reverse := ⟨_, rfl⟩
                rw [← hdgs] at HA HBY hl2
                have HL2 := Lib.hid hl2
                clear ha hdg hba hom hdgs hl2
                go_wp2_with (at_builtin; refine wpList_append_bytes rfl (.tmp 54) (.tmp 55) 22 rfl w.heap.size 5 i0 slice_u8 hi hz0 hz1 hz2 _ 1 ([b8 (cr : Int)].map bv) rfl HOM.out _ _ dg rfl HBY.out (by have := HL2.out; omega) (by simp; omega) ?_; intro v5 w5 hown5 hg5 hat5; have HO5 := Lib.hid (show OwnB w5 w.heap.size v5 ([b8 (cr : Int)] ++ dg) from own_join8 (t := [b8 (cr : Int)]) (l := dg) hown5 rfl); have HB5 := Lib.hid (HBB.out.grown hg5 (by simp; omega) (fun k hk => (World.ownsRow.lt HOM.out k hk).1)); clear hown5 hg5 hat5)
                go_roundw
                case rel => exact ⟨i + 1, _, _, rfl, by omega, by go_num, HALL, HA, HO5, HB5⟩
                case measure => simp [intOf]; omega
      · obtain rfl : i = s.size := by omega
        have hci2 : cs.take s.size = cs := List.take_of_length_le (by rw [HL.out]; exact Nat.le_refl _)
        rw [hci2] at hall hacc
        clear hci2
        go_wp2_with fail
        go_meet
        exact ⟨hall, n, hacc, hown, hbel⟩
  case rest => as_aux_lemma =>
    obtain ⟨hall, n, hacc, hown, hbel⟩ := hcut
    obtain ⟨z, hz⟩ : ∃ z, z = zerosN (placesB b58D cs) := ⟨_, rfl⟩
    have hzl : z ≤ s.size := by rw [hz, ← HL.out, ← placesB_length b58D cs]; exact zerosN_le _
    obtain ⟨kk, hkk, _, hkj⟩ := hacc.out
    have hkl : n.length = kk := by have := congrArg List.length hkk; rwa [List.length_reverse, digitsL_length] at this
    have hnb : n.length ≤ 2000 := by
      have h1 : valF 58 (placesB b58D cs) < 2 ^ (8 * (placesB b58D cs).length) := by
        refine valF_lt (by omega) (by omega) _ (fun d hd => ?_)
        unfold placesB at hd
        obtain ⟨c1, hc1, rfl⟩ := List.mem_map.1 hd
        have h2 := posB_range8 b58D c1
        have h3 := hall.out c1 hc1
        have h4 := b8_toNat (posB b58D c1)
        have h58' : (b58D.size : Int) = 58 := rfl
        omega
      have h2 := digits_short (by omega) h1 hkj
      rw [placesB_length, HL.out] at h2
      omega
    have HZ := Lib.hid hz
    have HNB := Lib.hid hnb
    have HDEC := Lib.hid (show Dec cs 0 (List.replicate z 0 ++ n) from .inr (.inr ⟨by rw [HL.out]; omega, hall.out, rfl, n.reverse, by
      have h2 := (zeros_take (placesB b58D cs)).1
      have h3 : valF 58 ((placesB b58D cs).drop (zerosN (placesB b58D cs))) = valF 58 (placesB b58D cs) := by
        conv => rhs; rw [← List.take_append_drop (zerosN (placesB b58D cs)) (placesB b58D cs), h2, valF_zeros]
      rw [h3]
      exact hacc.out, by rw [List.reverse_reverse, hz]⟩))
    clear hkk hkj hkl hnb hz
    go_wp2_with fail
    go_loopw [4, 10] (fun v g wr => ∃ (i : Nat) (u : Value), u = v ∧ i ≤ z ∧ g = .int .i64 (i : Int) ∧ Hid (OwnB wr w.heap.size u (List.replicate i 0 ++ n)) ∧ Hid (Below w.heap.size w wr)) (fun _ g _ => z - (intOf g).toNat)
    case atStart => exact ⟨0, _, rfl, Nat.zero_le _, rfl, hown, hbel⟩
    case round =>
      obtain ⟨i, u, hu, hiz, rfl, hownx, hb⟩ := hrel
      subst hu
      by_cases hlt : i < z
      · have hlt2 : i < s.size := by omega
        have hq := zerosN_below (xs := placesB b58D cs) (i := i) (by rw [← HZ.out]; exact hlt)
        have hci := HG.out i hlt2
        have h49 : s[i]'hlt2 = 49 := by
          unfold placesB at hq
          rw [List.getElem?_map, hci] at hq
          have h1 : b8 (posB b58D (s[i]'hlt2)) = 0 := Option.some.inj hq
          have h2 := b8_toNat (posB b58D (s[i]'hlt2))
          have h3 := posB_range8 b58D (s[i]'hlt2)
          have h4 := hall.out _ (List.mem_of_getElem? hci)
          have h58' : (b58D.size : Int) = 58 := rfl
          rw [h1] at h2
          have h5 : (((0 : UInt8).toNat : Nat) : Int) = 0 := rfl
          exact (pos_one _).1 (by omega)
        have e49 : (((s[i]'hlt2).toNat : Int) == 49) = true := by rw [h49]; rfl
        have hd : decide (i < s.size) = true := decide_eq_true hlt2
        have hsz : w.heap.size ≤ wr.heap.size := hb.out.size
        have hba : Below wr.heap.size wr (wr.alloc (.cells #[.int .u8 0] 5)) := (Below.refl _ wr).alloc (Nat.le_refl _) _
        have HOM := Lib.hid (own_made8 wr 5 [.int .u8 0] [0] rfl (by unfold maxLen; simp) hsz)
        have HBY := Lib.hid ((Byt.of_own hownx.out).below hba)
        have HBB := Lib.hid (hb.out.alloc hsz (.cells #[.int .u8 0] 5))
        have hln : (List.replicate i (0 : UInt8) ++ n).length ≤ 2300 := by have := HNB.out; rw [List.length_append, List.length_replicate]; omega
        have hjn : List.replicate (i + 1) (0 : UInt8) ++ n = [0] ++ (List.replicate i 0 ++ n) := by rw [List.replicate_succ]; rfl
        obtain ⟨ns, hns⟩ : ∃ ns, ns = List.replicate i (0 : UInt8) ++ n := ⟨_, rfl⟩
        rw [← hns] at HBY hln hjn
        have HLN := Lib.hid hln
        have HJN := Lib.hid hjn
        clear hq hci h49 hba hln hjn hns hownx
        go_wp2_with (at_builtin; refine wpList_append_bytes rfl (.tmp 69) (.tmp 70) 22 rfl w.heap.size 5 i0 slice_u8 hi hz0 hz1 hz2 _ 1 ([(0 : UInt8)].map bv) rfl HOM.out _ _ ns rfl HBY.out (by have := HLN.out; omega) (by simp; omega) ?_; intro v5 w5 hown5 hg5 hat5; have HO5 := Lib.hid (show OwnB w5 w.heap.size v5 (List.replicate (i + 1) 0 ++ n) from own_join8 (t := [0]) (l := ns) hown5 HJN.out); have HB5 := Lib.hid (HBB.out.grown hg5 (by simp; omega) (fun k hk => (World.ownsRow.lt HOM.out k hk).1)); clear hown5 hg5 hat5)
        go_roundw
        case rel => exact ⟨i + 1, _, rfl, by omega, by go_num, HO5, HB5⟩
        case measure => simp [intOf]; omega
      · obtain rfl : i = z := by omega
        by_cases hiL : i = s.size
        · have hd : decide (i < s.size) = false := decide_eq_false (by omega)
          go_wp2_with fail
          go_ret2
          exact ⟨0, _, _, HDEC.out, rfl, hownx.out, hb.out⟩
        · have hlt2 : i < s.size := by omega
          have hci := HG.out i hlt2
          have hn49 : s[i]'hlt2 ≠ 49 := fun h49 => by
            have hq : (placesB b58D cs)[i]? = some 0 := by
              unfold placesB
              rw [List.getElem?_map, hci, h49]
              show some (b8 (posB b58D 49)) = some 0
              rw [(pos_one 49).2 rfl]
              rfl
            exact zerosN_end (xs := placesB b58D cs) (d := 0) (by rw [← HZ.out]; exact hq) rfl
          have e49 : (((s[i]'hlt2).toNat : Int) == 49) = false := by
            simp only [beq_eq_false_iff_ne, ne_eq]
            intro h
            exact hn49 (UInt8.toNat.inj (by show _ = 49; omega))
          have hd : decide (i < s.size) = true := decide_eq_true hlt2
          clear hci hn49
          go_wp2_with fail
          go_ret2
          exact ⟨0, _, _, HDEC.out, rfl, hownx.out, hb.out⟩
end Go.Proofs.YtehodjbjioepnaaDoor
