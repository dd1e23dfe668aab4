/-
  The checksum of bech32, on plain numbers: it is linear; which six values close it; and a value that is another one is told. Conditions: none (plain mathematics).
-/
import Derived.Test.YtpaafkhlelljcaaDoorChkPure
namespace Go.Proofs.YtpaafkhlelljcaaDoor
open Go.RowKit

/-- The m-th of the five numbers. -/
def gB : Nat → Nat
  | 0 => 996825010
  | 1 => 642813549
  | 2 => 513874426
  | 3 => 1027748829
  | _ => 705979059
def mixB (up : Nat) (c : Nat) : Nat → Nat
  | 0 => c
  | m + 1 => if up / 2 ^ m % 2 = 1 then mixB up c m ^^^ gB m else mixB up c m
/-- A value more. -/
def turnB (c v : Nat) : Nat := mixB (c / 33554432) ((c % 33554432 * 32) ^^^ v) 5

theorem mixB_out (up c : Nat) : ∀ m, mixB up c m = c ^^^ mixB up 0 m
  | 0 => (Nat.xor_zero c).symm
  | m + 1 => by
    unfold mixB
    split
    · rw [mixB_out up c m, Nat.xor_assoc]
    · exact mixB_out up c m
theorem gB_lt (m : Nat) : gB m < 1073741824 := by
  unfold gB
  split <;> omega
theorem mixB_lt (up c : Nat) (hc : c < 1073741824) : ∀ m, mixB up c m < 1073741824
  | 0 => hc
  | m + 1 => by
    unfold mixB
    have h := mixB_lt up c hc m
    split
    · exact Nat.xor_lt_two_pow (n := 30) h (gB_lt m)
    · exact h
theorem turnB_lt (c v : Nat) (hv : v < 1073741824) : turnB c v < 1073741824 :=
  mixB_lt _ _ (Nat.xor_lt_two_pow (n := 30) (by omega) hv) 5

theorem mixB_xor : ∀ a : Fin 32, ∀ b : Fin 32, mixB (a.val ^^^ b.val) 0 5 = mixB a.val 0 5 ^^^ mixB b.val 0 5 := by decide +kernel
theorem mixB_low : ∀ a : Fin 32, mixB a.val 0 5 % 32 = 0 → a.val = 0 := by decide +kernel

theorem turnB_out (c v : Nat) : turnB c v = turnB c 0 ^^^ v := by
  unfold turnB
  rw [mixB_out _ (_ ^^^ v), mixB_out _ (_ ^^^ 0), Nat.xor_zero, Nat.xor_assoc, Nat.xor_assoc, Nat.xor_comm v]
theorem turnB_xor (c d : Nat) (hc : c < 1073741824) (hd : d < 1073741824) : turnB (c ^^^ d) 0 = turnB c 0 ^^^ turnB d 0 := by
  unfold turnB
  simp only [Nat.xor_zero]
  rw [mixB_out _ (_ * 32), mixB_out (c / _) (_ * 32), mixB_out (d / _) (_ * 32)]
  have e1 : (c ^^^ d) / 33554432 = c / 33554432 ^^^ d / 33554432 := by
    have := Nat.shiftRight_xor_distrib (a := c) (b := d) (i := 25)
    simpa [Nat.shiftRight_eq_div_pow] using this
  have e2 : (c ^^^ d) % 33554432 = c % 33554432 ^^^ d % 33554432 := by
    have := Nat.xor_mod_two_pow (a := c) (b := d) (n := 25)
    simpa using this
  have e3 : (c % 33554432 ^^^ d % 33554432) * 32 = c % 33554432 * 32 ^^^ d % 33554432 * 32 := by
    have := Nat.shiftLeft_xor_distrib (a := c % 33554432) (b := d % 33554432) (i := 5)
    simpa [Nat.shiftLeft_eq] using this
  have e4 := mixB_xor ⟨c / 33554432, by omega⟩ ⟨d / 33554432, by omega⟩
  dsimp only at e4
  rw [e1, e2, e3, e4]
  generalize c % 33554432 * 32 = x
  generalize d % 33554432 * 32 = y
  generalize mixB (c / 33554432) 0 5 = p
  generalize mixB (d / 33554432) 0 5 = q
  rw [Nat.xor_assoc, Nat.xor_assoc, ← Nat.xor_assoc y p, Nat.xor_comm y p, Nat.xor_assoc p y]
theorem turnB_zero {d : Nat} (hd : d < 1073741824) (h : turnB d 0 = 0) : d = 0 := by
  unfold turnB at h
  rw [Nat.xor_zero, mixB_out] at h
  have h1 := xor_zero_eq h
  have h2 := mixB_low ⟨d / 33554432, by omega⟩ (by dsimp only; rw [← h1]; omega)
  dsimp only at h2
  rw [h2] at h1
  have h3 : mixB 0 0 5 = 0 := by decide
  rw [h3] at h1
  omega
/-- The same value keeps two apart. -/
theorem turnB_apart {c d v : Nat} (hc : c < 1073741824) (hd : d < 1073741824) (hne : c ≠ d) : turnB c v ≠ turnB d v := by
  intro h
  rw [turnB_out c, turnB_out d] at h
  have h1 : turnB (c ^^^ d) 0 = 0 := by
    rw [turnB_xor c d hc hd]
    have := congrArg (· ^^^ v) h
    simp only [Nat.xor_assoc, Nat.xor_self, Nat.xor_zero] at this
    rw [this, Nat.xor_self]
  exact hne (xor_zero_eq (turnB_zero (Nat.xor_lt_two_pow (n := 30) hc hd) h1))
theorem turnB_small (d : Nat) (hd : d < 33554432) : turnB d 0 = d * 32 := by
  unfold turnB
  have h3 : ∀ x, mixB 0 x 5 = x := fun x => by rw [mixB_out]; show x ^^^ 0 = x; exact Nat.xor_zero x
  rw [Nat.xor_zero, Nat.div_eq_of_lt hd, Nat.mod_eq_of_lt hd, h3]


/-- Values of bytes, one behind the other. -/
def turnsB (c : Nat) (vs : List UInt8) : Nat := vs.foldl (fun c v => turnB c v.toNat) c
theorem turnsB_nil (c : Nat) : turnsB c [] = c := rfl
theorem turnsB_cons (c : Nat) (v : UInt8) (vs : List UInt8) : turnsB c (v :: vs) = turnsB (turnB c v.toNat) vs := rfl
theorem turnsB_append (c : Nat) (a b : List UInt8) : turnsB c (a ++ b) = turnsB (turnsB c a) b := by unfold turnsB; rw [List.foldl_append]
theorem turnsB_lt : ∀ (vs : List UInt8) (c : Nat), c < 1073741824 → turnsB c vs < 1073741824
  | [], _, h => h
  | v :: vs, c, _ => turnsB_lt vs _ (turnB_lt _ _ (by have := v.toNat_lt; omega))

/-- The same values keep two apart, by what zeros make of their difference. -/
theorem turnsB_diff : ∀ (vs : List UInt8) (c d : Nat), c < 1073741824 → d < 1073741824 → turnsB c vs ^^^ turnsB d vs = turnsB (c ^^^ d) (vs.map fun _ => 0)
  | [], _, _, _, _ => rfl
  | v :: vs, c, d, hc, hd => by
    have hv := v.toNat_lt
    rw [turnsB_cons, turnsB_cons, turnsB_diff vs _ _ (turnB_lt _ _ (by omega)) (turnB_lt _ _ (by omega)), List.map_cons, turnsB_cons]
    have e : turnB c v.toNat ^^^ turnB d v.toNat = turnB (c ^^^ d) (0 : UInt8).toNat := by
      show _ = turnB (c ^^^ d) 0
      rw [turnB_xor c d hc hd, turnB_out c, turnB_out d, Nat.xor_assoc, Nat.xor_comm v.toNat, Nat.xor_assoc, Nat.xor_self, Nat.xor_zero]
    rw [e]

theorem mul32_xor (y v : Nat) (hv : v < 32) : y * 32 ^^^ v = y * 32 + v := by
  have e1 : (y * 32 ^^^ v) / 32 = y * 32 / 32 ^^^ v / 32 := by
    have := Nat.shiftRight_xor_distrib (a := y * 32) (b := v) (i := 5)
    simpa [Nat.shiftRight_eq_div_pow] using this
  have e2 : (y * 32 ^^^ v) % 32 = y * 32 % 32 ^^^ v % 32 := by
    have := Nat.xor_mod_two_pow (a := y * 32) (b := v) (n := 5)
    simpa using this
  rw [Nat.mul_div_cancel _ (by omega), Nat.div_eq_of_lt hv, Nat.xor_zero] at e1
  rw [Nat.mul_mod_left, Nat.zero_xor] at e2
  omega

/-- A number and a value more: the number's zeros, xored with what the low bits have. -/
theorem turnB_more {x y v : Nat} (hx : x < 1073741824) (hy : y < 33554432) (hv : v < 32) : turnB (x ^^^ y) v = turnB x 0 ^^^ (y * 32 + v) := by
  rw [turnB_out, turnB_xor x y hx (by omega), turnB_small y hy, Nat.xor_assoc, mul32_xor y v hv]

/-- The number that values of five bits make. -/
def packN (vs : List UInt8) : Nat := vs.foldl (fun a v => a * 32 + v.toNat) 0
def zeros6 : List UInt8 := [0, 0, 0, 0, 0, 0]
def six (c : Nat) : Nat := turnsB c zeros6
theorem six_lt (c : Nat) (h : c < 1073741824) : six c < 1073741824 := turnsB_lt _ _ h
theorem turns_six {c : Nat} (v0 v1 v2 v3 v4 v5 : UInt8) (h0 : v0.toNat < 32) (h1 : v1.toNat < 32) (h2 : v2.toNat < 32) (h3 : v3.toNat < 32) (h4 : v4.toNat < 32) (h5 : v5.toNat < 32) :
    turnsB c [v0, v1, v2, v3, v4, v5] = six c ^^^ packN [v0, v1, v2, v3, v4, v5] := by
  have l : ∀ c, turnB c 0 < 1073741824 := fun c => turnB_lt _ _ (by omega)
  have z : (0 : UInt8).toNat = 0 := rfl
  unfold six zeros6 turnsB packN
  simp only [List.foldl_cons, List.foldl_nil, z, Nat.zero_mul, Nat.zero_add]
  rw [turnB_out c, turnB_more (l _) (by omega) h1, turnB_more (l _) (by omega) h2, turnB_more (l _) (by omega) h3, turnB_more (l _) (by omega) h4, turnB_more (l _) (by omega) h5]

/-- The six values of a number. -/
def sixOf (c : Nat) : List UInt8 := (List.range 6).map fun i => b8 ((c / 2 ^ (5 * (5 - i)) % 32 : Nat) : Int)
theorem sixOf_eq (c : Nat) : sixOf c = [b8 ((c / 33554432 % 32 : Nat) : Int), b8 ((c / 1048576 % 32 : Nat) : Int), b8 ((c / 32768 % 32 : Nat) : Int), b8 ((c / 1024 % 32 : Nat) : Int), b8 ((c / 32 % 32 : Nat) : Int), b8 ((c % 32 : Nat) : Int)] := by
  simp only [sixOf, List.range, List.range.loop, List.map_cons, List.map_nil, Nat.reduceSub, Nat.reduceMul, Nat.reducePow, Nat.div_one]
theorem b8_nat32 (n : Nat) (h : n < 256) : (b8 (n : Int)).toNat = n := by have := b8_toNat (n : Int); omega
theorem sixOf_length (c : Nat) : (sixOf c).length = 6 := by rw [sixOf_eq]; rfl
theorem sixOf_small (c : Nat) : ∀ v ∈ sixOf c, v.toNat < 32 := by
  intro v hv
  unfold sixOf at hv
  obtain ⟨i, _, rfl⟩ := List.mem_map.1 hv
  have h : c / 2 ^ (5 * (5 - i)) % 32 < 32 := Nat.mod_lt _ (by omega)
  rw [b8_nat32 _ (by omega)]
  exact h
theorem pack_six (c : Nat) (hc : c < 1073741824) : packN (sixOf c) = c := by
  rw [sixOf_eq]
  unfold packN
  simp only [List.foldl_cons, List.foldl_nil]
  rw [b8_nat32 _ (by omega), b8_nat32 _ (by omega), b8_nat32 _ (by omega), b8_nat32 _ (by omega), b8_nat32 _ (by omega), b8_nat32 _ (by omega)]
  omega
theorem list6 {l : List UInt8} (h : l.length = 6) : ∃ a b c d e f, l = [a, b, c, d, e, f] := by
  match l, h with
  | [a, b, c, d, e, f], _ => exact ⟨a, b, c, d, e, f, rfl⟩
theorem six_pack {l : List UInt8} (h : l.length = 6) (hs : ∀ v ∈ l, v.toNat < 32) : sixOf (packN l) = l ∧ packN l < 1073741824 := by
  obtain ⟨a, b, c, d, e, f, rfl⟩ := list6 h
  have ha := hs a (by simp)
  have hb := hs b (by simp)
  have hc := hs c (by simp)
  have hd := hs d (by simp)
  have he := hs e (by simp)
  have hf := hs f (by simp)
  have hp : packN [a, b, c, d, e, f] = ((((a.toNat * 32 + b.toNat) * 32 + c.toNat) * 32 + d.toNat) * 32 + e.toNat) * 32 + f.toNat := by
    unfold packN
    simp only [List.foldl_cons, List.foldl_nil, Nat.zero_mul, Nat.zero_add]
  refine ⟨?_, by rw [hp]; omega⟩
  rw [sixOf_eq, hp]
  have k : ∀ (n : Nat) (x : UInt8), n = x.toNat → b8 (n : Int) = x := fun n x h => by
    apply UInt8.toNat_inj.1
    rw [h, b8_nat32 _ x.toNat_lt]
  rw [k _ a (by omega), k _ b (by omega), k _ c (by omega), k _ d (by omega), k _ e (by omega), k _ f (by omega)]
theorem turns_six_any {c : Nat} {l : List UInt8} (h : l.length = 6) (hs : ∀ v ∈ l, v.toNat < 32) : turnsB c l = six c ^^^ packN l := by
  obtain ⟨v0, v1, v2, v3, v4, v5, rfl⟩ := list6 h
  exact turns_six _ _ _ _ _ _ (hs _ (by simp)) (hs _ (by simp)) (hs _ (by simp)) (hs _ (by simp)) (hs _ (by simp)) (hs _ (by simp))
theorem xor_move {a b k : Nat} : a ^^^ b = k ↔ b = a ^^^ k := by
  constructor
  · rintro rfl
    rw [← Nat.xor_assoc, Nat.xor_self, Nat.zero_xor]
  · rintro rfl
    rw [← Nat.xor_assoc, Nat.xor_self, Nat.zero_xor]
/-- The six values that close a sum. -/
theorem six_close {c k : Nat} (hc : c < 1073741824) (hk : k < 1073741824) {l : List UInt8} (h : l.length = 6) (hs : ∀ v ∈ l, v.toNat < 32) : turnsB c l = k ↔ l = sixOf (six c ^^^ k) := by
  rw [turns_six_any h hs, xor_move]
  obtain ⟨h1, h2⟩ := six_pack h hs
  have h3 : six c ^^^ k < 1073741824 := Nat.xor_lt_two_pow (n := 30) (six_lt c hc) hk
  constructor
  · intro e
    rw [← h1, e]
  · intro e
    rw [e, pack_six _ h3]

/-- A part for people, as values. -/
def expandB (hrp : List UInt8) : List UInt8 := hrp.map (fun b => b8 ((b.toNat / 32 : Nat) : Int)) ++ [0] ++ hrp.map (fun b => b8 ((b.toNat % 32 : Nat) : Int))
def sumB (hrp data : List UInt8) : Nat := turnsB (turnsB 1 (expandB hrp)) data
theorem sumB_lt (hrp data : List UInt8) : sumB hrp data < 1073741824 := turnsB_lt _ _ (turnsB_lt _ _ (by omega))
/-- The number that the last xor is with. -/
def lastX (m : Bool) : Nat := if m then 734539939 else 1
theorem lastX_lt (m : Bool) : lastX m < 1073741824 := by unfold lastX; split <;> omega
/-- The six values of the checksum. -/
def closeB (hrp data : List UInt8) (m : Bool) : List UInt8 := sixOf (sumB hrp (data ++ zeros6) ^^^ lastX m)
theorem closeB_length (hrp data : List UInt8) (m : Bool) : (closeB hrp data m).length = 6 := sixOf_length _
theorem closeB_small (hrp data : List UInt8) (m : Bool) : ∀ v ∈ closeB hrp data m, v.toNat < 32 := sixOf_small _
theorem close_iff (hrp data s : List UInt8) (m : Bool) (h : s.length = 6) (hs : ∀ v ∈ s, v.toNat < 32) : s = closeB hrp data m ↔ sumB hrp (data ++ s) = lastX m := by
  unfold closeB sumB
  rw [turnsB_append, turnsB_append, six_close (turnsB_lt _ _ (turnsB_lt _ _ (by omega))) (lastX_lt m) h hs]
  rfl
theorem sum_close (hrp data : List UInt8) (m : Bool) : sumB hrp (data ++ closeB hrp data m) = lastX m :=
  (close_iff hrp data _ m (closeB_length _ _ _) (closeB_small _ _ _)).1 rfl

/-- What a difference becomes. -/
def runB : Nat → Nat → Nat
  | 0, d => d
  | k + 1, d => runB k (turnB d 0)
theorem turnsB_zeros : ∀ (vs : List UInt8) (d : Nat), turnsB d (vs.map fun _ => 0) = runB vs.length d
  | [], _ => rfl
  | _ :: vs, d => by
    rw [List.map_cons, turnsB_cons, turnsB_zeros vs]
    rfl
def runOk (n d : Nat) : Bool := match n with
  | 0 => true
  | n + 1 => d != 0 && d != 734539938 && runOk n (turnB d 0)
theorem runOk_spec : ∀ (n d : Nat), runOk n d = true → ∀ k, k < n → runB k d ≠ 0 ∧ runB k d ≠ 734539938
  | 0, _, _, _, h => absurd h (Nat.not_lt_zero _)
  | n + 1, d, h, k, hk => by
    unfold runOk at h
    simp only [Bool.and_eq_true, bne_iff_ne, ne_eq] at h
    match k with
    | 0 => exact ⟨h.1.1, h.1.2⟩
    | k + 1 => exact runOk_spec n _ h.2 k (by omega)
theorem runs_ok : (List.range 31).all (fun i => runOk 100 (i + 1)) = true := by decide +kernel
/-- A value that is another one, and no more than 99 behind it: the sum is neither of the two. -/
theorem one_told (hrp xs ys : List UInt8) (v v' : UInt8) (hv : v.toNat < 32) (hv' : v'.toNat < 32) (hne : v ≠ v') (hl : ys.length < 100) (m n : Bool) (h : sumB hrp (xs ++ v :: ys) = lastX m) : sumB hrp (xs ++ v' :: ys) ≠ lastX n := by
  intro h'
  have hc : turnsB (turnsB 1 (expandB hrp)) xs < 1073741824 := turnsB_lt _ _ (turnsB_lt _ _ (by omega))
  unfold sumB at h h'
  rw [turnsB_append, turnsB_cons] at h h'
  generalize turnsB (turnsB 1 (expandB hrp)) xs = c at h h' hc
  have hd := turnsB_diff ys (turnB c v.toNat) (turnB c v'.toNat) (turnB_lt _ _ (by omega)) (turnB_lt _ _ (by omega))
  have e : turnB c v.toNat ^^^ turnB c v'.toNat = v.toNat ^^^ v'.toNat := by
    rw [turnB_out c v.toNat, turnB_out c v'.toNat, Nat.xor_assoc, Nat.xor_comm v.toNat, Nat.xor_assoc, ← Nat.xor_assoc, Nat.xor_self, Nat.zero_xor, Nat.xor_comm]
  rw [e, turnsB_zeros, h, h'] at hd
  have hlt : v.toNat ^^^ v'.toNat < 32 := Nat.xor_lt_two_pow (n := 5) hv hv'
  have hpos : v.toNat ^^^ v'.toNat ≠ 0 := fun h0 => hne (UInt8.toNat_inj.1 (xor_zero_eq h0))
  have hok := runs_ok
  rw [List.all_eq_true] at hok
  have hk := hok ((v.toNat ^^^ v'.toNat) - 1) (List.mem_range.2 (by omega))
  rw [Nat.sub_add_cancel (by omega)] at hk
  obtain ⟨k1, k2⟩ := runOk_spec 100 _ hk ys.length hl
  cases m <;> cases n
  · exact k1 hd.symm
  · exact k2 hd.symm
  · exact k2 hd.symm
  · exact k1 hd.symm
theorem lastX_apart : lastX true ≠ lastX false := by decide
end Go.Proofs.YtpaafkhlelljcaaDoor
