/-
  Texts joined: BcPure, BcStep, Fives. Conditions: those of each.
-/
import Derived.Test.YtgiljhdjknglpaaDoorK2
/-
  The checksum of bech32, on plain numbers: it is linear; which six values close it; and a value that is another one is told. Conditions: none (plain mathematics).
-/
namespace Go.Proofs.YtgiljhdjknglpaaDoor
open Go.RowKit

/-- The m-th of the five numbers. -/
def gB : Nat → Nat
  | 0 => 996825010
  | 1 => 642813549
  | 2 => 513874426
  | 3 => 1027748829
  | _ => 705979059
def mixB (up : Nat) (c : Nat) : Nat → Nat
  | 0 => c
  | m + 1 => if up / 2 ^ m % 2 = 1 then mixB up c m ^^^ gB m else mixB up c m
/-- A value more. -/
def turnB (c v : Nat) : Nat := mixB (c / 33554432) ((c % 33554432 * 32) ^^^ v) 5

theorem mixB_out (up c : Nat) : ∀ m, mixB up c m = c ^^^ mixB up 0 m
  | 0 => (Nat.xor_zero c).symm
  | m + 1 => by
    unfold mixB
    split
    · rw [mixB_out up c m, Nat.xor_assoc]
    · exact mixB_out up c m
theorem gB_lt (m : Nat) : gB m < 1073741824 := by
  unfold gB
  split <;> omega
theorem mixB_lt (up c : Nat) (hc : c < 1073741824) : ∀ m, mixB up c m < 1073741824
  | 0 => hc
  | m + 1 => by
    unfold mixB
    have h := mixB_lt up c hc m
    split
    · exact Nat.xor_lt_two_pow (n := 30) h (gB_lt m)
    · exact h
theorem turnB_lt (c v : Nat) (hv : v < 1073741824) : turnB c v < 1073741824 :=
  mixB_lt _ _ (Nat.xor_lt_two_pow (n := 30) (by omega) hv) 5

theorem mixB_xor : ∀ a : Fin 32, ∀ b : Fin 32, mixB (a.val ^^^ b.val) 0 5 = mixB a.val 0 5 ^^^ mixB b.val 0 5 := by decide +kernel
theorem mixB_low : ∀ a : Fin 32, mixB a.val 0 5 % 32 = 0 → a.val = 0 := by decide +kernel

theorem turnB_out (c v : Nat) : turnB c v = turnB c 0 ^^^ v := by
  unfold turnB
  rw [mixB_out _ (_ ^^^ v), mixB_out _ (_ ^^^ 0), Nat.xor_zero, Nat.xor_assoc, Nat.xor_assoc, Nat.xor_comm v]
theorem turnB_xor (c d : Nat) (hc : c < 1073741824) (hd : d < 1073741824) : turnB (c ^^^ d) 0 = turnB c 0 ^^^ turnB d 0 := by
  unfold turnB
  simp only [Nat.xor_zero]
  rw [mixB_out _ (_ * 32), mixB_out (c / _) (_ * 32), mixB_out (d / _) (_ * 32)]
  have e1 : (c ^^^ d) / 33554432 = c / 33554432 ^^^ d / 33554432 := by
    have := Nat.shiftRight_xor_distrib (a := c) (b := d) (i := 25)
    simpa [Nat.shiftRight_eq_div_pow] using this
  have e2 : (c ^^^ d) % 33554432 = c % 33554432 ^^^ d % 33554432 := by
    have := Nat.xor_mod_two_pow (a := c) (b := d) (n := 25)
    simpa using this
  have e3 : (c % 33554432 ^^^ d % 33554432) * 32 = c % 33554432 * 32 ^^^ d % 33554432 * 32 := by
    have := Nat.shiftLeft_xor_distrib (a := c % 33554432) (b := d % 33554432) (i := 5)
    simpa [Nat.shiftLeft_eq] using this
  have e4 := mixB_xor ⟨c / 33554432, by omega⟩ ⟨d / 33554432, by omega⟩
  dsimp only at e4
  rw [e1, e2, e3, e4]
  generalize c % 33554432 * 32 = x
  generalize d % 33554432 * 32 = y
  generalize mixB (c / 33554432) 0 5 = p
  generalize mixB (d / 33554432) 0 5 = q
  rw [Nat.xor_assoc, Nat.xor_assoc, ← Nat.xor_assoc y p, Nat.xor_comm y p, Nat.xor_assoc p y]
theorem turnB_zero {d : Nat} (hd : d < 1073741824) (h : turnB d 0 = 0) : d = 0 := by
  unfold turnB at h
  rw [Nat.xor_zero, mixB_out] at h
  have h1 := xor_zero_eq h
  have h2 := mixB_low ⟨d / 33554432, by omega⟩ (by dsimp only; rw [← h1]; omega)
  dsimp only at h2
  rw [h2] at h1
  have h3 : mixB 0 0 5 = 0 := by decide
  rw [h3] at h1
  omega
/-- The same value keeps two apart. -/
theorem turnB_apart {c d v : Nat} (hc : c < 1073741824) (hd : d < 1073741824) (hne : c ≠ d) : turnB c v ≠ turnB d v := by
  intro h
  rw [turnB_out c, turnB_out d] at h
  have h1 : turnB (c ^^^ d) 0 = 0 := by
    rw [turnB_xor c d hc hd]
    have := congrArg (· ^^^ v) h
    simp only [Nat.xor_assoc, Nat.xor_self, Nat.xor_zero] at this
    rw [this, Nat.xor_self]
  exact hne (xor_zero_eq (turnB_zero (Nat.xor_lt_two_pow (n := 30) hc hd) h1))
theorem turnB_small (d : Nat) (hd : d < 33554432) : turnB d 0 = d * 32 := by
  unfold turnB
  have h3 : ∀ x, mixB 0 x 5 = x := fun x => by rw [mixB_out]; show x ^^^ 0 = x; exact Nat.xor_zero x
  rw [Nat.xor_zero, Nat.div_eq_of_lt hd, Nat.mod_eq_of_lt hd, h3]


/-- Values of bytes, one behind the other. -/
def turnsB (c : Nat) (vs : List UInt8) : Nat := vs.foldl (fun c v => turnB c v.toNat) c
theorem turnsB_nil (c : Nat) : turnsB c [] = c := rfl
theorem turnsB_cons (c : Nat) (v : UInt8) (vs : List UInt8) : turnsB c (v :: vs) = turnsB (turnB c v.toNat) vs := rfl
theorem turnsB_append (c : Nat) (a b : List UInt8) : turnsB c (a ++ b) = turnsB (turnsB c a) b := by unfold turnsB; rw [List.foldl_append]
theorem turnsB_lt : ∀ (vs : List UInt8) (c : Nat), c < 1073741824 → turnsB c vs < 1073741824
  | [], _, h => h
  | v :: vs, c, _ => turnsB_lt vs _ (turnB_lt _ _ (by have := v.toNat_lt; omega))

/-- The same values keep two apart, by what zeros make of their difference. -/
theorem turnsB_diff : ∀ (vs : List UInt8) (c d : Nat), c < 1073741824 → d < 1073741824 → turnsB c vs ^^^ turnsB d vs = turnsB (c ^^^ d) (vs.map fun _ => 0)
  | [], _, _, _, _ => rfl
  | v :: vs, c, d, hc, hd => by
    have hv := v.toNat_lt
    rw [turnsB_cons, turnsB_cons, turnsB_diff vs _ _ (turnB_lt _ _ (by omega)) (turnB_lt _ _ (by omega)), List.map_cons, turnsB_cons]
    have e : turnB c v.toNat ^^^ turnB d v.toNat = turnB (c ^^^ d) (0 : UInt8).toNat := by
      show _ = turnB (c ^^^ d) 0
      rw [turnB_xor c d hc hd, turnB_out c, turnB_out d, Nat.xor_assoc, Nat.xor_comm v.toNat, Nat.xor_assoc, Nat.xor_self, Nat.xor_zero]
    rw [e]

theorem mul32_xor (y v : Nat) (hv : v < 32) : y * 32 ^^^ v = y * 32 + v := by
  have e1 : (y * 32 ^^^ v) / 32 = y * 32 / 32 ^^^ v / 32 := by
    have := Nat.shiftRight_xor_distrib (a := y * 32) (b := v) (i := 5)
    simpa [Nat.shiftRight_eq_div_pow] using this
  have e2 : (y * 32 ^^^ v) % 32 = y * 32 % 32 ^^^ v % 32 := by
    have := Nat.xor_mod_two_pow (a := y * 32) (b := v) (n := 5)
    simpa using this
  rw [Nat.mul_div_cancel _ (by omega), Nat.div_eq_of_lt hv, Nat.xor_zero] at e1
  rw [Nat.mul_mod_left, Nat.zero_xor] at e2
  omega

/-- A number and a value more: the number's zeros, xored with what the low bits have. -/
theorem turnB_more {x y v : Nat} (hx : x < 1073741824) (hy : y < 33554432) (hv : v < 32) : turnB (x ^^^ y) v = turnB x 0 ^^^ (y * 32 + v) := by
  rw [turnB_out, turnB_xor x y hx (by omega), turnB_small y hy, Nat.xor_assoc, mul32_xor y v hv]

/-- The number that values of five bits make. -/
def packN (vs : List UInt8) : Nat := vs.foldl (fun a v => a * 32 + v.toNat) 0
def zeros6 : List UInt8 := [0, 0, 0, 0, 0, 0]
def six (c : Nat) : Nat := turnsB c zeros6
theorem six_lt (c : Nat) (h : c < 1073741824) : six c < 1073741824 := turnsB_lt _ _ h
theorem turns_six {c : Nat} (v0 v1 v2 v3 v4 v5 : UInt8) (h0 : v0.toNat < 32) (h1 : v1.toNat < 32) (h2 : v2.toNat < 32) (h3 : v3.toNat < 32) (h4 : v4.toNat < 32) (h5 : v5.toNat < 32) :
    turnsB c [v0, v1, v2, v3, v4, v5] = six c ^^^ packN [v0, v1, v2, v3, v4, v5] := by
  have l : ∀ c, turnB c 0 < 1073741824 := fun c => turnB_lt _ _ (by omega)
  have z : (0 : UInt8).toNat = 0 := rfl
  unfold six zeros6 turnsB packN
  simp only [List.foldl_cons, List.foldl_nil, z, Nat.zero_mul, Nat.zero_add]
  rw [turnB_out c, turnB_more (l _) (by omega) h1, turnB_more (l _) (by omega) h2, turnB_more (l _) (by omega) h3, turnB_more (l _) (by omega) h4, turnB_more (l _) (by omega) h5]

/-- The six values of a number. -/
def sixOf (c : Nat) : List UInt8 := (List.range 6).map fun i => b8 ((c / 2 ^ (5 * (5 - i)) % 32 : Nat) : Int)
theorem sixOf_eq (c : Nat) : sixOf c = [b8 ((c / 33554432 % 32 : Nat) : Int), b8 ((c / 1048576 % 32 : Nat) : Int), b8 ((c / 32768 % 32 : Nat) : Int), b8 ((c / 1024 % 32 : Nat) : Int), b8 ((c / 32 % 32 : Nat) : Int), b8 ((c % 32 : Nat) : Int)] := by
  simp only [sixOf, List.range, List.range.loop, List.map_cons, List.map_nil, Nat.reduceSub, Nat.reduceMul, Nat.reducePow, Nat.div_one]
theorem b8_nat32 (n : Nat) (h : n < 256) : (b8 (n : Int)).toNat = n := by have := b8_toNat (n : Int); omega
theorem sixOf_length (c : Nat) : (sixOf c).length = 6 := by rw [sixOf_eq]; rfl
theorem sixOf_small (c : Nat) : ∀ v ∈ sixOf c, v.toNat < 32 := by
  intro v hv
  unfold sixOf at hv
  obtain ⟨i, _, rfl⟩ := List.mem_map.1 hv
  have h : c / 2 ^ (5 * (5 - i)) % 32 < 32 := Nat.mod_lt _ (by omega)
  rw [b8_nat32 _ (by omega)]
  exact h
theorem pack_six (c : Nat) (hc : c < 1073741824) : packN (sixOf c) = c := by
  rw [sixOf_eq]
  unfold packN
  simp only [List.foldl_cons, List.foldl_nil]
  rw [b8_nat32 _ (by omega), b8_nat32 _ (by omega), b8_nat32 _ (by omega), b8_nat32 _ (by omega), b8_nat32 _ (by omega), b8_nat32 _ (by omega)]
  omega
theorem list6 {l : List UInt8} (h : l.length = 6) : ∃ a b c d e f, l = [a, b, c, d, e, f] := by
  match l, h with
  | [a, b, c, d, e, f], _ => exact ⟨a, b, c, d, e, f, rfl⟩
theorem six_pack {l : List UInt8} (h : l.length = 6) (hs : ∀ v ∈ l, v.toNat < 32) : sixOf (packN l) = l ∧ packN l < 1073741824 := by
  obtain ⟨a, b, c, d, e, f, rfl⟩ := list6 h
  have ha := hs a (by simp)
  have hb := hs b (by simp)
  have hc := hs c (by simp)
  have hd := hs d (by simp)
  have he := hs e (by simp)
  have hf := hs f (by simp)
  have hp : packN [a, b, c, d, e, f] = ((((a.toNat * 32 + b.toNat) * 32 + c.toNat) * 32 + d.toNat) * 32 + e.toNat) * 32 + f.toNat := by
    unfold packN
    simp only [List.foldl_cons, List.foldl_nil, Nat.zero_mul, Nat.zero_add]
  refine ⟨?_, by rw [hp]; omega⟩
  rw [sixOf_eq, hp]
  have k : ∀ (n : Nat) (x : UInt8), n = x.toNat → b8 (n : Int) = x := fun n x h => by
    apply UInt8.toNat_inj.1
    rw [h, b8_nat32 _ x.toNat_lt]
  rw [k _ a (by omega), k _ b (by omega), k _ c (by omega), k _ d (by omega), k _ e (by omega), k _ f (by omega)]
theorem turns_six_any {c : Nat} {l : List UInt8} (h : l.length = 6) (hs : ∀ v ∈ l, v.toNat < 32) : turnsB c l = six c ^^^ packN l := by
  obtain ⟨v0, v1, v2, v3, v4, v5, rfl⟩ := list6 h
  exact turns_six _ _ _ _ _ _ (hs _ (by simp)) (hs _ (by simp)) (hs _ (by simp)) (hs _ (by simp)) (hs _ (by simp)) (hs _ (by simp))
theorem xor_move {a b k : Nat} : a ^^^ b = k ↔ b = a ^^^ k := by
  constructor
  · rintro rfl
    rw [← Nat.xor_assoc, Nat.xor_self, Nat.zero_xor]
  · rintro rfl
    rw [← Nat.xor_assoc, Nat.xor_self, Nat.zero_xor]
/-- The six values that close a sum. -/
theorem six_close {c k : Nat} (hc : c < 1073741824) (hk : k < 1073741824) {l : List UInt8} (h : l.length = 6) (hs : ∀ v ∈ l, v.toNat < 32) : turnsB c l = k ↔ l = sixOf (six c ^^^ k) := by
  rw [turns_six_any h hs, xor_move]
  obtain ⟨h1, h2⟩ := six_pack h hs
  have h3 : six c ^^^ k < 1073741824 := Nat.xor_lt_two_pow (n := 30) (six_lt c hc) hk
  constructor
  · intro e
    rw [← h1, e]
  · intro e
    rw [e, pack_six _ h3]

/-- A part for people, as values. -/
def expandB (hrp : List UInt8) : List UInt8 := hrp.map (fun b => b8 ((b.toNat / 32 : Nat) : Int)) ++ [0] ++ hrp.map (fun b => b8 ((b.toNat % 32 : Nat) : Int))
def sumB (hrp data : List UInt8) : Nat := turnsB (turnsB 1 (expandB hrp)) data
theorem sumB_lt (hrp data : List UInt8) : sumB hrp data < 1073741824 := turnsB_lt _ _ (turnsB_lt _ _ (by omega))
/-- The number that the last xor is with. -/
def lastX (m : Bool) : Nat := if m then 734539939 else 1
theorem lastX_lt (m : Bool) : lastX m < 1073741824 := by unfold lastX; split <;> omega
/-- The six values of the checksum. -/
def closeB (hrp data : List UInt8) (m : Bool) : List UInt8 := sixOf (sumB hrp (data ++ zeros6) ^^^ lastX m)
theorem closeB_length (hrp data : List UInt8) (m : Bool) : (closeB hrp data m).length = 6 := sixOf_length _
theorem closeB_small (hrp data : List UInt8) (m : Bool) : ∀ v ∈ closeB hrp data m, v.toNat < 32 := sixOf_small _
theorem close_iff (hrp data s : List UInt8) (m : Bool) (h : s.length = 6) (hs : ∀ v ∈ s, v.toNat < 32) : s = closeB hrp data m ↔ sumB hrp (data ++ s) = lastX m := by
  unfold closeB sumB
  rw [turnsB_append, turnsB_append, six_close (turnsB_lt _ _ (turnsB_lt _ _ (by omega))) (lastX_lt m) h hs]
  rfl
theorem sum_close (hrp data : List UInt8) (m : Bool) : sumB hrp (data ++ closeB hrp data m) = lastX m :=
  (close_iff hrp data _ m (closeB_length _ _ _) (closeB_small _ _ _)).1 rfl

/-- What a difference becomes. -/
def runB : Nat → Nat → Nat
  | 0, d => d
  | k + 1, d => runB k (turnB d 0)
theorem turnsB_zeros : ∀ (vs : List UInt8) (d : Nat), turnsB d (vs.map fun _ => 0) = runB vs.length d
  | [], _ => rfl
  | _ :: vs, d => by
    rw [List.map_cons, turnsB_cons, turnsB_zeros vs]
    rfl
def runOk (n d : Nat) : Bool := match n with
  | 0 => true
  | n + 1 => d != 0 && d != 734539938 && runOk n (turnB d 0)
theorem runOk_spec : ∀ (n d : Nat), runOk n d = true → ∀ k, k < n → runB k d ≠ 0 ∧ runB k d ≠ 734539938
  | 0, _, _, _, h => absurd h (Nat.not_lt_zero _)
  | n + 1, d, h, k, hk => by
    unfold runOk at h
    simp only [Bool.and_eq_true, bne_iff_ne, ne_eq] at h
    match k with
    | 0 => exact ⟨h.1.1, h.1.2⟩
    | k + 1 => exact runOk_spec n _ h.2 k (by omega)
theorem runs_ok : (List.range 31).all (fun i => runOk 100 (i + 1)) = true := by decide +kernel
/-- A value that is another one, and no more than 99 behind it: the sum is neither of the two. -/
theorem one_told (hrp xs ys : List UInt8) (v v' : UInt8) (hv : v.toNat < 32) (hv' : v'.toNat < 32) (hne : v ≠ v') (hl : ys.length < 100) (m n : Bool) (h : sumB hrp (xs ++ v :: ys) = lastX m) : sumB hrp (xs ++ v' :: ys) ≠ lastX n := by
  intro h'
  have hc : turnsB (turnsB 1 (expandB hrp)) xs < 1073741824 := turnsB_lt _ _ (turnsB_lt _ _ (by omega))
  unfold sumB at h h'
  rw [turnsB_append, turnsB_cons] at h h'
  generalize turnsB (turnsB 1 (expandB hrp)) xs = c at h h' hc
  have hd := turnsB_diff ys (turnB c v.toNat) (turnB c v'.toNat) (turnB_lt _ _ (by omega)) (turnB_lt _ _ (by omega))
  have e : turnB c v.toNat ^^^ turnB c v'.toNat = v.toNat ^^^ v'.toNat := by
    rw [turnB_out c v.toNat, turnB_out c v'.toNat, Nat.xor_assoc, Nat.xor_comm v.toNat, Nat.xor_assoc, ← Nat.xor_assoc, Nat.xor_self, Nat.zero_xor, Nat.xor_comm]
  rw [e, turnsB_zeros, h, h'] at hd
  have hlt : v.toNat ^^^ v'.toNat < 32 := Nat.xor_lt_two_pow (n := 5) hv hv'
  have hpos : v.toNat ^^^ v'.toNat ≠ 0 := fun h0 => hne (UInt8.toNat_inj.1 (xor_zero_eq h0))
  have hok := runs_ok
  rw [List.all_eq_true] at hok
  have hk := hok ((v.toNat ^^^ v'.toNat) - 1) (List.mem_range.2 (by omega))
  rw [Nat.sub_add_cancel (by omega)] at hk
  obtain ⟨k1, k2⟩ := runOk_spec 100 _ hk ys.length hl
  cases m <;> cases n
  · exact k1 hd.symm
  · exact k2 hd.symm
  · exact k2 hd.symm
  · exact k1 hd.symm
theorem lastX_apart : lastX true ≠ lastX false := by decide
end Go.Proofs.YtgiljhdjknglpaaDoor

/-
  text.code.step, for the bech32 code: how a checksum takes values in. Conditions: the numbers are below 2^64.
-/
namespace Go.Proofs.YtgiljhdjknglpaaDoor
open Go.RowKit

/-- A value more. -/
def stepJ (X : Five) (c : Int) (v : UInt8) : Int := mixI X (c / 33554432) (bits .xor .u64 (IntKind.u64.wrap (bits .and .u64 c 33554431 * 32)) (v.toNat : Int)) 5

theorem stepJ_bd (X : Five) (c : Int) (v : UInt8) : 0 ≤ stepJ X c v ∧ stepJ X c v < 18446744073709551616 := by
  unfold stepJ
  exact mixI_bd _ _ _ (bits_u64 _ _ _).1 (bits_u64 _ _ _).2 5

def codeW (X : Five) : Value := .agg #[.int .i64 25, .int .u64 X.x0, .int .u64 X.x1, .int .u64 X.x2, .int .u64 X.x3, .int .u64 X.x4]

set_option maxRecDepth 100000 in
set_option maxHeartbeats 3200000 in
theorem stepj_any (B : Nat) (x : Value) (vs : List UInt8) (c : Int) (X : Five) (w : World) (hx : Byt w B x vs) (hB : B ≤ w.heap.size) (hl : vs.length ≤ 60000) (hc0 : 0 ≤ c) (hc1 : c < 18446744073709551616) :
    Calls Tryd.prog 41 #[codeW X, .int .u64 c, x] w fun e w' => e = .returned (.int .u64 (vs.foldl (stepJ X) c)) ∧ Below w.heap.size w w' := by
  obtain ⟨A, cx, hxf⟩ := hx.form
  subst hxf
  have hX := Lib.hid hx
  clear hx
  unfold codeW
  obtain ⟨x0, x1, x2, x3, x4⟩ := X
  have i0 : ∀ w, (Instr.index 68 (.agg #[.int .u64 x0, .int .u64 x1, .int .u64 x2, .int .u64 x3, .int .u64 x4]) (.int .i64 0)).run Tryd.prog w = .ok (.int .u64 x0) w := fun _ => by kernel_rfl
  have i1 : ∀ w, (Instr.index 68 (.agg #[.int .u64 x0, .int .u64 x1, .int .u64 x2, .int .u64 x3, .int .u64 x4]) (.int .i64 1)).run Tryd.prog w = .ok (.int .u64 x1) w := fun _ => by kernel_rfl
  have i2 : ∀ w, (Instr.index 68 (.agg #[.int .u64 x0, .int .u64 x1, .int .u64 x2, .int .u64 x3, .int .u64 x4]) (.int .i64 2)).run Tryd.prog w = .ok (.int .u64 x2) w := fun _ => by kernel_rfl
  have i3 : ∀ w, (Instr.index 68 (.agg #[.int .u64 x0, .int .u64 x1, .int .u64 x2, .int .u64 x3, .int .u64 x4]) (.int .i64 3)).run Tryd.prog w = .ok (.int .u64 x3) w := fun _ => by kernel_rfl
  have i4 : ∀ w, (Instr.index 68 (.agg #[.int .u64 x0, .int .u64 x1, .int .u64 x2, .int .u64 x3, .int .u64 x4]) (.int .i64 4)).run Tryd.prog w = .ok (.int .u64 x4) w := fun _ => by kernel_rfl
  go_enter Tryd.func41, Tryd.ntmps41
  go_wp2_with fail
  go_loopw [14, 1] (fun j cc wr => ∃ (i : Nat) (k : Int), i ≤ vs.length ∧ j = .int .i64 i ∧ cc = .int .u64 k ∧ 0 ≤ k ∧ k < 18446744073709551616 ∧ Hid ((vs.drop i).foldl (stepJ ⟨x0, x1, x2, x3, x4⟩) k = vs.foldl (stepJ ⟨x0, x1, x2, x3, x4⟩) c) ∧ wr = w.alloc (.cells #[.int .i64 25, .int .u64 x0, .int .u64 x1, .int .u64 x2, .int .u64 x3, .int .u64 x4] 70)) (fun j _ _ => vs.length - (intOf j).toNat)
  case atStart => exact ⟨0, c, Nat.zero_le _, rfl, rfl, hc0, hc1, Lib.hid rfl, rfl⟩
  case round =>
    obtain ⟨i, k, hi, rfl, rfl, hk0, hk1, hfold, hw⟩ := hrel
    by_cases hlt : i < vs.length
    · obtain ⟨A', c', e0, _, _, _, h4⟩ := hX.out
      injection e0 with e1 e2 e3
      subst e1 e3
      obtain ⟨b, o, rfl, hb, hbc⟩ := h4 (by rintro rfl; simp at hlt)
      have hci := hbc i _ (List.getElem?_eq_getElem hlt)
      obtain ⟨q, hq⟩ : ∃ q, q = vs[i] := ⟨_, rfl⟩
      rw [← hq] at hci
      subst hw
      have hbi : ∀ o', (w.alloc o').cell? ⟨b, o + i, none⟩ = some (.int .u8 (q.toNat : Int)) := fun o' => (World.cell?_alloc_lt w _ _ (by show b < _; omega)).trans hci
      have hqw : IntKind.u64.wrap (q.toNat : Int) = q.toNat := by have := q.toNat_lt; rw [IntKind.wrap_u64]; omega
      have hnext : (vs.drop (i + 1)).foldl (stepJ ⟨x0, x1, x2, x3, x4⟩) (stepJ ⟨x0, x1, x2, x3, x4⟩ k q) = vs.foldl (stepJ ⟨x0, x1, x2, x3, x4⟩) c := by
        rw [← hfold.out, List.drop_eq_getElem_cons hlt, List.foldl_cons, ← hq]
      have hbd := stepJ_bd ⟨x0, x1, x2, x3, x4⟩ k q
      unfold stepJ at hbd
      have HN := Lib.hid hnext
      have HQ := Lib.hid hq
      clear hci hbc h4 hq hnext hfold
      obtain ⟨up, hup⟩ : ∃ up, up = k / 33554432 := ⟨_, rfl⟩
      obtain ⟨z, hz⟩ : ∃ z, z = bits .xor .u64 (IntKind.u64.wrap (bits .and .u64 k 33554431 * 32)) (q.toNat : Int) := ⟨_, rfl⟩
      have hupd : 0 ≤ up ∧ up < 18446744073709551616 := by omega
      have HS : Hid (stepJ ⟨x0, x1, x2, x3, x4⟩ k q = mixI ⟨x0, x1, x2, x3, x4⟩ up z 5) := Lib.hid (by rw [hup, hz]; rfl)
      rw [← hup, ← hz] at hbd
      go_wp2
      rw [← hz, ← hup]
      clear hz hup
      go_loopw [34, 1] (fun j cc wr => ∃ m : Nat, m ≤ 5 ∧ j = .int .i64 m ∧ cc = .int .u64 (mixI ⟨x0, x1, x2, x3, x4⟩ up z m) ∧ wr = w.alloc (.cells #[.int .i64 25, .int .u64 x0, .int .u64 x1, .int .u64 x2, .int .u64 x3, .int .u64 x4] 70)) (fun j _ _ => 5 - (intOf j).toNat)
      case atStart => exact ⟨0, by omega, rfl, rfl, rfl⟩
      case round =>
        obtain ⟨m, hm, rfl, rfl, rfl⟩ := hrel
        by_cases h5 : m < 5
        · obtain rfl | rfl | rfl | rfl | rfl : m = 0 ∨ m = 1 ∨ m = 2 ∨ m = 3 ∨ m = 4 := by omega
          all_goals go_wp2
          · rename_i ht
            have e := mixy (X := ⟨x0, x1, x2, x3, x4⟩) (up := up) (c := z) 0 up (by simp) ht
            exact ⟨⟨1, by omega, rfl, congrArg (Value.int .u64) e, trivial⟩, by simp [intOf]⟩
          · rename_i ht
            have e := mixn (X := ⟨x0, x1, x2, x3, x4⟩) (up := up) (c := z) 0 up (by simp) ht
            exact ⟨⟨1, by omega, rfl, congrArg (Value.int .u64) e, trivial⟩, by simp [intOf]⟩
          · rename_i ht
            have e := mixy (X := ⟨x0, x1, x2, x3, x4⟩) (up := up) (c := z) 1 (up / 2) (by simp) ht
            exact ⟨⟨2, by omega, rfl, congrArg (Value.int .u64) e, trivial⟩, by simp [intOf]⟩
          · rename_i ht
            have e := mixn (X := ⟨x0, x1, x2, x3, x4⟩) (up := up) (c := z) 1 (up / 2) (by simp) ht
            exact ⟨⟨2, by omega, rfl, congrArg (Value.int .u64) e, trivial⟩, by simp [intOf]⟩
          · rename_i ht
            have e := mixy (X := ⟨x0, x1, x2, x3, x4⟩) (up := up) (c := z) 2 (up / 4) (by simp) ht
            exact ⟨⟨3, by omega, rfl, congrArg (Value.int .u64) e, trivial⟩, by simp [intOf]⟩
          · rename_i ht
            have e := mixn (X := ⟨x0, x1, x2, x3, x4⟩) (up := up) (c := z) 2 (up / 4) (by simp) ht
            exact ⟨⟨3, by omega, rfl, congrArg (Value.int .u64) e, trivial⟩, by simp [intOf]⟩
          · rename_i ht
            have e := mixy (X := ⟨x0, x1, x2, x3, x4⟩) (up := up) (c := z) 3 (up / 8) (by simp) ht
            exact ⟨⟨4, by omega, rfl, congrArg (Value.int .u64) e, trivial⟩, by simp [intOf]⟩
          · rename_i ht
            have e := mixn (X := ⟨x0, x1, x2, x3, x4⟩) (up := up) (c := z) 3 (up / 8) (by simp) ht
            exact ⟨⟨4, by omega, rfl, congrArg (Value.int .u64) e, trivial⟩, by simp [intOf]⟩
          · rename_i ht
            have e := mixy (X := ⟨x0, x1, x2, x3, x4⟩) (up := up) (c := z) 4 (up / 16) (by simp) ht
            exact ⟨⟨5, by omega, rfl, congrArg (Value.int .u64) e, trivial⟩, by simp [intOf]⟩
          · rename_i ht
            have e := mixn (X := ⟨x0, x1, x2, x3, x4⟩) (up := up) (c := z) 4 (up / 16) (by simp) ht
            exact ⟨⟨5, by omega, rfl, congrArg (Value.int .u64) e, trivial⟩, by simp [intOf]⟩
        · have hm5 : m = 5 := by omega
          subst hm5
          go_wp2
          have hs := HS.out
          refine ⟨⟨i + 1, mixI ⟨x0, x1, x2, x3, x4⟩ up z 5, by omega, by go_num, rfl, hbd.1, hbd.2, ?_, trivial⟩, by simp [intOf]; omega⟩
          rw [← hs]
          exact HN
    · have hie : i = vs.length := by omega
      subst hw
      have HF := Lib.hid (hfold.out)
      go_wp2
      go_ret
      have hf := HF.out
      rw [List.drop_eq_nil_of_le (by omega)] at hf
      exact ⟨by rw [← hf]; rfl, (Below.refl _ _).alloc (Nat.le_refl _) _⟩


def X1 : Five := ⟨996825010, 642813549, 513874426, 1027748829, 705979059⟩
theorem X1_at (m : Nat) : X1.at_ m = ((gB m : Nat) : Int) := by
  match m with
  | 0 => rfl
  | 1 => rfl
  | 2 => rfl
  | 3 => rfl
  | n + 4 => rfl
theorem mixJ_nat (up c : Nat) (hu : up < 1073741824) (hc : c < 1073741824) : ∀ m, mixI X1 up c m = ((mixB up c m : Nat) : Int)
  | 0 => rfl
  | m + 1 => by
    have h2 : ((up : Int) / 2 ^ m) = ((up / 2 ^ m : Nat) : Int) := by simp
    have hle : up / 2 ^ m ≤ up := Nat.div_le_self _ _
    unfold mixI mixB
    rw [h2]
    generalize up / 2 ^ m = d at hle
    rw [Lib.u64_and1 _ (by omega) (by omega), mixJ_nat up c hu hc m, X1_at, bits_xor_u64_nat _ _ (by have := mixB_lt up c hc m; omega) (by have := gB_lt m; omega)]
    by_cases h : d % 2 = 1
    · rw [if_pos h, if_pos (by omega)]
    · rw [if_neg h, if_neg (by omega)]
theorem stepJ_nat (c : Nat) (v : UInt8) (hc : c < 1073741824) : stepJ X1 c v = ((turnB c v.toNat : Nat) : Int) := by
  have hv := v.toNat_lt
  have h1 : bits .and .u64 (c : Int) 33554431 = ((c % 33554432 : Nat) : Int) := by
    have h := bits_mask .u64 64 (by decide) wraps_u64 25 (by decide) (c : Int) (by omega) (by omega)
    have e : ((2 : Int) ^ 25 - 1) = 33554431 := by decide
    rw [e] at h
    rw [h]
    omega
  have h2 : IntKind.u64.wrap (((c % 33554432 : Nat) : Int) * 32) = ((c % 33554432 * 32 : Nat) : Int) := by rw [IntKind.wrap_u64]; omega
  unfold stepJ turnB
  rw [h1, h2, bits_xor_u64_nat _ _ (by omega) (by omega)]
  have h3 : ((c : Int) / 33554432) = ((c / 33554432 : Nat) : Int) := by omega
  rw [h3, mixJ_nat _ _ (by omega) (Nat.xor_lt_two_pow (n := 30) (by omega) (by omega))]

/-- The bech32 code lies where it lies. -/
def BechIs (w : World) : Prop := 1 < w.heap.size ∧ w.cell? ⟨1, 0, none⟩ = some (.int .i64 25) ∧ w.cell? ⟨1, 1, none⟩ = some (.int .u64 996825010) ∧
  w.cell? ⟨1, 2, none⟩ = some (.int .u64 642813549) ∧ w.cell? ⟨1, 3, none⟩ = some (.int .u64 513874426) ∧ w.cell? ⟨1, 4, none⟩ = some (.int .u64 1027748829) ∧
  w.cell? ⟨1, 5, none⟩ = some (.int .u64 705979059)
theorem BechIs.below {w w' : World} {B : Nat} (h : BechIs w) (hb : Below B w w') (hB : 1 < B) : BechIs w' := by
  obtain ⟨h0, h1, h2, h3, h4, h5, h6⟩ := h
  have k := fun o => hb.cell (p := ⟨1, o, none⟩) hB
  exact ⟨Nat.lt_of_lt_of_le h0 hb.size, (k 0).trans h1, (k 1).trans h2, (k 2).trans h3, (k 3).trans h4, (k 4).trans h5, (k 5).trans h6⟩

theorem turnsj_nat : ∀ (vs : List UInt8) (c : Nat), c < 1073741824 → vs.foldl (stepJ X1) (c : Int) = ((turnsB c vs : Nat) : Int)
  | [], _, _ => rfl
  | v :: vs, c, hc => by
    have hv := v.toNat_lt
    rw [List.foldl_cons, stepJ_nat c v hc, turnsj_nat vs _ (turnB_lt _ _ (by omega))]
    rfl
/-- The code's value. -/
theorem turnsb_call (B : Nat) (x : Value) (vs : List UInt8) (c : Nat) (w : World) (hx : Byt w B x vs) (hB : B ≤ w.heap.size) (hl : vs.length ≤ 60000) (hc : c < 1073741824) :
    Calls Tryd.prog 41 #[.agg #[.int .i64 25, .int .u64 996825010, .int .u64 642813549, .int .u64 513874426, .int .u64 1027748829, .int .u64 705979059], .int .u64 c, x] w fun e w' => e = .returned (.int .u64 ((turnsB c vs : Nat) : Int)) ∧ Below w.heap.size w w' := by
  rw [← turnsj_nat vs c hc]
  exact stepj_any B x vs c X1 w hx hB hl (by omega) (by omega)

/-- One value, boxed. -/
theorem turnb_call (q : Int) (c : Nat) (w : World) (h0 : 0 ≤ q) (h1 : q < 256) (hc : c < 1073741824) :
    Calls Tryd.prog 41 #[.agg #[.int .i64 25, .int .u64 996825010, .int .u64 642813549, .int .u64 513874426, .int .u64 1027748829, .int .u64 705979059], .int .u64 c, .slice (some ⟨w.heap.size, 0, none⟩) 1 1] (w.alloc (.cells #[.int .u8 q] 5))
      fun e w' => e = .returned (.int .u64 ((turnB c q.toNat : Nat) : Int)) ∧ Below w.heap.size w w' := by
  have hm : Byt (w.alloc (.cells #[.int .u8 q] 5)) (w.heap.size + 1) (.slice (some ⟨w.heap.size, 0, none⟩) 1 1) [b8 q] :=
    Byt.made w _ [_] [b8 q] (by rw [List.map_cons, List.map_nil, bv_b8_of h0 h1]) (by unfold maxLen; simp)
  refine (turnsb_call _ _ [b8 q] c _ hm (by simp) (by simp) hc).mono ?_
  rintro e w' ⟨rfl, hb⟩
  refine ⟨?_, ((Below.refl _ _).alloc (Nat.le_refl _) _).trans (hb.mono (by simp))⟩
  have : (b8 q).toNat = q.toNat := by have := b8_toNat q; omega
  unfold turnsB
  rw [List.foldl_cons, List.foldl_nil, this]
end Go.Proofs.YtgiljhdjknglpaaDoor

/-
  text.fives: values of five bits, the most significant first. Conditions: at most 12 values; the number is below 2^64.
-/
namespace Go.Proofs.YtgiljhdjknglpaaDoor
open Go.RowKit

def fiveI (c : Int) (d : Nat) : UInt8 := b8 (bits .and .u64 (c / 2 ^ d) 31)
def fivesI (c : Int) (n : Nat) : List UInt8 := (List.range n).map fun i => fiveI c (5 * (n - 1 - i))

set_option maxRecDepth 100000 in
set_option maxHeartbeats 1600000 in
theorem fives_any (c : Int) (n : Nat) (w : World) (hn : n ≤ 8) (_hc0 : 0 ≤ c) (_hc1 : c < 18446744073709551616) :
    Calls Tryd.prog 42 #[.int .u64 c, .int .i64 n] w fun e w' => e = .returned (.slice (some ⟨w.heap.size, 0, none⟩) n n) ∧ Row w' w.heap.size (fivesI c n) ∧ Below w.heap.size w w' := by
  have hmk := fun W => make_bytes W n (n : Int) rfl (by omega)
  obtain ⟨ls, hls⟩ : ∃ ls, ls = fivesI c n := ⟨_, rfl⟩
  have hll : ls.length = n := by rw [hls]; simp [fivesI]
  rw [← hls]
  have HLS := Lib.hid hls
  have HLL := Lib.hid hll
  clear hls hll
  go_enter Tryd.func42, Tryd.ntmps42
  go_wp2_with fail
  clear hmk
  go_loopw [11] (fun j wr => ∃ i : Nat, i ≤ n ∧ j = .int .i64 i ∧ FillB w w.heap.size i ls wr) (fun j _ => n - (intOf j).toNat)
  case atStart => exact ⟨0, Nat.zero_le _, rfl, _, rfl, by simpa [HLL.out] using row_new w n, (Below.refl _ _).alloc (Nat.le_refl _) _⟩
  case round =>
    obtain ⟨i, hi, rfl, hfill⟩ := hrel
    by_cases hlt : i < n
    · obtain ⟨zs, hz, hrow, hbel⟩ := hfill
      have hcell : wr.cell? ⟨w.heap.size, i, none⟩ = some (.int .u8 0) := hrow.cell (fillB_zero (by rw [HLL.out]; exact hlt) hz)
      have hfree := hrow.free i
      have hat : ls[i]? = some (fiveI c (5 * (n - 1 - i))) := by
        rw [HLS.out]; unfold fivesI; rw [List.getElem?_map, List.getElem?_range hlt]; rfl
      have hi8 : i ≤ 8 := by omega
      have HZ := Lib.hid hz
      have HR := Lib.hid hrow
      have HA := Lib.hid hat
      clear hz hrow hat
      go_wp2
      refine ⟨⟨i + 1, by omega, by go_num, fillB_next (by rw [HLL.out]; exact hlt) HA.out HZ.out ?_ (hbel.setCell (Nat.le_refl _) _)⟩, by simp [intOf]; omega⟩
      have h1 := HR.out.set (i := i) (fiveI c (5 * (n - 1 - i)))
      unfold fiveI at h1
      rw [bv_b8] at h1
      exact h1
    · have hie : i = ls.length := by rw [HLL.out]; omega
      rw [hie] at hfill
      have HF := Lib.hid (fillB_end hfill)
      clear hie hfill
      go_wp2
      go_ret
      exact ⟨rfl, HF.out.1, HF.out.2⟩

end Go.Proofs.YtgiljhdjknglpaaDoor
