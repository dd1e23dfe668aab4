/-
  What the reader's inner functions do, said of bytes in memory: each either answers and moves on, or gives up with a fault. Conditions: sizes within the reach.
-/
import Derived.Test.YtadgaeokiolmmaaRef
import Derived.Maps.Own
import Derived.Maps.OwnOps
namespace Go.Proofs.Ytadgaeokiolmmaa
open Go.RowKit Go.Maps

/-- The number of bytes, the lowest first. -/
def val : List UInt8 → Int
  | [] => 0
  | b :: bs => b.toNat + 256 * val bs
theorem val_bd (xs : List UInt8) : 0 ≤ val xs ∧ val xs < 256 ^ xs.length := by
  induction xs with
  | nil => simp [val]
  | cons b bs ih =>
    have hb := b.toNat_lt
    simp only [val, List.length_cons, Int.pow_succ]
    omega
theorem val_snoc (xs : List UInt8) (b : UInt8) : val (xs ++ [b]) = val xs + 256 ^ xs.length * b.toNat := by
  induction xs with
  | nil => simp [val]
  | cons c cs ih =>
    simp only [List.cons_append, val, ih, List.length_cons, Int.pow_succ, Int.mul_add]
    rw [← Int.mul_assoc, Int.mul_comm 256 (256 ^ cs.length)]
    omega
theorem val_le8 {xs : List UInt8} (h : xs.length ≤ 8) : val xs < 18446744073709551616 := by
  have h1 := (val_bd xs).2
  have h2 : (256 : Nat) ^ xs.length ≤ 256 ^ 8 := Nat.pow_le_pow_right (by decide) h
  have h3 : (256 : Nat) ^ 8 = 18446744073709551616 := by decide
  have h4 : ((256 ^ xs.length : Nat) : Int) = (256 : Int) ^ xs.length := Int.natCast_pow _ _
  omega

theorem or_nat64 (a b : Nat) (ha : a < 18446744073709551616) (hb : b < 18446744073709551616) : bits .or .u64 (a : Int) (b : Int) = ((a ||| b : Nat) : Int) := Go.u64_or_nat a b ha hb

/-- One byte more: the 'or' is a sum. -/
theorem or_step {a : Int} {b : UInt8} {j : Nat} (h0 : 0 ≤ a) (h1 : a < 256 ^ j) (hj : j < 8) :
    bits .or .u64 a (IntKind.u64.wrap ((b.toNat : Int) * 2 ^ (8 * j))) = a + 256 ^ j * b.toNat := by
  obtain ⟨m, rfl⟩ := Int.eq_ofNat_of_zero_le h0
  have hb := b.toNat_lt
  have hpow : (2 : Nat) ^ (8 * j) = 256 ^ j := by rw [Nat.pow_mul]
  have hI : ((256 ^ j : Nat) : Int) = (256 : Int) ^ j := Int.natCast_pow _ _
  have hI2 : ((2 ^ (8 * j) : Nat) : Int) = (2 : Int) ^ (8 * j) := Int.natCast_pow _ _
  have hm : m < 2 ^ (8 * j) := by
    rw [hpow]
    rw [← hI] at h1
    exact Int.ofNat_lt.1 h1
  have hle : 2 ^ (8 * j) ≤ 72057594037927936 := by
    have : 2 ^ (8 * j) ≤ 2 ^ 56 := Nat.pow_le_pow_right (by decide) (by omega)
    have h2 : (2 : Nat) ^ 56 = 72057594037927936 := by decide
    omega
  have hprod : b.toNat * 2 ^ (8 * j) < 18446744073709551616 := by
    have h2 : b.toNat * 2 ^ (8 * j) ≤ 255 * 72057594037927936 := Nat.mul_le_mul (by omega) hle
    omega
  have hcast : ((b.toNat : Int) * 2 ^ (8 * j)) = ((b.toNat * 2 ^ (8 * j) : Nat) : Int) := by rw [Int.natCast_mul, hI2]
  have hw : IntKind.u64.wrap ((b.toNat * 2 ^ (8 * j) : Nat) : Int) = ((b.toNat * 2 ^ (8 * j) : Nat) : Int) := by
    rw [IntKind.wrap_u64]
    omega
  rw [hcast, hw, or_nat64 _ _ (by omega) hprod]
  rw [Nat.or_comm, Nat.mul_comm b.toNat, ← Nat.two_pow_add_eq_or_of_lt hm, hpow, Int.natCast_add, Int.natCast_mul, hI]
  omega

/-- What a step that fails panics with. -/
def flt (n : Int) : List PanicEntry := [{ v := .iface 121 (.agg #[.int .i64 n]), recovered := false }]

set_option maxHeartbeats 400000 in
theorem fail_any (n : Int) (w : World) :
    Calls Try.prog 93 #[.int .i64 n] w fun e w' => e = .panicked (flt n) ∧ w = w' := by
  go_enter Try.func93, Try.ntmps93
  go_wp2
  exact ⟨rfl, rfl, rfl⟩

/-- A reader at block r: its first error is k, and the bytes xs are left, in a block below B. -/
def Cu (w : World) (r B : Nat) (v : Value) (k : Int) (xs : List UInt8) : Prop :=
  w.heap[r]? = some (.cells #[v, .int .i64 k] 103 (0, 0)) ∧ Byt w B v xs ∧ B ≤ r

section
variable {w w' : World} {r B : Nat} {v : Value} {k : Int} {xs : List UInt8}
theorem Cu.cell (h : Cu w r B v k xs) : w.cell? ⟨r, 0, none⟩ = some v := cell_of_row w r 0 _ _ _ h.1
theorem Cu.cell1 (h : Cu w r B v k xs) : w.cell? ⟨r, 1, none⟩ = some (.int .i64 k) := cell_of_row w r 1 _ _ _ h.1
theorem Cu.free (h : Cu w r B v k xs) (j : Nat) : w.frozen? ⟨r, j, none⟩ = false := by
  have h1 := h.1
  simp [World.frozen?, h1]
theorem Cu.lt (h : Cu w r B v k xs) : r < w.heap.size := (Array.getElem?_eq_some_iff.1 h.1).1
theorem Cu.turns {S : Nat → Prop} (h : Cu w r B v k xs) (ht : Turns S w w') (hr : ¬ S r) (hS : ∀ i, i < B → ¬ S i) : Cu w' r B v k xs := by
  have hlt := h.lt
  obtain ⟨h1, h2, h3⟩ := h
  exact ⟨(ht.block r hlt hr).trans h1, h2.keep fun b o hb => ht.cell (p := ⟨b, o, none⟩) (by show b < _; omega) (hS b hb), h3⟩
theorem Cu.alloc (h : Cu w r B v k xs) (o : Obj) : Cu (w.alloc o) r B v k xs := h.turns ((Turns.refl (fun _ => False) w).alloc o) (fun h => h) (fun _ _ h => h)
theorem Cu.below (h : Cu w r B v k xs) (hb : Below w.heap.size w w') : Cu w' r B v k xs := h.turns (Turns.of_below (S := fun _ => False) hb) (fun h => h) (fun _ _ h => h)
/-- The reader's bytes are cut. -/
theorem Cu.set (h : Cu w r B v k xs) {v' : Value} {ys : List UInt8} (hy : Byt w B v' ys) : Cu (w.setCell ⟨r, 0, none⟩ v') r B v' k ys := by
  obtain ⟨h1, h2, h3⟩ := h
  refine ⟨by simp [World.setCell, Array.getElem?_modify, h1], hy.keep fun b o hb => ?_, h3⟩
  exact World.cell?_setCell_other _ _ _ _ (by intro e; injection e with e; omega)
theorem turns_set (w : World) (r : Nat) (j : Nat) (u : Value) : Turns (fun i => i = r) w (w.setCell ⟨r, j, none⟩ u) := (Turns.refl (fun i => i = r) w).setCell (p := ⟨r, j, none⟩) (fun _ => rfl) u
end

/-- An inner function answers u, and ys are left. -/
def Goes (w : World) (r B : Nat) (k : Int) (u : Value) (ys : List UInt8) (e : Ending) (w' : World) : Prop :=
  e = .returned u ∧ ∃ v', Cu w' r B v' k ys ∧ Turns (fun i => i = r) w w'
/-- It gives up with the error c; the reader's bytes may be cut. -/
def Stops (w : World) (r B : Nat) (k c : Int) (e : Ending) (w' : World) : Prop :=
  e = .panicked (flt c) ∧ ∃ v' ys, Cu w' r B v' k ys ∧ Turns (fun i => i = r) w w'

theorem Goes.pre {w w1 w2 : World} {r B : Nat} {k : Int} {u : Value} {ys : List UInt8} {e : Ending} (ht : Turns (fun i => i = r) w w1) (h : Goes w1 r B k u ys e w2) : Goes w r B k u ys e w2 := by
  obtain ⟨he, v', hc, ht2⟩ := h
  exact ⟨he, v', hc, ht.trans ht2 (fun _ _ h => h)⟩
theorem Stops.pre {w w1 w2 : World} {r B : Nat} {k c : Int} {e : Ending} (ht : Turns (fun i => i = r) w w1) (h : Stops w1 r B k c e w2) : Stops w r B k c e w2 := by
  obtain ⟨he, v', ys, hc, ht2⟩ := h
  exact ⟨he, v', ys, hc, ht.trans ht2 (fun _ _ h => h)⟩

theorem Byt.drop_ {w : World} {B c : Nat} {A : Option Addr} {xs : List UInt8} (h : Byt w B (.slice A xs.length c) xs) {k : Nat} (hk : k ≤ xs.length) (_hc : c ≠ k) :
    Byt w B (.slice (A.map (fun x => x.add k)) (xs.length - k) (c - k)) (xs.drop k) := by
  obtain ⟨A', c', e, h1, h2, h3, h4⟩ := h
  injection e with e1 e2 e3
  subst e1 e3
  refine ⟨_, _, by rw [List.length_drop], by rw [List.length_drop]; omega, by omega, fun h => ?_, fun hne => ?_⟩
  · cases A with
    | none => obtain ⟨rfl, hc0⟩ := h3 rfl; exact ⟨by simp, by omega⟩
    | some a => cases h
  · obtain ⟨b, o, rfl, hb, hcell⟩ := h4 (by rintro rfl; simp at hne)
    have hadd : (⟨b, o, none⟩ : Addr).add k = ⟨b, o + k, none⟩ := by
      unfold Addr.add
      split <;> simp_all
    refine ⟨b, o + k, by simp [hadd], hb, fun j u hu => ?_⟩
    rw [Nat.add_assoc]
    exact hcell _ u (by rw [← hu, List.getElem?_drop])
theorem Byt.drop_all {w : World} {B c : Nat} {A : Option Addr} {xs : List UInt8} (h : Byt w B (.slice A xs.length c) xs) {k : Nat} (hk : k ≤ xs.length) (hc : c = k) :
    Byt w B (.slice A (xs.length - k) 0) (xs.drop k) := by
  obtain ⟨A', c', e, h1, h2, h3, h4⟩ := h
  injection e with e1 e2 e3
  subst e1 e3
  have hd : xs.drop k = [] := List.drop_of_length_le (by omega)
  rw [hd]
  refine ⟨A, 0, by rw [List.length_nil]; congr 1; omega, Nat.le_refl _, by unfold maxLen; omega, fun _ => ⟨rfl, rfl⟩, fun h => absurd rfl h⟩

theorem Byt.cap {w : World} {B c : Nat} {A : Option Addr} {xs : List UInt8} (h : Byt w B (.slice A xs.length c) xs) : xs.length ≤ c ∧ c ≤ 9223372036854775807 := by
  obtain ⟨A', c', e, h1, h2, _⟩ := h
  injection e with e1 e2 e3
  subst e3
  unfold maxLen at h2
  exact ⟨h1, h2⟩

set_option maxHeartbeats 800000 in
theorem take_ok (r B : Nat) (v : Value) (k n : Int) (xs : List UInt8) (w : World) (h0 : 0 ≤ n) (h1 : n ≤ xs.length) (hc : Cu w r B v k xs) :
    Calls Try.prog 79 #[.pointer (some ⟨r, 0, none⟩), .int .i64 n] w fun e w' => ∃ A c, Goes w r B k (.slice A n.toNat c) (xs.drop n.toNat) e w' ∧ Byt w' B (.slice A n.toNat c) (xs.take n.toNat) := by
  obtain ⟨A, c, rfl⟩ := hc.2.1.form
  have hcell := hc.cell
  have hfr := hc.free 0
  obtain ⟨hc1, hc2⟩ := hc.2.1.cap
  go_enter Try.func79, Try.ntmps79
  go_wp2
  all_goals go_ret
  · have hcn : c = n.toNat := by assumption
    subst hcn
    have hcu := hc.set (Byt.drop_all hc.2.1 (k := n.toNat) (by omega) rfl)
    refine ⟨A, n.toNat, ⟨rfl, _, hcu, turns_set _ _ _ _⟩, ?_⟩
    exact (Byt.take_ hc.2.1 (by omega)).keep fun b o hb => World.cell?_setCell_other _ _ _ _ (by intro e; injection e with e; have := hc.2.2; omega)
  · have hcn : ¬ c = n.toNat := by assumption
    have hcu := hc.set (Byt.drop_ hc.2.1 (k := n.toNat) (by omega) hcn)
    refine ⟨A, c, ⟨rfl, _, hcu, turns_set _ _ _ _⟩, ?_⟩
    exact (Byt.take_ hc.2.1 (by omega)).keep fun b o hb => World.cell?_setCell_other _ _ _ _ (by intro e; injection e with e; have := hc.2.2; omega)

set_option maxHeartbeats 400000 in
theorem take_end (r B : Nat) (v : Value) (k n : Int) (xs : List UInt8) (w : World) (h1 : xs.length < n) (hc : Cu w r B v k xs) :
    Calls Try.prog 79 #[.pointer (some ⟨r, 0, none⟩), .int .i64 n] w (Stops w r B k 4) := by
  obtain ⟨A, c, rfl⟩ := hc.2.1.form
  have hcell := hc.cell
  have hfr := hc.free 0
  obtain ⟨hc1, hc2⟩ := hc.2.1.cap
  go_enter Try.func79, Try.ntmps79
  go_wp2_with fail
  refine (fail_any _ _).mono ?_
  rintro e w1 ⟨rfl, rfl⟩
  go_wp2
  exact ⟨rfl, rfl, _, _, hc, Turns.refl _ _⟩

end Go.Proofs.Ytadgaeokiolmmaa
