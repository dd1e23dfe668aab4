/-
  Texts joined: Ref, Read, Num. Conditions: those of each.
-/
import Derived.Test.YtocblkacdoahfaaGreatDoorJ1
import Derived.Maps.Own
import Derived.Maps.OwnOps
/-
  What Clone, Out and the references' own byte functions do. Conditions: sizes within the reach.
-/
namespace Go.Proofs.YtocblkacdoahfaaGreatDoor
open Go.RowKit

/-- A call that hands back a new row of these bytes, and turns nothing that was there. -/
def Fresh (w : World) (xs : List UInt8) (e : Ending) (w' : World) : Prop :=
  ∃ A c, e = .returned (.slice A xs.length c) ∧ w'.ownsRow w.heap.size 5 1 (.slice A xs.length c) xs.length (xs.map bv) ∧ Below w.heap.size w w'

theorem fresh_of {w w' : World} {v : Value} {xs : List UInt8} (h : w'.ownsRow w.heap.size 5 1 v xs.length (xs.map bv)) (hb : Below w.heap.size w w') : Fresh w xs (.returned v) w' := by
  obtain ⟨A, c, rfl⟩ := own_form h
  exact ⟨A, c, rfl, h, hb⟩

set_option maxRecDepth 100000 in
set_option maxHeartbeats 400000 in
theorem clone_any (B : Nat) (x : Value) (xs : List UInt8) (w : World) (hr : Byt w B x xs) (hlen : xs.length ≤ 140737488355328) :
    Calls Tryz.prog 47 #[x] w (Fresh w xs) := by
  obtain ⟨i0, hi, hz0, hz1, hz2⟩ := info_parts info_u8
  obtain ⟨A, c, hx⟩ := hr.form
  subst hx
  rcases A with _ | ad
  · have hnil : xs = [] := by
      obtain ⟨A', c', e, _, _, hA, _⟩ := hr
      exact (hA (Value.slice.inj e).1.symm).1
    subst hnil
    have hq := Lib.run_eql_slice_nil (P := Tryz.prog) w 23 5 none 0 c 0 0 slice_u8
    go_enter Tryz.func47, Tryz.ntmps47
    go_wp2
    go_ret
    exact fresh_of (World.ownsRow_nil _ _ _ _) (Below.refl _ _)
  · have hq := Lib.run_eql_slice_nil (P := Tryz.prog) w 23 5 (some ad) xs.length c 0 0 slice_u8
    have hr1 : Byt (w.alloc (.cells #[] 5)) B (.slice (some ad) xs.length c) xs := by
      obtain ⟨A', c', e, h1, h2, h3, h4⟩ := hr
      refine ⟨A', c', e, h1, h2, h3, fun hne => ?_⟩
      obtain ⟨b, o, e1, hb, hc⟩ := h4 hne
      exact ⟨b, o, e1, hb, fun j u hu => cell_later (Below.alloc (Below.refl _ _) (Nat.le_refl _) _) (hc j u hu)⟩
    have hown : (w.alloc (.cells #[] 5)).ownsRow w.heap.size 5 1 (.slice (some ⟨w.heap.size, 0, none⟩) 0 0) 0 [] :=
      World.ownsRow_made w #[] 0 (Nat.le_refl _) (by unfold maxLen; omega) rfl
    go_enter Tryz.func47, Tryz.ntmps47
    go_wp2_with (at_builtin; refine wpList_append_bytes rfl (.tmp 5) (.tmp 6) 23 rfl w.heap.size 5 i0 slice_u8 hi hz0 hz1 hz2 _ 0 [] rfl hown B _ xs rfl hr1 (by omega) (by simp) ?_; intro v1 w1 hown1 hg1 hat1; obtain ⟨A1, c1, rfl⟩ := own_form hown1)
    go_ret
    rw [Nat.zero_add] at *
    exact fresh_of hown1 ((Below.alloc (Below.refl _ _) (Nat.le_refl _) _).grown hg1 (by simp) (fun k hk => by cases hk; exact Nat.le_refl _))

theorem Wr.byt {w : World} {g base : Nat} {v : Value} {xs : List UInt8} (h : Wr w g base v xs) : Byt w w.heap.size v xs := Byt.of_own h.2

set_option maxRecDepth 100000 in
set_option maxHeartbeats 400000 in
theorem out_any (g base : Nat) (v : Value) (xs : List UInt8) (w : World) (hw : Wr w g base v xs) (hlen : xs.length ≤ 60000000) :
    Calls Tryz.prog 22 #[.pointer (some ⟨g, 0, none⟩)] w (Fresh w xs) := by
  have hc := hw.cell
  obtain ⟨A, c, rfl⟩ := own_form hw.2
  go_enter Tryz.func22, Tryz.ntmps22
  go_wp2_with fail
  refine (clone_any w.heap.size _ xs w hw.byt (by omega)).mono ?_
  rintro e w1 ⟨A1, c1, rfl, hown1, hb1⟩
  go_wp2
  go_ret
  exact ⟨_, _, rfl, hown1, hb1⟩

set_option maxRecDepth 100000 in
set_option maxHeartbeats 400000 in
theorem equal_any (B B' : Nat) (x y : Value) (xs ys : List UInt8) (w : World) (hx : Byt w B x xs) (hy : Byt w B' y ys) :
    Calls Tryz.prog 41 #[x, y] w fun e w' => e = .returned (.bool (xs == ys)) ∧ w = w' := by
  have h1 := run_string_of (P := Tryz.prog) w 23 9 5 slice_u8 Tryz.underlying5 Tryz.underlying9 B x xs hx
  have h2 := run_string_of (P := Tryz.prog) w 23 9 5 slice_u8 Tryz.underlying5 Tryz.underlying9 B' y ys hy
  go_enter Tryz.func41, Tryz.ntmps41
  go_wp2
  go_ret
  exact ⟨rfl, rfl⟩

theorem equal_yes (B B' : Nat) (x y : Value) (xs ys : List UInt8) (w : World) (hx : Byt w B x xs) (hy : Byt w B' y ys) (h : xs = ys) :
    Calls Tryz.prog 41 #[x, y] w fun e w' => e = .returned (.bool true) ∧ w = w' :=
  (equal_any B B' x y xs ys w hx hy).mono fun _ _ ⟨he, hw⟩ => ⟨by rw [he, h]; simp, hw⟩

theorem Byt.take_ {w : World} {B c : Nat} {A : Option Addr} {xs : List UInt8} (h : Byt w B (.slice A xs.length c) xs) {k : Nat} (hk : k ≤ xs.length) : Byt w B (.slice A k c) (xs.take k) := by
  obtain ⟨A', c', e, h1, h2, h3, h4⟩ := h
  injection e with e1 e2 e3
  subst e1 e3
  refine ⟨A, c, by rw [List.length_take, Nat.min_eq_left hk], by rw [List.length_take]; omega, h2, fun h => ?_, fun hne => ?_⟩
  · obtain ⟨rfl, hc⟩ := h3 h
    exact ⟨by simp, hc⟩
  · obtain ⟨b, o, e1, hb, hc⟩ := h4 (by rintro rfl; simp at hne)
    refine ⟨b, o, e1, hb, fun j u hu => hc j u ?_⟩
    rw [List.getElem?_take] at hu
    split at hu
    · exact hu
    · cases hu

theorem low_split (m : Int) (k : Nat) (hk : 0 < k) : low m k = b8 m :: low (m / 256) (k - 1) := by
  obtain ⟨k, rfl⟩ : ∃ j, k = j + 1 := ⟨k - 1, by omega⟩
  rfl

theorem low_step {n m : Int} {k : Nat} {zs : List UInt8} (hlt : zs.length < k) (h : low n k = zs ++ low m (k - zs.length)) : low n k = (zs ++ [b8 m]) ++ low (m / 256) (k - (zs ++ [b8 m]).length) := by
  rw [h, low_split m _ (by omega), List.length_append]
  simp
  congr 1

theorem own_made (w : World) (e : TypeId) (l : List Value) (ys : List UInt8) (h : l = ys.map bv) (hl : ys.length ≤ maxLen) :
    (w.alloc (.cells l.toArray e)).ownsRow w.heap.size e 1 (.slice (some ⟨w.heap.size, 0, none⟩) ys.length ys.length) ys.length (ys.map bv) := by
  refine ⟨by simp, .inr ⟨w.heap.size, ys.length, l.toArray, rfl, Nat.le_refl _, heap_alloc_new w _, Nat.le_refl _, hl, by simp [h], ?_⟩⟩
  rw [h]
  exact List.take_of_length_le (by simp)

theorem Fresh.pre {w w1 w2 : World} {xs : List UInt8} {e : Ending} (hb : Below w.heap.size w w1) (h : Fresh w1 xs e w2) : Fresh w xs e w2 := by
  obtain ⟨A, c, he, hown, hb2⟩ := h
  refine ⟨A, c, he, ⟨hown.1, ?_⟩, hb.trans (hb2.mono hb.size)⟩
  rcases hown.2 with h | ⟨g, cap, cur, hv, hg, r⟩
  · exact .inl h
  · exact .inr ⟨g, cap, cur, hv, Nat.le_trans hb.size hg, r⟩

/-- What a longer size's three calls leave: its first byte's row, the number's row behind it, both joined. -/
theorem size_join {w w1 w2 : World} {b : UInt8} {l : List Value} {zs : List UInt8} {A : Option Addr} {c : Nat} {v2 : Value} (_hl : l = [b].map bv)
    (hb1 : Below (w.alloc (.cells l.toArray 5)).heap.size (w.alloc (.cells l.toArray 5)) w1)
    (_hz : w1.ownsRow (w.alloc (.cells l.toArray 5)).heap.size 5 1 (.slice A zs.length c) zs.length (zs.map bv))
    (hown2 : w2.ownsRow w.heap.size 5 1 v2 (1 + zs.length) ([b].map bv ++ zs.map bv)) (hg2 : w1.grownBy w2 (some w.heap.size)) : Fresh w (b :: zs) (.returned v2) w2 := by
  have h := hb1.size
  simp at h
  refine fresh_of (by simpa [Nat.add_comm] using hown2) ?_
  exact (((Below.refl w.heap.size w).alloc (Nat.le_refl _) _).trans (hb1.mono (by simp))).grown hg2 (by omega) (fun k hk => by cases hk; exact Nat.le_refl _)

end Go.Proofs.YtocblkacdoahfaaGreatDoor

/-
  What the reader's inner functions do, said of bytes in memory: each either answers and moves on, or gives up with a fault. Conditions: sizes within the reach.
-/
namespace Go.Proofs.YtocblkacdoahfaaGreatDoor
open Go.RowKit Go.Maps

/-- The number of bytes, the lowest first. -/
def val : List UInt8 → Int
  | [] => 0
  | b :: bs => b.toNat + 256 * val bs
theorem val_bd (xs : List UInt8) : 0 ≤ val xs ∧ val xs < 256 ^ xs.length := by
  induction xs with
  | nil => simp [val]
  | cons b bs ih =>
    have hb := b.toNat_lt
    simp only [val, List.length_cons, Int.pow_succ]
    omega
theorem val_snoc (xs : List UInt8) (b : UInt8) : val (xs ++ [b]) = val xs + 256 ^ xs.length * b.toNat := by
  induction xs with
  | nil => simp [val]
  | cons c cs ih =>
    simp only [List.cons_append, val, ih, List.length_cons, Int.pow_succ, Int.mul_add]
    rw [← Int.mul_assoc, Int.mul_comm 256 (256 ^ cs.length)]
    omega
theorem val_le8 {xs : List UInt8} (h : xs.length ≤ 8) : val xs < 18446744073709551616 := by
  have h1 := (val_bd xs).2
  have h2 : (256 : Nat) ^ xs.length ≤ 256 ^ 8 := Nat.pow_le_pow_right (by decide) h
  have h3 : (256 : Nat) ^ 8 = 18446744073709551616 := by decide
  have h4 : ((256 ^ xs.length : Nat) : Int) = (256 : Int) ^ xs.length := Int.natCast_pow _ _
  omega

theorem or_nat64 (a b : Nat) (ha : a < 18446744073709551616) (hb : b < 18446744073709551616) : bits .or .u64 (a : Int) (b : Int) = ((a ||| b : Nat) : Int) := Go.u64_or_nat a b ha hb

/-- One byte more: the 'or' is a sum. -/
theorem or_step {a : Int} {b : UInt8} {j : Nat} (h0 : 0 ≤ a) (h1 : a < 256 ^ j) (hj : j < 8) :
    bits .or .u64 a (IntKind.u64.wrap ((b.toNat : Int) * 2 ^ (8 * j))) = a + 256 ^ j * b.toNat := by
  obtain ⟨m, rfl⟩ := Int.eq_ofNat_of_zero_le h0
  have hb := b.toNat_lt
  have hpow : (2 : Nat) ^ (8 * j) = 256 ^ j := by rw [Nat.pow_mul]
  have hI : ((256 ^ j : Nat) : Int) = (256 : Int) ^ j := Int.natCast_pow _ _
  have hI2 : ((2 ^ (8 * j) : Nat) : Int) = (2 : Int) ^ (8 * j) := Int.natCast_pow _ _
  have hm : m < 2 ^ (8 * j) := by
    rw [hpow]
    rw [← hI] at h1
    exact Int.ofNat_lt.1 h1
  have hle : 2 ^ (8 * j) ≤ 72057594037927936 := by
    have : 2 ^ (8 * j) ≤ 2 ^ 56 := Nat.pow_le_pow_right (by decide) (by omega)
    have h2 : (2 : Nat) ^ 56 = 72057594037927936 := by decide
    omega
  have hprod : b.toNat * 2 ^ (8 * j) < 18446744073709551616 := by
    have h2 : b.toNat * 2 ^ (8 * j) ≤ 255 * 72057594037927936 := Nat.mul_le_mul (by omega) hle
    omega
  have hcast : ((b.toNat : Int) * 2 ^ (8 * j)) = ((b.toNat * 2 ^ (8 * j) : Nat) : Int) := by rw [Int.natCast_mul, hI2]
  have hw : IntKind.u64.wrap ((b.toNat * 2 ^ (8 * j) : Nat) : Int) = ((b.toNat * 2 ^ (8 * j) : Nat) : Int) := by
    rw [IntKind.wrap_u64]
    omega
  rw [hcast, hw, or_nat64 _ _ (by omega) hprod]
  rw [Nat.or_comm, Nat.mul_comm b.toNat, ← Nat.two_pow_add_eq_or_of_lt hm, hpow, Int.natCast_add, Int.natCast_mul, hI]
  omega

/-- What a step that fails panics with. -/
def flt (n : Int) : List PanicEntry := [{ v := .iface 181 (.agg #[.int .i64 n]), recovered := false }]

set_option maxRecDepth 100000 in
set_option maxHeartbeats 400000 in
theorem fail_any (n : Int) (w : World) :
    Calls Tryz.prog 119 #[.int .i64 n] w fun e w' => e = .panicked (flt n) ∧ w = w' := by
  go_enter Tryz.func119, Tryz.ntmps119
  go_wp2
  exact ⟨rfl, rfl, rfl⟩

/-- A reader at block r: its first error is k, and the bytes xs are left, in a block below B. -/
def Cu (w : World) (r B : Nat) (v : Value) (k : Int) (xs : List UInt8) : Prop :=
  w.heap[r]? = some (.cells #[v, .int .i64 k] 147 (0, 0)) ∧ Byt w B v xs ∧ B ≤ r

section
variable {w w' : World} {r B : Nat} {v : Value} {k : Int} {xs : List UInt8}
theorem Cu.cell (h : Cu w r B v k xs) : w.cell? ⟨r, 0, none⟩ = some v := cell_of_row w r 0 _ _ _ h.1
theorem Cu.cell1 (h : Cu w r B v k xs) : w.cell? ⟨r, 1, none⟩ = some (.int .i64 k) := cell_of_row w r 1 _ _ _ h.1
theorem Cu.free (h : Cu w r B v k xs) (j : Nat) : w.frozen? ⟨r, j, none⟩ = false := by
  have h1 := h.1
  simp [World.frozen?, h1]
theorem Cu.lt (h : Cu w r B v k xs) : r < w.heap.size := (Array.getElem?_eq_some_iff.1 h.1).1
theorem Cu.turns {S : Nat → Prop} (h : Cu w r B v k xs) (ht : Turns S w w') (hr : ¬ S r) (hS : ∀ i, i < B → ¬ S i) : Cu w' r B v k xs := by
  have hlt := h.lt
  obtain ⟨h1, h2, h3⟩ := h
  exact ⟨(ht.block r hlt hr).trans h1, h2.keep fun b o hb => ht.cell (p := ⟨b, o, none⟩) (by show b < _; omega) (hS b hb), h3⟩
theorem Cu.alloc (h : Cu w r B v k xs) (o : Obj) : Cu (w.alloc o) r B v k xs := h.turns ((Turns.refl (fun _ => False) w).alloc o) (fun h => h) (fun _ _ h => h)
theorem Cu.below (h : Cu w r B v k xs) (hb : Below w.heap.size w w') : Cu w' r B v k xs := h.turns (Turns.of_below (S := fun _ => False) hb) (fun h => h) (fun _ _ h => h)
/-- The reader's bytes are cut. -/
theorem Cu.set (h : Cu w r B v k xs) {v' : Value} {ys : List UInt8} (hy : Byt w B v' ys) : Cu (w.setCell ⟨r, 0, none⟩ v') r B v' k ys := by
  obtain ⟨h1, h2, h3⟩ := h
  refine ⟨by simp [World.setCell, Array.getElem?_modify, h1], hy.keep fun b o hb => ?_, h3⟩
  exact World.cell?_setCell_other _ _ _ _ (by intro e; injection e with e; omega)
theorem turns_set (w : World) (r : Nat) (j : Nat) (u : Value) : Turns (fun i => i = r) w (w.setCell ⟨r, j, none⟩ u) := (Turns.refl (fun i => i = r) w).setCell (p := ⟨r, j, none⟩) (fun _ => rfl) u
end

/-- An inner function answers u, and ys are left. -/
def Goes (w : World) (r B : Nat) (k : Int) (u : Value) (ys : List UInt8) (e : Ending) (w' : World) : Prop :=
  e = .returned u ∧ ∃ v', Cu w' r B v' k ys ∧ Turns (fun i => i = r) w w'
/-- It gives up with the error c; the reader's bytes may be cut. -/
def Stops (w : World) (r B : Nat) (k c : Int) (e : Ending) (w' : World) : Prop :=
  e = .panicked (flt c) ∧ ∃ v' ys, Cu w' r B v' k ys ∧ Turns (fun i => i = r) w w'

theorem Goes.pre {w w1 w2 : World} {r B : Nat} {k : Int} {u : Value} {ys : List UInt8} {e : Ending} (ht : Turns (fun i => i = r) w w1) (h : Goes w1 r B k u ys e w2) : Goes w r B k u ys e w2 := by
  obtain ⟨he, v', hc, ht2⟩ := h
  exact ⟨he, v', hc, ht.trans ht2 (fun _ _ h => h)⟩
theorem Stops.pre {w w1 w2 : World} {r B : Nat} {k c : Int} {e : Ending} (ht : Turns (fun i => i = r) w w1) (h : Stops w1 r B k c e w2) : Stops w r B k c e w2 := by
  obtain ⟨he, v', ys, hc, ht2⟩ := h
  exact ⟨he, v', ys, hc, ht.trans ht2 (fun _ _ h => h)⟩

theorem Byt.drop_ {w : World} {B c : Nat} {A : Option Addr} {xs : List UInt8} (h : Byt w B (.slice A xs.length c) xs) {k : Nat} (hk : k ≤ xs.length) (_hc : c ≠ k) :
    Byt w B (.slice (A.map (fun x => x.add k)) (xs.length - k) (c - k)) (xs.drop k) := by
  obtain ⟨A', c', e, h1, h2, h3, h4⟩ := h
  injection e with e1 e2 e3
  subst e1 e3
  refine ⟨_, _, by rw [List.length_drop], by rw [List.length_drop]; omega, by omega, fun h => ?_, fun hne => ?_⟩
  · cases A with
    | none => obtain ⟨rfl, hc0⟩ := h3 rfl; exact ⟨by simp, by omega⟩
    | some a => cases h
  · obtain ⟨b, o, rfl, hb, hcell⟩ := h4 (by rintro rfl; simp at hne)
    have hadd : (⟨b, o, none⟩ : Addr).add k = ⟨b, o + k, none⟩ := by
      unfold Addr.add
      split <;> simp_all
    refine ⟨b, o + k, by simp [hadd], hb, fun j u hu => ?_⟩
    rw [Nat.add_assoc]
    exact hcell _ u (by rw [← hu, List.getElem?_drop])
theorem Byt.drop_all {w : World} {B c : Nat} {A : Option Addr} {xs : List UInt8} (h : Byt w B (.slice A xs.length c) xs) {k : Nat} (hk : k ≤ xs.length) (hc : c = k) :
    Byt w B (.slice A (xs.length - k) 0) (xs.drop k) := by
  obtain ⟨A', c', e, h1, h2, h3, h4⟩ := h
  injection e with e1 e2 e3
  subst e1 e3
  have hd : xs.drop k = [] := List.drop_of_length_le (by omega)
  rw [hd]
  refine ⟨A, 0, by rw [List.length_nil]; congr 1; omega, Nat.le_refl _, by unfold maxLen; omega, fun _ => ⟨rfl, rfl⟩, fun h => absurd rfl h⟩

theorem Byt.cap {w : World} {B c : Nat} {A : Option Addr} {xs : List UInt8} (h : Byt w B (.slice A xs.length c) xs) : xs.length ≤ c ∧ c ≤ 9223372036854775807 := by
  obtain ⟨A', c', e, h1, h2, _⟩ := h
  injection e with e1 e2 e3
  subst e3
  unfold maxLen at h2
  exact ⟨h1, h2⟩

set_option maxRecDepth 100000 in
set_option maxHeartbeats 800000 in
theorem take_ok (r B : Nat) (v : Value) (k n : Int) (xs : List UInt8) (w : World) (h0 : 0 ≤ n) (h1 : n ≤ xs.length) (hc : Cu w r B v k xs) :
    Calls Tryz.prog 95 #[.pointer (some ⟨r, 0, none⟩), .int .i64 n] w fun e w' => ∃ A c, Goes w r B k (.slice A n.toNat c) (xs.drop n.toNat) e w' ∧ Byt w' B (.slice A n.toNat c) (xs.take n.toNat) := by
  obtain ⟨A, c, rfl⟩ := hc.2.1.form
  have hcell := hc.cell
  have hfr := hc.free 0
  obtain ⟨hc1, hc2⟩ := hc.2.1.cap
  go_enter Tryz.func95, Tryz.ntmps95
  go_wp2
  all_goals go_ret
  · have hcn : c = n.toNat := by assumption
    subst hcn
    have hcu := hc.set (Byt.drop_all hc.2.1 (k := n.toNat) (by omega) rfl)
    refine ⟨A, n.toNat, ⟨rfl, _, hcu, turns_set _ _ _ _⟩, ?_⟩
    exact (Byt.take_ hc.2.1 (by omega)).keep fun b o hb => World.cell?_setCell_other _ _ _ _ (by intro e; injection e with e; have := hc.2.2; omega)
  · have hcn : ¬ c = n.toNat := by assumption
    have hcu := hc.set (Byt.drop_ hc.2.1 (k := n.toNat) (by omega) hcn)
    refine ⟨A, c, ⟨rfl, _, hcu, turns_set _ _ _ _⟩, ?_⟩
    exact (Byt.take_ hc.2.1 (by omega)).keep fun b o hb => World.cell?_setCell_other _ _ _ _ (by intro e; injection e with e; have := hc.2.2; omega)

set_option maxRecDepth 100000 in
set_option maxHeartbeats 400000 in
theorem take_end (r B : Nat) (v : Value) (k n : Int) (xs : List UInt8) (w : World) (h1 : xs.length < n) (hc : Cu w r B v k xs) :
    Calls Tryz.prog 95 #[.pointer (some ⟨r, 0, none⟩), .int .i64 n] w (Stops w r B k 4) := by
  obtain ⟨A, c, rfl⟩ := hc.2.1.form
  have hcell := hc.cell
  have hfr := hc.free 0
  obtain ⟨hc1, hc2⟩ := hc.2.1.cap
  go_enter Tryz.func95, Tryz.ntmps95
  go_wp2_with fail
  refine (fail_any _ _).mono ?_
  rintro e w1 ⟨rfl, rfl⟩
  go_wp2
  exact ⟨rfl, rfl, _, _, hc, Turns.refl _ _⟩

end Go.Proofs.YtocblkacdoahfaaGreatDoor

/-
  What the reader's inner functions that read numbers, sizes and lists do. Conditions: sizes within the reach.
-/
namespace Go.Proofs.YtocblkacdoahfaaGreatDoor
open Go.RowKit Go.Maps

theorem take_nat (r B : Nat) (v : Value) (k : Int) (n : Nat) (xs : List UInt8) (w : World) (h1 : n ≤ xs.length) (hc : Cu w r B v k xs) :
    Calls Tryz.prog 95 #[.pointer (some ⟨r, 0, none⟩), .int .i64 (n : Int)] w fun e w' => ∃ A c, Goes w r B k (.slice A n c) (xs.drop n) e w' ∧ Byt w' B (.slice A n c) (xs.take n) :=
  (take_ok r B v k n xs w (by omega) (by omega) hc).mono fun e w' h => by simpa using h

theorem val_take_snoc {ts : List UInt8} {j : Nat} (h : j < ts.length) : val (ts.take (j + 1)) = val (ts.take j) + 256 ^ j * (ts[j]).toNat := by
  rw [List.take_succ_eq_append_getElem h, val_snoc, List.length_take, Nat.min_eq_left (Nat.le_of_lt h)]

set_option maxRecDepth 100000 in
set_option maxHeartbeats 800000 in
theorem number_ok (r B : Nat) (v : Value) (k : Int) (n : Nat) (xs : List UInt8) (w : World) (hn0 : 0 < n) (hn8 : n ≤ 8) (h1 : n ≤ xs.length) (hc : Cu w r B v k xs) :
    Calls Tryz.prog 117 #[.pointer (some ⟨r, 0, none⟩), .int .i64 (n : Int)] w (Goes w r B k (.int .u64 (val (xs.take n))) (xs.drop n)) := by
  go_enter Tryz.func117, Tryz.ntmps117
  go_wp2_with fail
  refine (take_nat r B v k n xs w h1 hc).mono ?_
  rintro e w1 ⟨A, c, ⟨rfl, hgo⟩, hby⟩
  obtain ⟨ts, hts⟩ : ∃ ts, ts = xs.take n := ⟨_, rfl⟩
  have hlen : ts.length = n := by rw [hts, List.length_take]; omega
  rw [← hts] at hby
  obtain ⟨A', c', e0, _, _, _, h4⟩ := hby
  injection e0 with e1 e2 e3
  obtain ⟨b, o, rfl, _, hcell⟩ := h4 (by rintro rfl; simp at hlen; omega)
  subst e1
  have HL := Lib.hid hlen
  have HC := Lib.hid hcell
  have HT := Lib.hid hts
  have HG := Lib.hid hgo
  clear hlen hcell hts hgo e2 e3 h4
  go_wp2_with fail
  go_loop [5, 12] (fun x i => ∃ j : Nat, j ≤ n ∧ i = .int .i64 (j : Int) ∧ x = .int .u64 (val (ts.take j))) (fun _ i => n - (intOf i).toNat)
  case atStart => exact ⟨0, Nat.zero_le _, rfl, rfl⟩
  case round =>
    obtain ⟨j, hj, rfl, rfl⟩ := hrel
    have hbd := val_bd (ts.take j)
    have hjl : (ts.take j).length = j := by rw [List.length_take, HL.out]; omega
    rw [hjl] at hbd
    have hb1 := hbd.1
    have hb2 := val_le8 (xs := ts.take j) (by omega)
    have HB := Lib.hid hbd
    clear hbd hjl
    by_cases hlt : j < n
    · have hcj : w1.cell? ⟨b, o + j, none⟩ = some (.int .u8 ((ts[j]'(by have := HL.out; omega)).toNat : Int)) := HC.out j _ (List.getElem?_eq_getElem (by have := HL.out; omega))
      have hb := (ts[j]'(by have := HL.out; omega)).toNat_lt
      go_wp2
      have hv := or_step (b := ts[j]'(by have := HL.out; omega)) HB.out.1 HB.out.2 (by omega : j < 8)
      rw [← val_take_snoc] at hv
      refine ⟨⟨j + 1, by omega, by go_num, by rw [hv]⟩, by simp [intOf]; omega⟩
    · go_wp2
      go_ret
      have hjn : j = n := by omega
      have : val (ts.take j) = val (xs.take n) := by rw [HT.out, hjn, List.take_take, Nat.min_self]
      exact ⟨congrArg (fun q => Ending.returned (.int .u64 q)) this, HG.out⟩

set_option maxRecDepth 100000 in
set_option maxHeartbeats 400000 in
theorem number_end (r B : Nat) (v : Value) (k : Int) (n : Int) (xs : List UInt8) (w : World) (h1 : xs.length < n) (hc : Cu w r B v k xs) :
    Calls Tryz.prog 117 #[.pointer (some ⟨r, 0, none⟩), .int .i64 n] w (Stops w r B k 4) := by
  go_enter Tryz.func117, Tryz.ntmps117
  go_wp2_with fail
  refine (take_end r B v k n xs w h1 hc).mono ?_
  rintro e w1 ⟨rfl, hst⟩
  go_wp2
  exact ⟨rfl, rfl, hst⟩

theorem number_num (r B : Nat) (v : Value) (k : Int) (q : Int) (n : Nat) (hq : q = n) (xs : List UInt8) (w : World) (hn0 : 0 < n) (hn8 : n ≤ 8) (h1 : n ≤ xs.length) (hc : Cu w r B v k xs) :
    Calls Tryz.prog 117 #[.pointer (some ⟨r, 0, none⟩), .int .i64 q] w (Goes w r B k (.int .u64 (val (xs.take n))) (xs.drop n)) := by
  subst hq
  exact number_ok r B v k n xs w hn0 hn8 h1 hc

end Go.Proofs.YtocblkacdoahfaaGreatDoor
