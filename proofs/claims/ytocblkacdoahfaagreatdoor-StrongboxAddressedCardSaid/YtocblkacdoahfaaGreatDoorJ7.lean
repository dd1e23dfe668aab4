/-
  Texts joined: SnVal, SnFrom, SnRfrom. Conditions: those of each.
-/
import Derived.Test.YtocblkacdoahfaaGreatDoorJ6
import Derived.IntWalk
/-
  script.value: the number that at most eight bytes say. Conditions: at most eight bytes.
-/
namespace Go.Proofs.YtocblkacdoahfaaGreatDoor.Sn
open Go.RowKit Go.Shelf

attribute [local go_sem] Oper.semAt_some

theorem or_low (m c : Nat) (hm : m < 36028797018963968) (hc : c < 256) : bits .or .i64 ((m : Int) * 256) (c : Int) = (m : Int) * 256 + c := by
  have e1 : (m : Int) * 256 = ((m * 256 : Nat) : Int) := by omega
  rw [e1]
  show IntKind.i64.wrap ((BitVec.ofInt 64 ((m * 256 : Nat) : Int) ||| BitVec.ofInt 64 ((c : Nat) : Int)).toNat : Int) = _
  rw [BitVec.toNat_or, Go.ofInt_u64 _ (by omega), Go.ofInt_u64 _ (by omega)]
  have e2 : m * 256 ||| c = m * 256 + c := by
    have := Nat.two_pow_add_eq_or_of_lt (i := 8) (b := c) (by omega) m
    rw [show 2 ^ 8 * m = m * 256 by omega] at this
    exact this.symm
  rw [e2, IntWalk.i64_in _ (by omega)]
  omega

/-- What the bytes that have come make of y. -/
def valG (y : Nat) (pre : List (Nat × UInt8)) : Nat := pre.foldl (fun s x => s * 256 + x.2.toNat) y
theorem valG_snoc (y : Nat) (pre : List (Nat × UInt8)) (x : Nat × UInt8) : valG y (pre ++ [x]) = valG y pre * 256 + x.2.toNat := by simp [valG]
theorem valG_lt (y : Nat) (pre : List (Nat × UInt8)) : valG y pre < (y + 1) * 256 ^ pre.length := by
  obtain ⟨r, hr⟩ : ∃ r, r = pre.reverse := ⟨_, rfl⟩
  have hp : pre = r.reverse := by rw [hr, List.reverse_reverse]
  rw [hp]
  clear hp hr pre
  induction r with
  | nil => simp [valG]
  | cons x r ih =>
    rw [List.reverse_cons, valG_snoc, List.length_append, List.length_cons, List.length_nil, Nat.zero_add, Nat.pow_succ, ← Nat.mul_assoc]
    have := x.2.toNat_lt
    omega
theorem valG_room {y : Nat} {pre : List (Nat × UInt8)} (hy : y < 128) (h : pre.length ≤ 6) : valG y pre < 36028797018963968 := by
  have h1 := valG_lt y pre
  have h2 : 256 ^ pre.length ≤ 256 ^ 6 := Nat.pow_le_pow_right (by decide) h
  have h3 : (y + 1) * 256 ^ pre.length ≤ 128 * 256 ^ 6 := Nat.mul_le_mul (by omega) h2
  have h4 : 128 * 256 ^ 6 = 36028797018963968 := by decide
  omega
theorem valG_upto (y : Nat) (fr : List UInt8) (k : Nat) (hk : k ≤ fr.length) : valG y (upto (fromEnd fr) k) = valN (fr.drop (fr.length - k)) + 256 ^ k * y := by
  induction k with
  | zero => simp [upto, valG, valN]
  | succ k ih =>
    rw [upto_succ, valG_snoc, ih (by omega)]
    have e : fr.drop (fr.length - (k + 1)) = fr[fr.length - (k + 1)]'(by omega) :: fr.drop (fr.length - k) := by
      rw [List.drop_eq_getElem_cons (by omega)]
      congr 2
      omega
    rw [e]
    show _ = (fr[fr.length - (k + 1)]'(by omega)).toNat + 256 * valN (fr.drop (fr.length - k)) + 256 ^ (k + 1) * y
    have e2 : (fromEnd fr k).2 = fr[fr.length - (k + 1)]'(by omega) := by
      unfold fromEnd
      show fr[fr.length - 1 - k]?.getD 0 = _
      rw [List.getElem?_eq_getElem (by omega)]
      show fr[fr.length - 1 - k]'_ = _
      congr 1
      omega
    rw [e2, Nat.pow_succ, Nat.add_mul, Nat.mul_assoc, Nat.mul_comm y 256, ← Nat.mul_assoc]
    omega
theorem valG_all (q : UInt8) (fr : List UInt8) : valG (q.toNat % 128) (upto (fromEnd fr) fr.length) = valN (fr ++ [UInt8.ofNat (q.toNat % 128)]) := by
  rw [valG_upto _ _ _ (Nat.le_refl _), Nat.sub_self, List.drop_zero, valN_append]
  show _ = valN fr + 256 ^ fr.length * ((UInt8.ofNat (q.toNat % 128)).toNat + 256 * 0)
  rw [to_lo, Nat.mul_zero, Nat.add_zero]

theorem cell_al {W : World} {p : Addr} {v : Value} (o : Obj) (h : W.cell? p = some v) : (W.alloc o).cell? p = some v :=
  (((Below.refl W.heap.size W).alloc (Nat.le_refl _) o).cell (World.block_lt_of_cell? _ _ h)).trans h
theorem frozen_al {W : World} {p : Addr} {v : Value} (o : Obj) (h : W.cell? p = some v) (hf : W.frozen? p = false) : (W.alloc o).frozen? p = false :=
  (((Below.refl W.heap.size W).alloc (Nat.le_refl _) o).frozen (World.block_lt_of_cell? _ _ h)).trans hf

theorem backw_any (a : Option Addr) (len cap : Nat) (w : World) :
    Calls Tryz.prog 103 #[.slice a len cap] w fun e w' => e = .returned (.func (.func 125) #[] #[.pointer (some ⟨w.heap.size, 0, none⟩)]) ∧ w' = w.alloc (.cells #[.slice a len cap] 23) :=
  (callsIn_wide (n := 3)).1 (backw_in Fence.wide 3 trivial rfl a len cap w)

end Go.Proofs.YtocblkacdoahfaaGreatDoor.Sn

/-
  script.FromNumber and the reference's. Conditions: sizes within the reach.
-/
namespace Go.Proofs.YtocblkacdoahfaaGreatDoor.Sn
open Go.RowKit

/-- What FromNumber answers: the number and the error. -/
def fromB (xs : List UInt8) (most : Int) : Int × Int :=
  if most < xs.length ∨ 8 < xs.length then (0, 2) else if xs = [] then (0, 0) else if fewest xs then (valS xs, 0) else (0, 3)

set_option maxRecDepth 100000 in
set_option maxHeartbeats 400000 in
theorem bequal_any (B B' : Nat) (x y : Value) (xs ys : List UInt8) (w : World) (hx : Byt w B x xs) (hy : Byt w B' y ys) :
    Calls Tryz.prog 46 #[x, y] w fun e w' => e = .returned (.bool (xs == ys)) ∧ w = w' := by
  have h1 := run_string_of (P := Tryz.prog) w 23 9 5 slice_u8 Tryz.underlying5 Tryz.underlying9 B x xs hx
  have h2 := run_string_of (P := Tryz.prog) w 23 9 5 slice_u8 Tryz.underlying5 Tryz.underlying9 B' y ys hy
  go_enter Tryz.func46, Tryz.ntmps46
  go_wp2
  go_ret
  exact ⟨rfl, rfl⟩

theorem valS_bd (xs : List UInt8) (h : xs.length ≤ 8) : -9223372036854775808 ≤ valS xs ∧ valS xs ≤ 9223372036854775807 := by
  rcases snoc_cases xs with rfl | ⟨fr, q, rfl⟩
  · rw [valS_nil]; omega
  · rw [List.length_append, List.length_cons, List.length_nil] at h
    by_cases hq : 128 ≤ q.toNat
    · rw [valS_hi hq]
      have := valN_last_lt (fr := fr) (x := UInt8.ofNat (q.toNat % 128)) (by omega) (by rw [to_lo]; omega)
      omega
    · rw [valS_lo (by omega)]
      have := valN_last_lt (fr := fr) (x := q) (by omega) (by omega)
      omega

end Go.Proofs.YtocblkacdoahfaaGreatDoor.Sn

/-
  The reference's FromNumber of layer 11. Conditions: sizes within the reach.
-/
namespace Go.Proofs.YtocblkacdoahfaaGreatDoor.Sn
open Go.RowKit

/-- The bytes with the sign taken off. -/
def bare (fr : List UInt8) (q : UInt8) : List UInt8 := fr ++ [UInt8.ofNat (q.toNat % 128)]
theorem bare_length (fr : List UInt8) (q : UInt8) : (bare fr q).length = fr.length + 1 := by simp [bare]
theorem bare_drop {fr : List UInt8} {q : UInt8} {k : Nat} (h : k < fr.length) : valN ((bare fr q).drop k) = valN ((bare fr q).drop (k + 1)) * 256 + (fr[k]).toNat := by
  rw [List.drop_eq_getElem_cons (by rw [bare_length]; omega)]
  show ((bare fr q)[k]'(by rw [bare_length]; omega)).toNat + 256 * valN ((bare fr q).drop (k + 1)) = _
  have : (bare fr q)[k]'(by rw [bare_length]; omega) = fr[k] := by unfold bare; exact List.getElem_append_left h
  rw [this]
  omega
theorem bare_last (fr : List UInt8) (q : UInt8) : valN ((bare fr q).drop fr.length) = q.toNat % 128 := by
  unfold bare
  rw [List.drop_append_of_le_length (Nat.le_refl _), List.drop_length]
  show (UInt8.ofNat (q.toNat % 128)).toNat + 256 * 0 = _
  rw [to_lo]
  omega
theorem bare_end (fr : List UInt8) (q : UInt8) : valN ((bare fr q).drop (fr.length + 1)) = 0 := by rw [List.drop_eq_nil_of_le (by rw [bare_length]; exact Nat.le_refl _)]; rfl
theorem bare_lt {fr : List UInt8} {q : UInt8} {k : Nat} (hl : fr.length ≤ 7) (h : 0 < k) : valN ((bare fr q).drop k) < 72057594037927936 := by
  have h1 := valN_lt ((bare fr q).drop k)
  rw [List.length_drop, bare_length] at h1
  have h2 : 256 ^ (fr.length + 1 - k) ≤ 256 ^ 7 := Nat.pow_le_pow_right (by decide) (by omega)
  have h3 : (256 : Nat) ^ 7 = 72057594037927936 := by decide
  omega

end Go.Proofs.YtocblkacdoahfaaGreatDoor.Sn
