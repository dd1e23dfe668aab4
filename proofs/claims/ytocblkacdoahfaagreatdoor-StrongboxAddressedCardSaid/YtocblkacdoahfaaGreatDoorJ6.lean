/-
  Texts joined: SnRef, SnTruth, Backw. Conditions: those of each.
-/
import Derived.Test.YtocblkacdoahfaaGreatDoorJ5
import Derived.RangeFuncNested
import Derived.RangeFuncBound
import Derived.RangeFuncCalls
import Derived.RangeFuncLeaves
import Derived.RangeFuncBox
import Derived.Shelf.Abstract
import Derived.Shelf.RegionOpen
import Derived.OwnWalkIn
import Derived.TacticsInMore
import Derived.LoopNIn
import Derived.LoopIn
import Derived.Test.YtocblkacdoahfaaGreatDoorJ1
/-
  The reference's Number of layer 11. Conditions: none.
-/
namespace Go.Proofs.YtocblkacdoahfaaGreatDoor.Sn
open Go.RowKit

end Go.Proofs.YtocblkacdoahfaaGreatDoor.Sn

/-
  script.Truth and the reference's. Conditions: sizes within the reach.
-/
namespace Go.Proofs.YtocblkacdoahfaaGreatDoor.Sn
open Go.RowKit

/-- Is there one among these bytes, at the index that is answered? -/
def Found (w : World) (xs : List UInt8) (e : Ending) (w' : World) : Prop := ∃ i : Int, e = .returned (.int .i64 i) ∧ decide (0 ≤ i) = xs.any (· != 0) ∧ w = w'

theorem any_take {xs : List UInt8} {k : Nat} (h : k < xs.length) : (xs.take (k + 1)).any (· != 0) = ((xs.take k).any (· != 0) || xs[k] != 0) := by
  rw [List.take_succ_eq_append_getElem h, List.any_append]
  simp

theorem truth_at {xs : List UInt8} {k : Nat} (h : k < xs.length) (h0 : xs[k] ≠ 0) (h1 : xs[k] = 128 → k + 1 < xs.length) : truthB xs = true := by
  rcases snoc_cases xs with rfl | ⟨fr, q, rfl⟩
  · simp at h
  · rw [List.length_append, List.length_cons, List.length_nil, Nat.zero_add] at h h1
    by_cases hk : k < fr.length
    · rw [List.getElem_append_left hk] at h0
      have ha : fr.any (· != 0) = true := List.any_eq_true.2 ⟨fr[k], List.getElem_mem hk, by simpa using h0⟩
      by_cases hq : q = 128
      · subst hq; rw [truth_sign, ha]
      · rw [truth_plain hq, ha]; rfl
    · obtain rfl : k = fr.length := by omega
      have e : (fr ++ [q])[fr.length]'(by simp) = q := by simp
      rw [e] at h0 h1
      have hq : q ≠ 128 := fun hq => by have := h1 hq; omega
      rw [truth_plain hq, show (q != 0) = true by simpa using h0, Bool.or_true]
theorem truth_none {xs : List UInt8} (h : ∀ k (hk : k < xs.length), xs[k] = 0 ∨ (xs[k] = 128 ∧ k + 1 = xs.length)) : truthB xs = false := by
  rcases snoc_cases xs with rfl | ⟨fr, q, rfl⟩
  · rfl
  · have ha : fr.any (· != 0) = false := by
      rw [List.any_eq_false]
      intro c hc
      obtain ⟨k, hk, e⟩ := List.getElem_of_mem hc
      have h2 := h k (by simp; omega)
      rw [List.getElem_append_left hk, e] at h2
      rcases h2 with h2 | ⟨_, h2⟩
      · simp [h2]
      · simp at h2; omega
    have h2 := h fr.length (by simp)
    have e : (fr ++ [q])[fr.length]'(by simp) = q := by simp
    rw [e] at h2
    rcases h2 with h2 | ⟨h2, _⟩
    · subst h2; rw [truth_plain (by decide), ha]; rfl
    · subst h2; rw [truth_sign, ha]
theorem nz_int {q : UInt8} (h : q ≠ 0) : ((q.toNat : Int) != 0) = true := by
  have : q.toNat ≠ 0 := fun e => h (u8_ext e)
  simp only [bne_iff_ne, ne_eq]
  omega
theorem eq128_int {q : UInt8} (h : q ≠ 128) : ((q.toNat : Int) == 128) = false := by
  have : q.toNat ≠ 128 := fun e => h (u8_ext e)
  simp only [beq_eq_false_iff_ne, ne_eq]
  omega

end Go.Proofs.YtocblkacdoahfaaGreatDoor.Sn

/-
  slices.Backward over bytes: the library's iterator hands out each index with its byte, the last one first, to every loop body that keeps what lay ahead of it. Conditions: none.
-/
namespace Go.Proofs.YtocblkacdoahfaaGreatDoor
open Go.RowKit Go.Shelf

attribute [local go_sem] Oper.semAt_some

/-- What has come when k rounds are over: f 0, .., f (k - 1). -/
def upto {α : Type} (f : Nat → α) (k : Nat) : List α := (List.range k).map f
theorem upto_succ {α : Type} (f : Nat → α) (k : Nat) : upto f (k + 1) = upto f k ++ [f k] := by simp [upto, List.range_succ]
/-- The blocks of S lie as they lay. -/
def Holds (S : Nat → Prop) (A B : World) : Prop := ∀ k, S k → B.heap[k]? = A.heap[k]?
theorem Holds.refl (S : Nat → Prop) (A : World) : Holds S A A := fun _ _ => rfl
theorem Holds.trans {S : Nat → Prop} {A B C : World} (h : Holds S A B) (k : Holds S B C) : Holds S A C := fun i hi => (k i hi).trans (h i hi)
theorem Holds.cell {S : Nat → Prop} {A B : World} (h : Holds S A B) {p : Addr} (hp : S p.block) : B.cell? p = A.cell? p := World.cell?_of_block (w := A) (h p.block hp)
theorem Holds.of_below {S : Nat → Prop} {n : Nat} {A B : World} (h : Below n A B) (hS : ∀ k, S k → k < n) : Holds S A B := fun k hk => h.block k (hS k hk)
theorem Holds.setCell {S : Nat → Prop} {A B : World} (h : Holds S A B) {p : Addr} (hp : ¬ S p.block) (u : Value) : Holds S A (B.setCell p u) :=
  fun k hk => (Below.heap_setCell _ _ _ _ (by rintro rfl; exact hp hk)).trans (h k hk)
theorem Holds.putObj {S : Nat → Prop} (W : World) (l : Nat) (o : Obj) (hl : ¬ S l) : Holds S W (W.putObj l o) := fun k hk => by
  have hne : l ≠ k := by rintro rfl; exact hl hk
  simp [World.putObj, hne]
theorem upto_length {α : Type} (f : Nat → α) (k : Nat) : (upto f k).length = k := by simp [upto]

/-- The j-th that comes, of bytes from the end on. -/
def fromEnd (bs : List UInt8) (j : Nat) : Nat × UInt8 := (bs.length - 1 - j, bs[bs.length - 1 - j]?.getD 0)

set_option maxRecDepth 100000 in
set_option maxHeartbeats 2000000 in
theorem backw1_in (F : Fence) (n : Nat) (hf : F.fn 125) (hro : F.round = none) (hn : 1 ≤ n) (l Bs B : Nat) (S : Nat → Prop) (v : Value) (bs : List UInt8) (J Jx : List (Nat × UInt8) → World → Prop)
    (hY : ∀ pre x W, J pre W → pre.length < bs.length → YieldAt F (n - 1) Tryz.prog l #[.int .i64 (x.1 : Int), .int .u8 (x.2.toNat : Int)] W fun e W' =>
      (e = .returned (.bool true) ∧ J (pre ++ [x]) W' ∧ Holds S W W') ∨ (e = .returned (.bool false) ∧ Jx (pre ++ [x]) W'))
    (W : World) (hBs : W.cell? ⟨Bs, 0, none⟩ = some v) (hBn : S Bs) (hv : Byt W B v bs) (hSv : ∀ k, v.ownBlock = some k → S k) (h0 : J [] W) :
    CallsIn F n Tryz.prog 125 #[.func (.yield l) #[] #[], .pointer (some ⟨Bs, 0, none⟩)] W fun e W' => (∃ v, e = .returned v) ∧
      ((∃ ys, ys = upto (fromEnd bs) bs.length ∧ J ys W') ∨ (∃ pre, (∃ k, k ≤ bs.length ∧ pre = upto (fromEnd bs) k) ∧ Jx pre W')) := by
  have hlen := hv.len
  unfold maxLen at hlen
  obtain ⟨A, c, rfl, _, _, _, hx⟩ := hv
  have HX := Lib.hid hx
  clear hx
  refine callsIn_of_wp Tryz.func125 rfl hf ?_ hro
  simp only [Tryz.ntmps125, List.size_toArray, List.length_cons, List.length_nil, Nat.reduceAdd, Nat.reduceSub, Array.replicate_succ, Array.replicate_zero, List.push_toArray, List.append_toArray, List.nil_append, List.cons_append]
  gi_wp2
  gi_loopw [3] (fun i wr => ∃ k : Nat, k ≤ bs.length ∧ i = .int .i64 ((bs.length : Int) - 1 - k) ∧ J (upto (fromEnd bs) k) wr ∧ Holds S W wr)
    (fun i _ => (intOf i + 1).toNat)
  case atStart => exact ⟨0, Nat.zero_le _, by simp, h0, Holds.refl _ _⟩
  case round =>
    obtain ⟨k, hk, rfl, hJs, hnx⟩ := hrel
    have hbx : wr.cell? ⟨Bs, 0, none⟩ = some (.slice A bs.length c) := (hnx.cell (p := ⟨Bs, 0, none⟩) hBn).trans hBs
    by_cases hlt : k < bs.length
    · obtain ⟨m, hm⟩ : ∃ m : Nat, m = bs.length - 1 - k := ⟨_, rfl⟩
      have ei : (bs.length : Int) - 1 - (k : Int) = (m : Int) := by omega
      have hml : m < bs.length := by omega
      obtain ⟨b, o, rfl, hb, hc⟩ := HX.out (by rintro rfl; simp at hlt)
      have hcell : wr.cell? ⟨b, o + m, none⟩ = some (bv bs[m]) := (hnx.cell (p := ⟨b, o + m, none⟩) (hSv b rfl)).trans (hc m _ (List.getElem?_eq_getElem hml))
      have hfe : fromEnd bs k = (m, bs[m]) := by unfold fromEnd; rw [← hm, List.getElem?_eq_getElem hml]; rfl
      obtain ⟨fn, tmps, assign, body, hy, hR⟩ := hY _ (m, bs[m]) wr hJs (by rw [upto_length]; exact hlt)
      obtain ⟨z, hz⟩ : ∃ z, z = bs[m] := ⟨_, rfl⟩
      rw [← hz] at hcell hfe hy hR
      dsimp only at hy
      unfold bv at hcell
      have HFE := Lib.hid hfe
      have HM := Lib.hid hm
      have EI := Lib.hid ei
      rw [ei]
      clear hz hfe hm hc ei
      gi_wp2
      refine hR.mono ?_
      rintro e W3 (⟨rfl, hJ3, hk3⟩ | ⟨rfl, hJx3⟩)
      · gi_wp2
        go_roundw
        case rel => exact ⟨k + 1, by omega, by congr 1; have := EI.out; omega, by rw [upto_succ, HFE.out]; exact hJ3, hnx.trans hk3⟩
        case measure => simp [intOf]
      · gi_wp2
        refine bodyPost_ret (results_none rfl _ _ _) rfl ?_
        exact ⟨⟨_, rfl⟩, .inr ⟨_, ⟨k + 1, by omega, by rw [upto_succ, HFE.out]⟩, hJx3⟩⟩
    · obtain rfl : k = bs.length := by omega
      gi_wp2
      go_end0
      exact ⟨⟨_, rfl⟩, .inl ⟨_, rfl, hJs⟩⟩

set_option maxHeartbeats 1000000 in
/-- slices.Backward(s): the slice value is boxed; the function value captures the box. -/
theorem backw_in (F : Fence) (n : Nat) (hf : F.fn 103) (hro : F.round = none) (a : Option Addr) (len cap : Nat) (w : World) :
    CallsIn F n Tryz.prog 103 #[.slice a len cap] w fun e w' => e = .returned (.func (.func 125) #[] #[.pointer (some ⟨w.heap.size, 0, none⟩)]) ∧ w' = w.alloc (.cells #[.slice a len cap] 23) := by
  refine callsIn_of_wp Tryz.func103 rfl hf ?_ hro
  simp only [Tryz.ntmps103, List.size_toArray, List.length_cons, List.length_nil, Nat.reduceAdd, Nat.reduceSub, Array.replicate_succ, Array.replicate_zero, List.push_toArray, List.append_toArray, List.nil_append, List.cons_append]
  gi_wp2
  go_ret
  exact ⟨rfl, rfl⟩

/-- What slices.Backward hands back: all bytes from the end on; or the first k of them. -/
theorem backw_stops (F : Fence) (n : Nat) (hf : F.fn 125) (hro : F.round = none) (hn : 1 ≤ n) (Bs B : Nat) (S : Nat → Prop) (v : Value) (bs : List UInt8) (w : World) (hBs : S Bs) (hBw : Bs < w.heap.size) (hB : B ≤ w.heap.size) (hSv : ∀ k, v.ownBlock = some k → S k)
    (hc : w.cell? ⟨Bs, 0, none⟩ = some v) (hv : Byt w B v bs) :
    SeqStopsK F n Tryz.prog 125 #[.pointer (some ⟨Bs, 0, none⟩)] (fun x : Nat × UInt8 => #[Value.int .i64 (x.1 : Int), Value.int .u8 (x.2.toNat : Int)]) (Holds S) (fun ys => ys = upto (fromEnd bs) bs.length) (fun pre => ∃ k, k ≤ bs.length ∧ pre = upto (fromEnd bs) k) bs.length w := fun l J Jx W hW _ _ hY h0 => by
  have hc' := (hW.cell (p := ⟨Bs, 0, none⟩) hBw).trans hc
  exact backw1_in F n hf hro hn l Bs B S v bs J Jx hY W hc' hBs (hv.keep fun b o hb => hW.cell (p := ⟨b, o, none⟩) (by show b < _; omega)) hSv h0
end Go.Proofs.YtocblkacdoahfaaGreatDoor
