/-
  What the writer's functions do, said of bytes in memory. Conditions: sizes within the reach.
-/
import Derived.Test.YtadgaeokiolmmaaBase
namespace Go.Proofs.Ytadgaeokiolmmaa
open Go.RowKit

/-- The row of the table for a byte. -/
theorem info_u8 : (Try.prog.info? 5).map (fun i => (i.zero, i.size, i.bytes)) = some (some (.int .u8 0), 1, 1) := by kernel_rfl
theorem slice_u8 : Try.prog.underlying 22 = some (.slice 5) := Try.underlying22

/-- A writer at block g: it has written xs, in a row of its own from base on. -/
def Wr (w : World) (g base : Nat) (v : Value) (xs : List UInt8) : Prop :=
  w.heap[g]? = some (.cells #[v] 79 (0, 0)) ∧ w.ownsRow base 5 1 v xs.length (xs.map bv)

theorem Wr.cell {w : World} {g base : Nat} {v : Value} {xs : List UInt8} (h : Wr w g base v xs) : w.cell? ⟨g, 0, none⟩ = some v := cell_of_row w g 0 _ _ _ h.1
theorem Wr.free {w : World} {g base : Nat} {v : Value} {xs : List UInt8} (h : Wr w g base v xs) : w.frozen? ⟨g, 0, none⟩ = false := by
  have h1 := h.1
  simp [World.frozen?, h1]
theorem Wr.lt {w : World} {g base : Nat} {v : Value} {xs : List UInt8} (h : Wr w g base v xs) : g < w.heap.size := (Array.getElem?_eq_some_iff.1 h.1).1
theorem Wr.other {w : World} {g base : Nat} {v : Value} {xs : List UInt8} (h : Wr w g base v xs) : v.ownBlock ≠ some g := own_block_other h.2 h.1 (by decide)
theorem Wr.turns {S : Nat → Prop} {w w' : World} {g base : Nat} {v : Value} {xs : List UInt8} (h : Wr w g base v xs) (ht : Turns S w w') (hg : ¬ S g) (hS : ∀ k, v.ownBlock = some k → ¬ S k) : Wr w' g base v xs :=
  ⟨(ht.block g h.lt hg).trans h.1, own_turns h.2 ht hS⟩

/-- One step of a writer: it has written zs in all behind it; only its own blocks have turned. -/
def WrStep (w : World) (g base : Nat) (v : Value) (zs : List UInt8) (w' : World) : Prop :=
  ∃ v', Wr w' g base v' zs ∧ Turns (fun k => k = g ∨ v.ownBlock = some k) w w' ∧ (v'.ownBlock = v.ownBlock ∨ ∃ k, v'.ownBlock = some k ∧ w.heap.size ≤ k)
def WrPost (w : World) (g base : Nat) (v : Value) (zs : List UInt8) (e : Ending) (w' : World) : Prop := e = .returned (.tuple #[]) ∧ WrStep w g base v zs w'

theorem WrStep.pre {w w1 w2 : World} {g base : Nat} {v : Value} {zs : List UInt8} (ht : Turns (fun _ => False) w w1) (h : WrStep w1 g base v zs w2) : WrStep w g base v zs w2 := by
  obtain ⟨v', h1, h2, h3⟩ := h
  refine ⟨v', h1, ?_, ?_⟩
  · refine (ht.mono (fun _ _ h => h.elim)).trans h2 (fun _ _ h => h)
  · rcases h3 with h3 | ⟨k, hk, hs⟩
    · exact .inl h3
    · exact .inr ⟨k, hk, Nat.le_trans ht.size hs⟩

theorem WrStep.next {w w1 w2 : World} {g base : Nat} {v v1 : Value} {zs : List UInt8} (ht : Turns (fun k => k = g ∨ v.ownBlock = some k) w w1) (hv : v1.ownBlock = v.ownBlock ∨ ∃ k, v1.ownBlock = some k ∧ w.heap.size ≤ k)
    (h : WrStep w1 g base v1 zs w2) : WrStep w g base v zs w2 := by
  obtain ⟨v', h1, h2, h3⟩ := h
  refine ⟨v', h1, ht.trans h2 (fun i hi hs => ?_), ?_⟩
  · rcases hs with hs | hs
    · exact .inl hs
    · rcases hv with hv | ⟨k, hk, hle⟩
      · exact .inr (hv ▸ hs)
      · rw [hk] at hs
        injection hs with hs
        omega
  · rcases h3 with h3 | ⟨k, hk, hs⟩
    · rw [h3]
      exact hv
    · exact .inr ⟨k, hk, Nat.le_trans ht.size hs⟩

/-- How many bytes a compact size takes. -/
def sizeLen (n : Int) : Int := if n < 253 then 1 else if n < 65536 then 3 else if n < 4294967296 then 5 else 9

theorem raw_close {w w1 : World} {g base : Nat} {v v1 : Value} {xs ys : List UInt8} (hw : Wr w g base v xs)
    (hown1 : w1.ownsRow base 5 1 v1 (xs.length + ys.length) (xs.map bv ++ ys.map bv)) (hg1 : w.grownBy w1 v.ownBlock) (hat1 : v1.ownBlock = v.ownBlock ∨ v1.ownBlock = some w.heap.size) :
    WrStep w g base v (xs ++ ys) (w1.setCell ⟨g, 0, none⟩ v1) := by
  have hh : w1.heap[g]? = some (.cells #[v] 79 (0, 0)) := (hg1.block g hw.lt (fun e => hw.other e.symm)).trans hw.1
  have hne : v1.ownBlock ≠ some g := own_block_other hown1 hh (by decide)
  refine ⟨v1, ⟨?_, ?_⟩, ?_, ?_⟩
  · simp [World.setCell, Array.getElem?_modify, hh]
  · have := own_turns hown1 ((Turns.refl (fun k => k = g) w1).setCell (p := ⟨g, 0, none⟩) (fun _ => rfl) v1) (fun k hk e => hne (e ▸ hk))
    simpa using this
  · exact ((Turns.refl (fun k => k = g ∨ v.ownBlock = some k) w).grown hg1 (fun k hk _ => .inr hk)).setCell (p := ⟨g, 0, none⟩) (fun _ => .inl rfl) v1
  · rcases hat1 with h | h
    · exact .inl h
    · exact .inr ⟨_, h, Nat.le_refl _⟩

set_option maxHeartbeats 400000 in
theorem raw_any (g base B : Nat) (v x : Value) (xs ys : List UInt8) (w : World) (hw : Wr w g base v xs) (hr : Byt w B x ys) (hlen : xs.length + ys.length ≤ 60000000) (hbase : base ≤ w.heap.size) :
    Calls Try.prog 54 #[.pointer (some ⟨g, 0, none⟩), x] w (WrPost w g base v (xs ++ ys)) := by
  obtain ⟨i0, hi, hz0, hz1, hz2⟩ := info_parts info_u8
  have hc := hw.cell
  have hoth := Lib.hid hw.other
  go_enter Try.func54, Try.ntmps54
  go_wp2_with (at_builtin; refine wpList_append_bytes rfl (.tmp 8) (.tmp 9) 22 rfl base 5 i0 slice_u8 hi hz0 hz1 hz2 v xs.length (xs.map bv) rfl hw.2 B x ys rfl hr (by omega) hbase ?_; intro v1 w1 hown1 hg1 hat1; obtain ⟨A1, c1, rfl⟩ := own_form hown1; have hg2 := hg1.block g hw.lt (fun e => hoth.out e.symm); have hc1 : w1.cell? ⟨g, 0, none⟩ = some v := (World.cell?_of_block (w := w) hg2).trans hc; have hf1 : w1.frozen? ⟨g, 0, none⟩ = false := (World.frozen?_of_block (w := w) hg2).trans hw.free)
  go_end0
  exact ⟨rfl, raw_close hw hown1 hg1 hat1⟩

theorem Wr.alloc {w : World} {g base : Nat} {v : Value} {xs : List UInt8} (h : Wr w g base v xs) (o : Obj) : Wr (w.alloc o) g base v xs :=
  h.turns ((Turns.refl (fun _ => False) w).alloc o) (fun h => h) (fun _ _ h => h)

/-- Raw of bytes that have just been laid. -/
theorem raw_lit (g base : Nat) (v : Value) (xs ys : List UInt8) (l : List Value) (w : World) (hw : Wr w g base v xs) (hl : l = ys.map bv) (hlen : xs.length + ys.length ≤ 60000000) (hbase : base ≤ w.heap.size) :
    Calls Try.prog 54 #[.pointer (some ⟨g, 0, none⟩), .slice (some ⟨w.heap.size, 0, none⟩) ys.length ys.length] (w.alloc (.cells l.toArray 5)) (WrPost w g base v (xs ++ ys)) :=
  (raw_any g base (w.heap.size + 1) v _ xs ys _ (hw.alloc _) (Byt.made w _ l ys hl (by unfold maxLen; omega)) hlen (by simp; omega)).mono
    fun _ _ ⟨he, hs⟩ => ⟨he, WrStep.pre ((Turns.refl _ _).alloc _) hs⟩

set_option maxHeartbeats 400000 in
theorem u8_any (g base : Nat) (v : Value) (n : Int) (xs : List UInt8) (w : World) (h0 : 0 ≤ n) (h1 : n < 256) (hw : Wr w g base v xs) (hlen : xs.length ≤ 50000000) (hbase : base ≤ w.heap.size) :
    Calls Try.prog 51 #[.pointer (some ⟨g, 0, none⟩), .int .u8 n] w (WrPost w g base v (xs ++ [b8 n])) := by
  have hl : [Value.int .u8 n] = [b8 n].map bv := by simp [bv_b8_of h0 h1]
  have HL := Lib.hid hl; clear hl
  go_enter Try.func51, Try.ntmps51
  go_wp2_with fail
  refine (raw_lit g base v xs [b8 n] _ w hw HL.out (by simp; omega) hbase).mono ?_
  rintro e w' ⟨rfl, hs⟩
  go_wp2
  go_end0
  exact ⟨rfl, hs⟩

set_option maxHeartbeats 400000 in
theorem u16_any (g base : Nat) (v : Value) (n : Int) (xs : List UInt8) (w : World) (h0 : 0 ≤ n) (h1 : n < 65536) (hw : Wr w g base v xs) (hlen : xs.length ≤ 50000000) (hbase : base ≤ w.heap.size) :
    Calls Try.prog 52 #[.pointer (some ⟨g, 0, none⟩), .int .u16 n] w (WrPost w g base v (xs ++ low n 2)) := by
  have hl : [Value.int .u8 (n % 256), Value.int .u8 (n / 256)] = (low n 2).map bv := by simp [low, bv_b8]; omega
  have HL := Lib.hid hl; clear hl
  go_enter Try.func52, Try.ntmps52
  go_wp2_with fail
  refine (raw_lit g base v xs (low n 2) _ w hw HL.out (by simp [low_length]; omega) hbase).mono ?_
  rintro e w' ⟨rfl, hs⟩
  go_wp2
  go_end0
  exact ⟨rfl, hs⟩

set_option maxHeartbeats 400000 in
theorem u32_any (g base : Nat) (v : Value) (n : Int) (xs : List UInt8) (w : World) (h0 : 0 ≤ n) (h1 : n < 4294967296) (hw : Wr w g base v xs) (hlen : xs.length ≤ 50000000) (hbase : base ≤ w.heap.size) :
    Calls Try.prog 53 #[.pointer (some ⟨g, 0, none⟩), .int .u32 n] w (WrPost w g base v (xs ++ low n 4)) := by
  have hl : [Value.int .u8 (n % 256), Value.int .u8 (n / 256 % 256), Value.int .u8 (n / 65536 % 256), Value.int .u8 (n / 16777216)] = (low n 4).map bv := by simp [low, bv_b8]; omega
  have HL := Lib.hid hl; clear hl
  go_enter Try.func53, Try.ntmps53
  go_wp2_with fail
  refine (raw_lit g base v xs (low n 4) _ w hw HL.out (by simp [low_length]; omega) hbase).mono ?_
  rintro e w' ⟨rfl, hs⟩
  go_wp2
  go_end0
  exact ⟨rfl, hs⟩


theorem b8_congr {a b : Int} (h : a % 256 = b % 256) : b8 a = b8 b := by unfold b8; rw [h]
theorem cons_congr {a b : UInt8} {l m : List UInt8} (h : a = b) (k : l = m) : a :: l = b :: m := by rw [h, k]
theorem low_eight (n : Int) : low n 8 = low (n % 4294967296) 4 ++ low (n / 4294967296) 4 := by
  simp only [low, List.cons_append, List.nil_append]
  refine cons_congr (b8_congr (by omega)) (cons_congr (b8_congr (by omega)) (cons_congr (b8_congr (by omega)) (cons_congr (b8_congr (by omega)) (cons_congr (b8_congr (by omega)) (cons_congr (b8_congr (by omega)) (cons_congr (b8_congr (by omega)) (cons_congr (b8_congr (by omega)) rfl)))))))

/-- A compact size's bytes. -/
def sizeB (n : Int) : List UInt8 :=
  if n < 253 then [b8 n] else if n < 65536 then b8 253 :: low n 2 else if n < 4294967296 then b8 254 :: low n 4 else b8 255 :: low n 8
theorem sizeB_length (n : Int) : ((sizeB n).length : Int) = sizeLen n := by
  unfold sizeB sizeLen
  split
  · rfl
  split
  · simp [low_length]
  split <;> simp [low_length]
theorem sizeB_le (n : Int) : (sizeB n).length ≤ 9 := by
  unfold sizeB
  split
  · simp
  split
  · simp [low_length]
  split <;> simp [low_length]

theorem Byt.form {w : World} {B : Nat} {v : Value} {xs : List UInt8} (h : Byt w B v xs) : ∃ A c, v = .slice A xs.length c := by
  obtain ⟨A, c, hv, _⟩ := h
  exact ⟨A, c, hv⟩

end Go.Proofs.Ytadgaeokiolmmaa
