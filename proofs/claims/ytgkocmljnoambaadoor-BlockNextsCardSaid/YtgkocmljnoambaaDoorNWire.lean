/-
  What a writer's functions do, as far as a head's bytes need them. Conditions: sizes within the reach.
-/
import Derived.Test.YtgkocmljnoambaaDoorNBits
namespace Go.Proofs.YtgkocmljnoambaaDoor
open Go.RowKit

/-- A writer at block g: it has written xs, in a row of its own from base on. -/
def Wr (w : World) (g base : Nat) (v : Value) (xs : List UInt8) : Prop :=
  w.heap[g]? = some (.cells #[v] 65 (0, 0)) ∧ w.ownsRow base 5 1 v xs.length (xs.map bv)

theorem Wr.cell {w : World} {g base : Nat} {v : Value} {xs : List UInt8} (h : Wr w g base v xs) : w.cell? ⟨g, 0, none⟩ = some v := cell_of_row w g 0 _ _ _ h.1
theorem Wr.free {w : World} {g base : Nat} {v : Value} {xs : List UInt8} (h : Wr w g base v xs) : w.frozen? ⟨g, 0, none⟩ = false := by
  have h1 := h.1
  simp [World.frozen?, h1]
theorem Wr.lt {w : World} {g base : Nat} {v : Value} {xs : List UInt8} (h : Wr w g base v xs) : g < w.heap.size := (Array.getElem?_eq_some_iff.1 h.1).1
theorem Wr.other {w : World} {g base : Nat} {v : Value} {xs : List UInt8} (h : Wr w g base v xs) : v.ownBlock ≠ some g := own_block_other h.2 h.1 (by decide)
theorem Wr.turns {S : Nat → Prop} {w w' : World} {g base : Nat} {v : Value} {xs : List UInt8} (h : Wr w g base v xs) (ht : Turns S w w') (hg : ¬ S g) (hS : ∀ k, v.ownBlock = some k → ¬ S k) : Wr w' g base v xs :=
  ⟨(ht.block g h.lt hg).trans h.1, own_turns h.2 ht hS⟩

/-- One step of a writer: it has written zs in all behind it; only its own blocks have turned. -/
def WrStep (w : World) (g base : Nat) (v : Value) (zs : List UInt8) (w' : World) : Prop :=
  ∃ v', Wr w' g base v' zs ∧ Turns (fun k => k = g ∨ v.ownBlock = some k) w w' ∧ (v'.ownBlock = v.ownBlock ∨ ∃ k, v'.ownBlock = some k ∧ w.heap.size ≤ k)
def WrPost (w : World) (g base : Nat) (v : Value) (zs : List UInt8) (e : Ending) (w' : World) : Prop := e = .returned (.tuple #[]) ∧ WrStep w g base v zs w'

theorem WrStep.pre {w w1 w2 : World} {g base : Nat} {v : Value} {zs : List UInt8} (ht : Turns (fun _ => False) w w1) (h : WrStep w1 g base v zs w2) : WrStep w g base v zs w2 := by
  obtain ⟨v', h1, h2, h3⟩ := h
  refine ⟨v', h1, ?_, ?_⟩
  · refine (ht.mono (fun _ _ h => h.elim)).trans h2 (fun _ _ h => h)
  · rcases h3 with h3 | ⟨k, hk, hs⟩
    · exact .inl h3
    · exact .inr ⟨k, hk, Nat.le_trans ht.size hs⟩

theorem WrStep.next {w w1 w2 : World} {g base : Nat} {v v1 : Value} {zs : List UInt8} (ht : Turns (fun k => k = g ∨ v.ownBlock = some k) w w1) (hv : v1.ownBlock = v.ownBlock ∨ ∃ k, v1.ownBlock = some k ∧ w.heap.size ≤ k)
    (h : WrStep w1 g base v1 zs w2) : WrStep w g base v zs w2 := by
  obtain ⟨v', h1, h2, h3⟩ := h
  refine ⟨v', h1, ht.trans h2 (fun i hi hs => ?_), ?_⟩
  · rcases hs with hs | hs
    · exact .inl hs
    · rcases hv with hv | ⟨k, hk, hle⟩
      · exact .inr (hv ▸ hs)
      · rw [hk] at hs
        injection hs with hs
        omega
  · rcases h3 with h3 | ⟨k, hk, hs⟩
    · rw [h3]
      exact hv
    · exact .inr ⟨k, hk, Nat.le_trans ht.size hs⟩

theorem raw_close {w w1 : World} {g base : Nat} {v v1 : Value} {xs ys : List UInt8} (hw : Wr w g base v xs)
    (hown1 : w1.ownsRow base 5 1 v1 (xs.length + ys.length) (xs.map bv ++ ys.map bv)) (hg1 : w.grownBy w1 v.ownBlock) (hat1 : v1.ownBlock = v.ownBlock ∨ v1.ownBlock = some w.heap.size) :
    WrStep w g base v (xs ++ ys) (w1.setCell ⟨g, 0, none⟩ v1) := by
  have hh : w1.heap[g]? = some (.cells #[v] 65 (0, 0)) := (hg1.block g hw.lt (fun e => hw.other e.symm)).trans hw.1
  have hne : v1.ownBlock ≠ some g := own_block_other hown1 hh (by decide)
  refine ⟨v1, ⟨?_, ?_⟩, ?_, ?_⟩
  · simp [World.setCell, Array.getElem?_modify, hh]
  · have := own_turns hown1 ((Turns.refl (fun k => k = g) w1).setCell (p := ⟨g, 0, none⟩) (fun _ => rfl) v1) (fun k hk e => hne (e ▸ hk))
    simpa using this
  · exact ((Turns.refl (fun k => k = g ∨ v.ownBlock = some k) w).grown hg1 (fun k hk _ => .inr hk)).setCell (p := ⟨g, 0, none⟩) (fun _ => .inl rfl) v1
  · rcases hat1 with h | h
    · exact .inl h
    · exact .inr ⟨_, h, Nat.le_refl _⟩

set_option maxHeartbeats 400000 in
theorem raw_any (g base B : Nat) (v x : Value) (xs ys : List UInt8) (w : World) (hw : Wr w g base v xs) (hr : Byt w B x ys) (hlen : xs.length + ys.length ≤ 60000) (hbase : base ≤ w.heap.size) :
    Calls Tryd.prog 37 #[.pointer (some ⟨g, 0, none⟩), x] w (WrPost w g base v (xs ++ ys)) := by
  obtain ⟨i0, hi, hz0, hz1, hz2⟩ := info_parts info_u8
  have hc := hw.cell
  have hoth := Lib.hid hw.other
  go_enter Tryd.func37, Tryd.ntmps37
  go_wp2_with (at_builtin; refine wpList_append_bytes rfl (.tmp 8) (.tmp 9) 44 rfl base 5 i0 slice_u8 hi hz0 hz1 hz2 v xs.length (xs.map bv) rfl hw.2 B x ys rfl hr (by omega) hbase ?_; intro v1 w1 hown1 hg1 hat1; obtain ⟨A1, c1, rfl⟩ := own_form hown1; have hg2 := hg1.block g hw.lt (fun e => hoth.out e.symm); have hc1 : w1.cell? ⟨g, 0, none⟩ = some v := (World.cell?_of_block (w := w) hg2).trans hc; have hf1 : w1.frozen? ⟨g, 0, none⟩ = false := (World.frozen?_of_block (w := w) hg2).trans hw.free)
  go_end0
  exact ⟨rfl, raw_close hw hown1 hg1 hat1⟩

theorem Wr.alloc {w : World} {g base : Nat} {v : Value} {xs : List UInt8} (h : Wr w g base v xs) (o : Obj) : Wr (w.alloc o) g base v xs :=
  h.turns ((Turns.refl (fun _ => False) w).alloc o) (fun h => h) (fun _ _ h => h)

/-- Raw of bytes that have just been laid. -/
theorem raw_lit (g base : Nat) (v : Value) (xs ys : List UInt8) (l : List Value) (w : World) (hw : Wr w g base v xs) (hl : l = ys.map bv) (hlen : xs.length + ys.length ≤ 60000) (hbase : base ≤ w.heap.size) :
    Calls Tryd.prog 37 #[.pointer (some ⟨g, 0, none⟩), .slice (some ⟨w.heap.size, 0, none⟩) ys.length ys.length] (w.alloc (.cells l.toArray 5)) (WrPost w g base v (xs ++ ys)) :=
  (raw_any g base (w.heap.size + 1) v _ xs ys _ (hw.alloc _) (Byt.made w _ l ys hl (by unfold maxLen; omega)) hlen (by simp; omega)).mono
    fun _ _ ⟨he, hs⟩ => ⟨he, WrStep.pre ((Turns.refl _ _).alloc _) hs⟩

set_option maxHeartbeats 400000 in
theorem u32_any (g base : Nat) (v : Value) (n : Int) (xs : List UInt8) (w : World) (h0 : 0 ≤ n) (h1 : n < 4294967296) (hw : Wr w g base v xs) (hlen : xs.length ≤ 50000) (hbase : base ≤ w.heap.size) :
    Calls Tryd.prog 36 #[.pointer (some ⟨g, 0, none⟩), .int .u32 n] w (WrPost w g base v (xs ++ low n 4)) := by
  have hl : [Value.int .u8 (n % 256), Value.int .u8 (n / 256 % 256), Value.int .u8 (n / 65536 % 256), Value.int .u8 (n / 16777216)] = (low n 4).map bv := by simp [low, bv_b8]; omega
  have HL := Lib.hid hl; clear hl
  go_enter Tryd.func36, Tryd.ntmps36
  go_wp2_with fail
  refine (raw_lit g base v xs (low n 4) _ w hw HL.out (by simp [low_length]; omega) hbase).mono ?_
  rintro e w' ⟨rfl, hs⟩
  go_wp2
  go_end0
  exact ⟨rfl, hs⟩


/-- A call that hands back a new row of these bytes, and turns nothing that was there. -/
def Fresh (w : World) (xs : List UInt8) (e : Ending) (w' : World) : Prop :=
  ∃ A c, e = .returned (.slice A xs.length c) ∧ w'.ownsRow w.heap.size 5 1 (.slice A xs.length c) xs.length (xs.map bv) ∧ Below w.heap.size w w'

theorem fresh_of {w w' : World} {v : Value} {xs : List UInt8} (h : w'.ownsRow w.heap.size 5 1 v xs.length (xs.map bv)) (hb : Below w.heap.size w w') : Fresh w xs (.returned v) w' := by
  obtain ⟨A, c, rfl⟩ := own_form h
  exact ⟨A, c, rfl, h, hb⟩

set_option maxHeartbeats 400000 in
theorem clone_any (B : Nat) (x : Value) (xs : List UInt8) (w : World) (hr : Byt w B x xs) (hlen : xs.length ≤ 140737488355328) :
    Calls Tryd.prog 47 #[x] w (Fresh w xs) := by
  obtain ⟨i0, hi, hz0, hz1, hz2⟩ := info_parts info_u8
  obtain ⟨A, c, hx⟩ := hr.form
  subst hx
  rcases A with _ | ad
  · have hnil : xs = [] := by
      obtain ⟨A', c', e, _, _, hA, _⟩ := hr
      injection e with e1 e2 e3
      exact (hA e1.symm).1
    subst hnil
    have hq := Lib.run_eql_slice_nil (P := Tryd.prog) w 44 5 none 0 c 0 0 slice_u8
    go_enter Tryd.func47, Tryd.ntmps47
    go_wp2
    go_ret
    exact fresh_of (World.ownsRow_nil _ _ _ _) (Below.refl _ _)
  · have hq := Lib.run_eql_slice_nil (P := Tryd.prog) w 44 5 (some ad) xs.length c 0 0 slice_u8
    have hr1 : Byt (w.alloc (.cells #[] 5)) B (.slice (some ad) xs.length c) xs := by
      obtain ⟨A', c', e, h1, h2, h3, h4⟩ := hr
      refine ⟨A', c', e, h1, h2, h3, fun hne => ?_⟩
      obtain ⟨b, o, e1, hb, hc⟩ := h4 hne
      exact ⟨b, o, e1, hb, fun j u hu => cell_later (Below.alloc (Below.refl _ _) (Nat.le_refl _) _) (hc j u hu)⟩
    have hown : (w.alloc (.cells #[] 5)).ownsRow w.heap.size 5 1 (.slice (some ⟨w.heap.size, 0, none⟩) 0 0) 0 [] :=
      World.ownsRow_made w #[] 0 (Nat.le_refl _) (by unfold maxLen; omega) rfl
    go_enter Tryd.func47, Tryd.ntmps47
    go_wp2_with (at_builtin; refine wpList_append_bytes rfl (.tmp 5) (.tmp 6) 44 rfl w.heap.size 5 i0 slice_u8 hi hz0 hz1 hz2 _ 0 [] rfl hown B _ xs rfl hr1 (by omega) (by simp) ?_; intro v1 w1 hown1 hg1 hat1; obtain ⟨A1, c1, rfl⟩ := own_form hown1)
    go_ret
    rw [Nat.zero_add] at *
    exact fresh_of hown1 ((Below.alloc (Below.refl _ _) (Nat.le_refl _) _).grown hg1 (by simp) (fun k hk => by cases hk; exact Nat.le_refl _))

theorem Wr.byt {w : World} {g base : Nat} {v : Value} {xs : List UInt8} (h : Wr w g base v xs) : Byt w w.heap.size v xs := Byt.of_own h.2

set_option maxHeartbeats 400000 in
theorem out_any (g base : Nat) (v : Value) (xs : List UInt8) (w : World) (hw : Wr w g base v xs) (hlen : xs.length ≤ 60000) :
    Calls Tryd.prog 38 #[.pointer (some ⟨g, 0, none⟩)] w (Fresh w xs) := by
  have hc := hw.cell
  obtain ⟨A, c, rfl⟩ := own_form hw.2
  go_enter Tryd.func38, Tryd.ntmps38
  go_wp2_with fail
  refine (clone_any w.heap.size _ xs w hw.byt (by omega)).mono ?_
  rintro e w1 ⟨A1, c1, rfl, hown1, hb1⟩
  go_wp2
  go_ret
  exact ⟨_, _, rfl, hown1, hb1⟩

end Go.Proofs.YtgkocmljnoambaaDoor
