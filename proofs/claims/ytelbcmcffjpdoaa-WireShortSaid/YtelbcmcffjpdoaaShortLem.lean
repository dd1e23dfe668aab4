/-
  WireShort: what the two readers keep. Conditions: none.
-/
import Derived.Test.YtelbcmcffjpdoaaShortPure
import Derived.Deep.CutBlock
import Derived.Deep.RegionHeld3
import Derived.Deep.RegionWith
namespace Go.Proofs.Ytelbcmcffjpdoaa
open Go.RowKit

theorem set_box {w : World} {g : Nat} {a b c x y z : Value} {T : TypeId} (h : w.heap[g]? = some (.cells #[a, b, c] T (0, 0))) :
    (((w.setCell ⟨g, 0, none⟩ x).setCell ⟨g, 1, none⟩ y).setCell ⟨g, 2, none⟩ z).heap[g]? = some (.cells #[x, y, z] T (0, 0)) := by
  simp only [World.setCell, Array.getElem?_modify, if_true, h, Option.map_some]
  rfl

theorem Byt.turns_ {S : Nat → Prop} {w w' : World} {B : Nat} {v : Value} {xs : List UInt8} (h : Byt w B v xs) (hB : B ≤ w.heap.size) (hno : ∀ i, S i → ∀ o u, w.cell? ⟨i, o, none⟩ ≠ some (bv u)) (ht : Turns S w w') : Byt w' B v xs := by
  obtain ⟨A, c, hv, hl, hm, hA, hx⟩ := h
  refine ⟨A, c, hv, hl, hm, hA, fun hne => ?_⟩
  obtain ⟨b, o, e, hb, hc⟩ := hx hne
  refine ⟨b, o, e, hb, fun j u hu => ?_⟩
  have hbg : ¬ S b := fun hs => hno _ hs _ _ (hc j u hu)
  rw [ht.cell (p := ⟨b, _, none⟩) (by show b < _; omega) hbg]
  exact hc j u hu

/-- Turning a block without bytes leaves a reader as it was. -/
theorem Cu.past {w w' : World} {r g : Nat} {v : Value} {k : Int} {xs : List UInt8} (h : Cu w r r v k xs) (hg : g ≠ r) (hno : ∀ o u, w.cell? ⟨g, o, none⟩ ≠ some (bv u)) (ht : Turns (fun i => i = g) w w') : Cu w' r r v k xs := by
  have hlt := h.lt
  obtain ⟨h1, h2, h3⟩ := h
  exact ⟨(ht.block r hlt (fun e => hg e.symm)).trans h1, h2.turns_ (by omega) (fun i hi => by subst hi; exact hno) ht, h3⟩

theorem box_no {w : World} {g : Nat} {A : Option Addr} {n c : Nat} {y z : Int} {T : TypeId} (h : w.heap[g]? = some (.cells #[.slice A n c, .int .i64 y, .int .i64 z] T (0, 0))) : ∀ o u, w.cell? ⟨g, o, none⟩ ≠ some (bv u) := fun o u e => by
  rw [cell_of_row _ g o _ _ _ h] at e
  rcases o with _ | _ | _ | o
  · exact slice_no u (by simpa using e)
  · exact i64_no u (by simpa using e)
  · exact i64_no u (by simpa using e)
  · simp at e

/-- The two readers, behind some acts. -/
structure Pair (w : World) (r g B : Nat) (x : Value) (bs ys : List UInt8) (wr : World) (q : Nat) (k : Int) (v : Value) (xs : List UInt8) : Prop where
  box : wr.heap[g]? = some (.cells #[x, .int .i64 q, .int .i64 k] 51 (0, 0))
  cu : Cu wr r r v k xs
  tie : k = 0 → bs.drop q = xs
  hq : q ≤ bs.length
  len : xs.length ≤ 60000
  left : Left ys k xs
  bel : Below w.heap.size w wr
  byt : Byt wr B x bs

/-- The cut's two readers. -/
def Cut (w : World) (B : Nat) (bs ys : List UInt8) (s8 s9 : Value) (wx : World) : Prop :=
  ∃ r g x v xs, s8 = .pointer (some ⟨r, 0, none⟩) ∧ s9 = .pointer (some ⟨g, 0, none⟩) ∧ B ≤ r ∧ B ≤ g ∧ g ≠ r ∧ Pair w r g B x bs ys wx 0 0 v xs

theorem cut_mk {w w2 W : World} {r g : Nat} {x v3 : Value} {bs ys : List UInt8} (hbel2 : Below w.heap.size w w2) (hx : Byt w2 w2.heap.size x bs) (hc : Cu W r r v3 0 bs) (hr : w2.heap.size ≤ r) (hg : w2.heap.size ≤ g) (hgr : g ≠ r) (hb : Below w2.heap.size w2 W)
    (hbox : W.heap[g]? = some (.cells #[x, .int .i64 (0 : Nat), .int .i64 0] 51 (0, 0))) (hl : bs.length ≤ 60000) (hleft : Left ys 0 bs) : Cut w w2.heap.size bs ys (.pointer (some ⟨r, 0, none⟩)) (.pointer (some ⟨g, 0, none⟩)) W :=
  ⟨r, g, x, v3, bs, rfl, rfl, hr, hg, hgr, hbox, hc, fun _ => rfl, Nat.zero_le _, hl, hleft, hbel2.trans (hb.mono hbel2.size), hx.below hb⟩

theorem cut_late {w w2 w3 : World} {r : Nat} {x v3 : Value} {bs ys : List UInt8} (hbel2 : Below w.heap.size w w2) (hx : Byt w2 w2.heap.size x bs) (hc : Cu w3 r r v3 0 bs) (hr : w2.heap.size ≤ r) (hb : Below w2.heap.size w2 w3) (hl : bs.length ≤ 60000) (hleft : Left ys 0 bs) :
    Cut w w2.heap.size bs ys (.pointer (some ⟨r, 0, none⟩)) (.pointer (some ⟨w3.heap.size, 0, none⟩)) (w3.alloc (.cells #[x, .int .i64 0, .int .i64 0] 51)) :=
  cut_mk hbel2 hx (hc.alloc _) hr hb.size (by have := hc.lt; omega) (hb.alloc hb.size _) (heap_alloc_new w3 _) hl hleft

theorem cut_soon {w w2 w3 : World} {r : Nat} {x v3 : Value} {n c : Nat} {A : Option Addr} {b d : Int} {bs ys : List UInt8} (hbel2 : Below w.heap.size w w2) (hx : Byt w2 w2.heap.size x bs) (hc : Cu w3 r r v3 0 bs) (hr : w2.heap.size < r) (hb : Below w2.heap.size w2 w3) (hl : bs.length ≤ 60000) (hleft : Left ys 0 bs)
    (hbox : w3.heap[w2.heap.size]? = some (.cells #[.slice A n c, .int .i64 b, .int .i64 d] 51 (0, 0))) :
    Cut w w2.heap.size bs ys (.pointer (some ⟨r, 0, none⟩)) (.pointer (some ⟨w2.heap.size, 0, none⟩)) (((w3.setCell ⟨w2.heap.size, 0, none⟩ x).setCell ⟨w2.heap.size, 1, none⟩ (.int .i64 0)).setCell ⟨w2.heap.size, 2, none⟩ (.int .i64 0)) := by
  have t : Turns (fun i => i = w2.heap.size) w3 (((w3.setCell ⟨w2.heap.size, 0, none⟩ x).setCell ⟨w2.heap.size, 1, none⟩ (.int .i64 0)).setCell ⟨w2.heap.size, 2, none⟩ (.int .i64 0)) :=
    (((Turns.refl (fun i => i = w2.heap.size) w3).setCell (p := ⟨w2.heap.size, 0, none⟩) (fun _ => rfl) _).setCell (p := ⟨w2.heap.size, 1, none⟩) (fun _ => rfl) _).setCell (p := ⟨w2.heap.size, 2, none⟩) (fun _ => rfl) _
  exact cut_mk hbel2 hx (hc.past (by omega) (box_no hbox) t) (by omega) (Nat.le_refl _) (by omega) (hb.trans (t.below_of hb.size (fun i hi => by omega))) (set_box hbox) hl hleft

theorem sizeP_len {xs ys : List UInt8} {n : Int} (h : sizeP xs = .ok (n, ys)) : ys.length ≤ xs.length := by
  unfold sizeP at h
  split at h
  · cases h
  split at h
  · cases h; rw [List.length_drop]; omega
  split at h
  · cases h
  split at h
  · cases h
  split at h
  · cases h
  cases h
  rw [List.length_drop, List.length_drop]
  omega
theorem actR_len (kd n k : Int) (xs : List UInt8) : (actR kd n k xs).2.length ≤ xs.length := by
  have hn : ∀ m : Nat, (numR m k xs).2.2.length ≤ xs.length := fun m => by
    unfold numR
    split
    · exact Nat.le_refl _
    split
    · exact Nat.le_refl _
    · show (xs.drop m).length ≤ _; rw [List.length_drop]; omega
  unfold actR
  split
  · exact hn 1
  split
  · exact hn 2
  split
  · exact hn 4
  split
  · exact hn 8
  split
  · unfold sizeR
    split
    · exact Nat.le_refl _
    cases hs : sizeP xs with
    | error c => exact Nat.le_refl _
    | ok p => obtain ⟨m, ys⟩ := p; exact sizeP_len hs
  split
  · unfold rawR
    split
    · exact Nat.le_refl _
    split
    · exact Nat.le_refl _
    · show (xs.drop _).length ≤ _; rw [List.length_drop]; omega
  · unfold listR
    split
    · exact Nat.le_refl _
    cases hs : listP (mOf n) xs with
    | error c => exact Nat.le_refl _
    | ok p =>
      obtain ⟨zs, ys⟩ := p
      unfold listP at hs
      cases h2 : sizeP xs with
      | error c => rw [h2] at hs; cases hs
      | ok p2 =>
        obtain ⟨m, us⟩ := p2
        rw [h2] at hs
        simp only at hs
        split at hs
        · cases hs
        split at hs
        · cases hs
        cases hs
        have := sizeP_len h2
        show (us.drop _).length ≤ _
        rw [List.length_drop]
        omega

/-- Left's errors are small. -/
theorem left_bd {ys xs : List UInt8} {k : Int} (h : Left ys k xs) : 0 ≤ k ∧ k ≤ 9 := by
  rcases h with rfl | ⟨rfl, _⟩ <;> decide

/-- What an act's reading answers, written out. -/
def ReadS (w : World) (r : Nat) (x : Value) (bs : List UInt8) (K : Int) (ys : List UInt8) (e : Ending) (w' : World) : Prop :=
  ∃ q : Nat, e = .returned (.tuple #[.agg #[x, .int .i64 q, .int .i64 K], .bool true]) ∧ q ≤ bs.length ∧ (K = 0 → bs.drop q = ys) ∧ ∃ v', Cu w' r r v' K ys ∧ Turns (fun i => i = r) w w'

theorem read_pair {w wr : World} {r g B q : Nat} {x v b : Value} {bs ys xs : List UInt8} {k kd n : Int} (hp : Pair w r g B x bs ys wr q k v xs) (hBr : B ≤ r) (hl : bs.length ≤ 60000) (hn0 : 0 ≤ n) (hn1 : n < 18446744073709551616) (o : Obj) :
    Calls Try.prog 25 #[.pointer (some ⟨r, 0, none⟩), .agg #[x, .int .i64 q, .int .i64 k], .agg #[.int .i64 kd, .int .u64 n, b]] (wr.alloc o) (ReadS (wr.alloc o) r x bs (actR kd n k xs).1 (actR kd n k xs).2) := by
  have hlt := hp.cu.lt
  exact (ract_any B r q x b v bs xs k n kd (wr.alloc o) (hp.byt.below ((Below.refl _ _).alloc (by omega) o)) hBr hp.hq hl (left_bd hp.left).1 (left_bd hp.left).2 hn0 hn1 (hp.cu.alloc o) hp.len hp.tie).mono fun e w' h => h

theorem pair_box {w wr w5 : World} {r g B q : Nat} {x v : Value} {bs ys xs : List UInt8} {k : Int} {o : Obj} (hp : Pair w r g B x bs ys wr q k v xs) (hgr : g ≠ r) (ht : Turns (fun i => i = r) (wr.alloc o) w5) (o2 : Obj) :
    (w5.alloc o2).heap[g]? = some (.cells #[x, .int .i64 q, .int .i64 k] 51 (0, 0)) := by
  have hlt := (Array.getElem?_eq_some_iff.1 hp.box).1
  have h5 : w5.heap[g]? = some (.cells #[x, .int .i64 q, .int .i64 k] 51 (0, 0)) := by
    rw [ht.block g (by simp; omega) hgr, Below.heap_alloc _ _ _ hlt]
    exact hp.box
  have hs := ht.size
  have hs2 : wr.heap.size + 1 ≤ w5.heap.size := by simpa using hs
  rw [Below.heap_alloc _ _ _ (by omega)]
  exact h5

theorem pair_next {w wr w5 : World} {r g B q q2 : Nat} {v v2 : Value} {A : Option Addr} {nx c : Nat} {bs ys zs xs xs2 : List UInt8} {k k2 : Int} {o o2 : Obj} (hp : Pair w r g B (.slice A nx c) bs ys wr q k v xs) (hwB : w.heap.size ≤ B) (hBr : B ≤ r) (hBg : B ≤ g) (hgr : g ≠ r)
    (ht : Turns (fun i => i = r) (wr.alloc o) w5) (hc2 : Cu w5 r r v2 k2 xs2) (htie : k2 = 0 → bs.drop q2 = xs2) (hq2 : q2 ≤ bs.length) (hlen : xs2.length ≤ xs.length) (hleft : Left zs k2 xs2) :
    Pair w r g B (.slice A nx c) bs zs ((((w5.alloc o2).setCell ⟨g, 0, none⟩ (.slice A nx c)).setCell ⟨g, 1, none⟩ (.int .i64 q2)).setCell ⟨g, 2, none⟩ (.int .i64 k2)) q2 k2 v2 xs2 := by
  have hbx := pair_box hp hgr ht o2
  have hlt := hp.cu.lt
  have t : Turns (fun i => i = g) (w5.alloc o2) ((((w5.alloc o2).setCell ⟨g, 0, none⟩ (.slice A nx c)).setCell ⟨g, 1, none⟩ (.int .i64 q2)).setCell ⟨g, 2, none⟩ (.int .i64 k2)) :=
    (((Turns.refl (fun i => i = g) (w5.alloc o2)).setCell (p := ⟨g, 0, none⟩) (fun _ => rfl) _).setCell (p := ⟨g, 1, none⟩) (fun _ => rfl) _).setCell (p := ⟨g, 2, none⟩) (fun _ => rfl) _
  have t0 : Turns (fun i => i = r) wr (w5.alloc o2) := (((Turns.refl (fun i => i = r) wr).alloc o).trans ht (fun _ _ h => h)).alloc o2
  have hbB : Below B wr ((((w5.alloc o2).setCell ⟨g, 0, none⟩ (.slice A nx c)).setCell ⟨g, 1, none⟩ (.int .i64 q2)).setCell ⟨g, 2, none⟩ (.int .i64 k2)) :=
    (t0.below_of (by omega) (fun i hi => by omega)).trans (t.below_of (by have := t0.size; omega) (fun i hi => by omega))
  exact ⟨set_box hbx, (hc2.alloc o2).past hgr (box_no hbx) t, htie, hq2, Nat.le_trans hlen hp.len, hleft, hp.bel.trans (hbB.mono hwB), hp.byt.below hbB⟩

end Go.Proofs.Ytelbcmcffjpdoaa
