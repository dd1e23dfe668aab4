/-
  A target times a span over another: the plain mathematics. Conditions: as said.
-/
import Derived.Test.YtgkocmljnoambaaDoorNSubt
namespace Go.Proofs.YtgkocmljnoambaaDoor
open Go.RowKit Go.Shelf

/-- A number times m over d, or the greatest number. -/
def scaleN (t m d : Nat) : Nat := if d ≤ t * m / top then top - 1 else t * m / d
theorem scaleN_lt (t m d : Nat) (hd : 0 < d) : scaleN t m d < top := by
  have h := top_pos
  unfold scaleN
  split
  · omega
  · rename_i h2
    have h3 : t * m / top < d := by omega
    rw [Nat.div_lt_iff_lt_mul hd, Nat.mul_comm top d]
    exact (Nat.div_lt_iff_lt_mul h).1 h3
/-- What the rounds of scale keep: row and carry. -/
structure ScInv (a m : Nat) (pre : List (Fin 32 × Int)) (xs : List Int) (c : Nat) : Prop where
  len : xs.length = 32
  byte : ∀ z ∈ xs, 0 ≤ z ∧ z ≤ 255
  small : c ≤ m
  done : Down pre → xs = mixd (a * m) a pre.length ∧ up (a * m) pre.length = up a pre.length * m + c
theorem ScInv.start (a m : Nat) : ScInv a m [] (num a) 0 :=
  ⟨num_length a, num_byte a, by omega, fun _ => ⟨(mixd_zero _ _).symm, by rw [List.length_nil, up_zero, up_zero]; omega⟩⟩
theorem sc_small {z c m : Nat} (hz : z ≤ 255) (hc : c ≤ m) : c + z * m ≤ 256 * m := by
  have h := Nat.mul_le_mul_right m hz
  omega
theorem ScInv.next {a m : Nat} {pre : List (Fin 32 × Int)} {xs : List Int} {c : Nat} (h : ScInv a m pre xs c) (hl : pre.length < 32) (x : Fin 32 × Int) {z : Nat} (hz : xs[x.1.val]? = some (z : Int)) :
    ScInv a m (pre ++ [x]) (xs.set x.1.val (((c + z * m) % 256 : Nat) : Int)) ((c + z * m) / 256) := by
  have hb := h.byte z (List.mem_of_getElem? hz)
  have hs := sc_small (z := z) (by omega) h.small
  refine ⟨by rw [List.length_set]; exact h.len, set_byte h.byte _ (by omega), by omega, fun hdn => ?_⟩
  obtain ⟨h1, h2⟩ := hdn.init
  obtain ⟨e1, e2⟩ := h.done h1
  have hij : x.1.val + pre.length = 31 := by omega
  have hzz : z = dg a x.1.val := by
    rw [e1, mixd_at _ _ _ (by omega) (by omega)] at hz
    exact (Int.ofNat.inj (Option.some.inj hz)).symm
  obtain ⟨hx, hn⟩ := times_next e2
  rw [up_mod (a * m) hij, up_mod a hij, ← hzz, Nat.add_comm (z * m) c] at hx
  rw [← up_succ, ← up_succ, up_mod a hij, ← hzz, Nat.add_comm (z * m) c] at hn
  rw [List.length_append, List.length_cons, List.length_nil, Nat.zero_add]
  refine ⟨?_, hn⟩
  rw [e1]
  exact mixd_set _ _ hij (by rw [hx])
/-- What lies in memory behind the rounds of scale. -/
structure ScMem (w : World) (m : Nat) (xs : List Int) (c : Int) (W : World) : Prop where
  r1 : IRow W w.heap.size 24 .u8 xs
  r2 : IRow W (w.heap.size + 1) 22 .u32 [(m : Int)]
  r3 : IRow W (w.heap.size + 2) 24 .u8 (num 0)
  r4 : IRow W (w.heap.size + 3) 22 .u32 [c]
  bel : Below w.heap.size w W
  size : w.heap.size + 5 ≤ W.heap.size
theorem ScMem.grown {w W W' : World} {m : Nat} {xs : List Int} {c : Int} {row : Option Nat} (h : ScMem w m xs c W) (hg : W.grownBy W' row)
    (hr : ∀ r, row = some r → w.heap.size + 5 ≤ r ∧ ∃ o : Obj, W.heap[r]? = some o ∧ o.isCells = false) : ScMem w m xs c W' :=
  ⟨irow_grown h.r1 hg (fun r e => (hr r e).2), irow_grown h.r2 hg (fun r e => (hr r e).2), irow_grown h.r3 hg (fun r e => (hr r e).2), irow_grown h.r4 hg (fun r e => (hr r e).2),
    h.bel.grown hg h.bel.size (fun k e => by have := (hr k e).1; omega), Nat.le_trans h.size hg.size⟩
theorem ScMem.setX {w W : World} {m : Nat} {xs : List Int} {c : Int} (h : ScMem w m xs c W) (i : Nat) (y : Int) : ScMem w m (xs.set i y) c (W.setCell ⟨w.heap.size, i, none⟩ (.int .u8 y)) :=
  ⟨h.r1.set i y, h.r2.setCell (by show w.heap.size ≠ w.heap.size + 1; omega) _, h.r3.setCell (by show w.heap.size ≠ w.heap.size + 2; omega) _, h.r4.setCell (by show w.heap.size ≠ w.heap.size + 3; omega) _,
   h.bel.setCell (p := ⟨w.heap.size, i, none⟩) (Nat.le_refl _) _, by have := h.size; simpa [World.setCell] using this⟩
theorem ScMem.setC {w W : World} {m : Nat} {xs : List Int} {c : Int} (h : ScMem w m xs c W) (y : Int) : ScMem w m xs y (W.setCell ⟨w.heap.size + 3, 0, none⟩ (.int .u32 y)) :=
  ⟨h.r1.setCell (by show w.heap.size + 3 ≠ w.heap.size; omega) _, h.r2.setCell (by show w.heap.size + 3 ≠ w.heap.size + 1; omega) _, h.r3.setCell (by show w.heap.size + 3 ≠ w.heap.size + 2; omega) _, h.r4.set 0 y,
   h.bel.setCell (p := ⟨w.heap.size + 3, 0, none⟩) (by show w.heap.size ≤ w.heap.size + 3; omega) _, by have := h.size; simpa [World.setCell] using this⟩
theorem ScMem.drew {w W : World} {m : Nat} {xs : List Int} {c : Int} (h : ScMem w m xs c W) : ScMem w m xs c W.drew := ⟨h.r1.drew, h.r2.drew, h.r3.drew, h.r4.drew, below_drewN h.bel 1, h.size⟩
theorem ScMem.next {w W : World} {m : Nat} {xs : List Int} {c : Int} (h : ScMem w m xs c W) (i : Nat) (y c1 c2 : Int) : ScMem w m (xs.set i y) c2 (roundW w.heap.size i .u32 y c1 c2 W) := (((h.setC c1).setX i y).setC c2).drew
theorem boxes5u (w : World) (a m : Nat) : ∃ W, ((((w.alloc (.cells (numA a) 24)).alloc (.cells #[.int .u32 (m : Int)] 22)).alloc (.cells zeroA 24)).alloc (.cells #[.int .u32 0] 22)).alloc (.cells #[.slice (some ⟨w.heap.size, 0, none⟩) 32 32] 44) = W ∧
    ScMem w m (num a) 0 W ∧ W.cell? ⟨w.heap.size + 4, 0, none⟩ = some (.slice (some ⟨w.heap.size, 0, none⟩) 32 32) ∧ W.heap.size = w.heap.size + 5 := by
  have q1 := ((((IRow.new w 24 .u8 (num a)).alloc (.cells #[.int .u32 (m : Int)] 22)).alloc (.cells zeroA 24)).alloc (.cells #[.int .u32 0] 22)).alloc (.cells #[.slice (some ⟨w.heap.size, 0, none⟩) 32 32] 44)
  have hn : ∀ (U0 : World) (g : Nat) (t : TypeId) (k : IntKind) (zs : List Int), U0.heap.size = g → IRow (U0.alloc (.cells (zs.map (Value.int k)).toArray t)) g t k zs := fun U0 g t k zs e => e ▸ IRow.new U0 t k zs
  have q2 := (((hn (w.alloc (.cells (numA a) 24)) (w.heap.size + 1) 22 .u32 [(m : Int)] (by simp)).alloc (.cells zeroA 24)).alloc (.cells #[.int .u32 0] 22)).alloc (.cells #[.slice (some ⟨w.heap.size, 0, none⟩) 32 32] 44)
  have q3 := ((zero_row_at ((w.alloc (.cells (numA a) 24)).alloc (.cells #[.int .u32 (m : Int)] 22)) 24 (g := w.heap.size + 2) (by simp)).alloc (.cells #[.int .u32 0] 22)).alloc (.cells #[.slice (some ⟨w.heap.size, 0, none⟩) 32 32] 44)
  have q4 := (hn (((w.alloc (.cells (numA a) 24)).alloc (.cells #[.int .u32 (m : Int)] 22)).alloc (.cells zeroA 24)) (w.heap.size + 3) 22 .u32 [0] (by simp)).alloc (.cells #[.slice (some ⟨w.heap.size, 0, none⟩) 32 32] 44)
  refine ⟨_, rfl, ⟨q1, q2, q3, q4, ?_, by simp⟩, ?_, by simp⟩
  · exact (((((Below.refl _ w).alloc (Nat.le_refl _) _).alloc (by simp) _).alloc (by simp; omega) _).alloc (by simp; omega) _).alloc (by simp; omega) _
  · have h := Boxed.new ((((w.alloc (.cells (numA a) 24)).alloc (.cells #[.int .u32 (m : Int)] 22)).alloc (.cells zeroA 24)).alloc (.cells #[.int .u32 0] 22)) 44 (.slice (some ⟨w.heap.size, 0, none⟩) 32 32)
    rw [show ((((w.alloc (.cells (numA a) 24)).alloc (.cells #[.int .u32 (m : Int)] 22)).alloc (.cells zeroA 24)).alloc (.cells #[.int .u32 0] 22)).heap.size = w.heap.size + 4 by simp] at h
    exact h.cell
end Go.Proofs.YtgkocmljnoambaaDoor
