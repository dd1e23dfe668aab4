/-
  Rows of bytes that may be written, and new ones of zeros. Conditions: sizes within the reach.
-/
import Derived.Test.YtammeedmccblcaaBase
import Derived.Deep.DeepCutAuto
namespace Go.Proofs.Ytammeedmccblcaa
open Go.RowKit

theorem info_u8 : (Try.prog.info? 5).map (fun i => (i.zero, i.size, i.bytes)) = some (some (.int .u8 0), 1, 1) := by kernel_rfl
theorem Byt.form {w : World} {B : Nat} {v : Value} {xs : List UInt8} (h : Byt w B v xs) : ∃ A c, v = .slice A xs.length c := by
  obtain ⟨A, c, hv, _⟩ := h
  exact ⟨A, c, hv⟩
theorem Byt.cap {w : World} {B c : Nat} {A : Option Addr} {xs : List UInt8} (h : Byt w B (.slice A xs.length c) xs) : xs.length ≤ c ∧ c ≤ 9223372036854775807 := by
  obtain ⟨A', c', e, h1, h2, _⟩ := h
  injection e with e1 e2 e3
  subst e3
  unfold maxLen at h2
  exact ⟨h1, h2⟩

/-- Block g holds these bytes, and may be written. -/
def Row (w : World) (g : Nat) (xs : List UInt8) : Prop := w.heap[g]? = some (.cells (xs.map bv).toArray 5 (0, 0))

theorem Row.lt {w : World} {g : Nat} {xs : List UInt8} (h : Row w g xs) : g < w.heap.size := (Array.getElem?_eq_some_iff.1 h).1
theorem Row.cell {w : World} {g i : Nat} {xs : List UInt8} {c : UInt8} (h : Row w g xs) (hi : xs[i]? = some c) : w.cell? ⟨g, i, none⟩ = some (bv c) := by
  rw [cell_of_row w g i _ _ _ h]
  simp [hi]
theorem Row.free {w : World} {g : Nat} {xs : List UInt8} (h : Row w g xs) (i : Nat) : w.frozen? ⟨g, i, none⟩ = false := by
  unfold Row at h
  simp [World.frozen?, h]
theorem Row.set {w : World} {g i : Nat} {xs : List UInt8} (h : Row w g xs) (c : UInt8) : Row (w.setCell ⟨g, i, none⟩ (bv c)) g (xs.set i c) := by
  unfold Row at h ⊢
  simp [World.setCell, Array.getElem?_modify, h, List.map_set]
theorem Row.turns {S : Nat → Prop} {w w' : World} {g : Nat} {xs : List UInt8} (h : Row w g xs) (ht : Turns S w w') (hS : ¬ S g) : Row w' g xs := (ht.block g h.lt hS).trans h
theorem Row.byt {w : World} {g n c : Nat} {xs : List UInt8} (h : Row w g xs) (hn : n ≤ xs.length) (hc : n ≤ c) (hcm : c ≤ maxLen) : Byt w w.heap.size (.slice (some ⟨g, 0, none⟩) n c) (xs.take n) := by
  have hl : (xs.take n).length = n := by rw [List.length_take]; omega
  refine ⟨some ⟨g, 0, none⟩, c, by rw [hl], by omega, hcm, (by intro h; cases h), fun _ => ⟨g, 0, rfl, h.lt, fun j u hu => ?_⟩⟩
  rw [Nat.zero_add]
  refine h.cell ?_
  rw [List.getElem?_take] at hu
  split at hu
  · exact hu
  · cases hu

theorem set_next {xs zs : List UInt8} {i n : Nat} {c : UInt8} (hi : i < xs.length) (hc : xs[i]? = some c) (hz : zs = xs.take i ++ List.replicate (n - i) 0) (hn : n = xs.length) :
    zs.set i c = xs.take (i + 1) ++ List.replicate (n - (i + 1)) 0 := by
  subst hz
  have hl : (xs.take i).length = i := by rw [List.length_take]; omega
  rw [List.set_append_right _ _ (by omega), hl, Nat.sub_self]
  obtain ⟨m, hm⟩ : ∃ m, n - i = m + 1 := ⟨n - i - 1, by omega⟩
  rw [hm, List.replicate_succ, List.set_cons_zero, List.take_add_one, hc]
  have : n - (i + 1) = m := by omega
  rw [this]
  simp

/-- n zero bytes, as a block's cells. -/
def zeroRow (n : Nat) : Array Value := ((List.replicate n (0 : UInt8)).map bv).toArray

theorem made_zero (n : Nat) : madeCells (Value.int .u8 0).cells n = zeroRow n := by
  unfold zeroRow
  simp only [madeCells, Value.cells, List.map_replicate, bv]
  apply Array.ext
  · simp
  · intro i h1 h2
    simp [Nat.mod_one]

theorem row_new (w : World) (n : Nat) : Row (w.alloc (.cells (zeroRow n) 5)) w.heap.size (List.replicate n 0) := heap_alloc_new w _


/-- Behind i rounds: the first i bytes are as they will be, the rest is zero. -/
def FillB (w : World) (g i : Nat) (bs : List UInt8) (wr : World) : Prop :=
  ∃ zs, zs = bs.take i ++ List.replicate (bs.length - i) 0 ∧ Row wr g zs ∧ Below w.heap.size w wr

theorem fillB_next {w w' : World} {g i : Nat} {bs zs : List UInt8} {c : UInt8} (hi : i < bs.length) (hc : bs[i]? = some c) (hz : zs = bs.take i ++ List.replicate (bs.length - i) 0)
    (hr : Row w' g (zs.set i c)) (hb' : Below w.heap.size w w') : FillB w g (i + 1) bs w' :=
  ⟨_, set_next hi hc hz rfl, hr, hb'⟩

theorem fillB_zero {bs zs : List UInt8} {i : Nat} (hi : i < bs.length) (hz : zs = bs.take i ++ List.replicate (bs.length - i) 0) : zs[i]? = some 0 := by
  subst hz
  have hl : (bs.take i).length = i := by rw [List.length_take]; omega
  rw [List.getElem?_append_right (by omega), hl, Nat.sub_self]
  obtain ⟨m, hm⟩ : ∃ m, bs.length - i = m + 1 := ⟨bs.length - i - 1, by omega⟩
  rw [hm, List.replicate_succ]
  rfl
theorem fillB_end {w wr : World} {g : Nat} {bs : List UInt8} (h : FillB w g bs.length bs wr) : Row wr g bs ∧ Below w.heap.size w wr := by
  obtain ⟨zs, hz, hr, hb⟩ := h
  rw [Nat.sub_self, List.replicate_zero, List.append_nil, List.take_length] at hz
  exact ⟨hz ▸ hr, hb⟩

end Go.Proofs.Ytammeedmccblcaa
