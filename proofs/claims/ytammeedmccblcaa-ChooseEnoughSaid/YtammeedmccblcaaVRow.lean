/-
  Rows of values that may be written: whole, and in the middle. Conditions: none.
-/
import Derived.Test.YtammeedmccblcaaOwn
import Derived.Laws.CopyRow
import Derived.Laws.Rows
import Derived.Laws.Tables
import Derived.Deep.MidRow
namespace Go.Proofs.Ytammeedmccblcaa
open Go.RowKit

/-- Block g holds these values, and may be written. -/
def VRow (w : World) (g : Nat) (t : TypeId) (vs : List Value) : Prop := w.heap[g]? = some (.cells vs.toArray t (0, 0))
section
variable {w w' : World} {g : Nat} {t : TypeId} {vs : List Value}
theorem VRow.lt (h : VRow w g t vs) : g < w.heap.size := (Array.getElem?_eq_some_iff.1 h).1
theorem VRow.cell (h : VRow w g t vs) {i : Nat} {z : Value} (hi : vs[i]? = some z) : w.cell? ⟨g, i, none⟩ = some z := by
  rw [cell_of_row w g i _ _ _ h]
  simp [hi]
theorem VRow.free (h : VRow w g t vs) (i : Nat) : w.frozen? ⟨g, i, none⟩ = false := by
  unfold VRow at h
  simp [World.frozen?, h]
theorem VRow.set (h : VRow w g t vs) (i : Nat) (z : Value) : VRow (w.setCell ⟨g, i, none⟩ z) g t (vs.set i z) := by
  unfold VRow at h ⊢
  simp [World.setCell, Array.getElem?_modify, h]
theorem VRow.below {B : Nat} (h : VRow w g t vs) (hb : Below B w w') (hg : g < B) : VRow w' g t vs := (hb.block g hg).trans h
theorem VRow.new (w : World) (t : TypeId) (vs : List Value) : VRow (w.alloc (.cells vs.toArray t)) w.heap.size t vs := heap_alloc_new w _
theorem VRow.setRow (h : VRow w g t vs) (us : List Value) : VRow (w.setRow g us.toArray) g t us := by
  unfold VRow at h ⊢
  simp [World.setRow, Array.getElem?_modify, h]
end
theorem below_setRow {B : Nat} {a w : World} (h : Below B a w) {g : Nat} (hg : B ≤ g) (cs : Array Value) : Below B a (w.setRow g cs) :=
  ⟨h.os, h.tape, h.output, by simpa [World.setRow] using h.size, fun k hk => by
    have e : (w.setRow g cs).heap[k]? = w.heap[k]? := by
      simp only [World.setRow, Array.getElem?_modify]
      rw [if_neg (by omega)]
    rw [e]; exact h.block k hk⟩
theorem wpList_load_vrow {ops : Array Oper} {rest : List Oper} {op : Oper} {a : Act} {w : World} {Q : Exit → Act → World → Prop} (hgd : op.guard = none) (ty : TypeId) (x : Operand) (ho : op.op = .load ty x)
    {g : Nat} {t : TypeId} {vs : List Value} {fs : Array Field} (hx : a.eval x = .pointer (some ⟨g, 0, none⟩)) (h : VRow w g t vs) (hu : Try.prog.underlying ty = some (.struct fs)) (hi : (Try.prog.info? ty).map (·.size) = some vs.length)
    (hn : wpList Try.prog ops Q rest (a.put op.dst (.agg vs.toArray)) w) : wpList Try.prog ops Q (op :: rest) a w :=
  wpList_load_row hgd ty x ho g hx t vs.toArray (0, 0) (.struct fs) h hu rfl (by rw [hi, List.size_toArray]) hn
theorem wpList_store_vrow {ops : Array Oper} {rest : List Oper} {op : Oper} {a : Act} {w : World} {Q : Exit → Act → World → Prop} (hgd : op.guard = none) (ty : TypeId) (x y : Operand) (ho : op.op = .store ty x y)
    {g : Nat} {t : TypeId} {vs us : List Value} (hx : a.eval x = .pointer (some ⟨g, 0, none⟩)) (hy : a.eval y = .agg us.toArray) (h : VRow w g t vs) (hi : (Try.prog.info? ty).map (·.size) = some us.length) (hl : vs.length = us.length) (h1 : us.toArray.all (·.oneCell') = true)
    (hn : wpList Try.prog ops Q rest (a.put op.dst undef) (w.setRow g us.toArray)) : wpList Try.prog ops Q (op :: rest) a w :=
  wpList_plain hgd fun K hK => by
    unfold Oper.wp execOp
    have hst : (Instr.storeAt ty (.pointer (some ⟨g, 0, none⟩)) (.agg us.toArray)).run Try.prog w = .ok () (w.setRow g us.toArray) := by
      simp only [Instr.storeAt, Instr.sureAddr, Sem.run_bind, Sem.run_pure, Result.andThen_ok]
      exact run_storeVar_row w g t ty _ _ h (by rw [hi]; simp) (by simp [hl]) h1
    simp only [ho, hx, hy, hst, Sem.run_bind, Sem.run_pure, Result.andThen_ok]
    exact hK _ _ hn

section
variable {w w' : World} {g : Nat} {t : TypeId} {vs : List Value}
theorem VRow.range (h : VRow w g t vs) {o : Nat} {cs : List Value} (hs : ∀ (j : Nat) (v : Value), cs[j]? = some v → vs[o + j]? = some v) : w.rangeAt g o cs := fun j v hv => h.cell (hs j v hv)
theorem VRow.there (h : VRow w g t vs) {o n : Nat} (hn : o + n ≤ vs.length) : w.there g o n := fun j hj => ⟨by rw [h.cell (List.getElem?_eq_getElem (show o + j < vs.length by omega))]; rfl, h.free _⟩
theorem VRow.setCells : ∀ (us : List Value) {w : World} {vs : List Value} {o : Nat}, VRow w g t vs → o + us.length ≤ vs.length → VRow (w.setCells g o us) g t (vs.take o ++ us ++ vs.drop (o + us.length))
  | [], w, vs, o, h, _ => by
    simp only [List.append_nil, List.length_nil, Nat.add_zero, List.take_append_drop]
    exact h
  | v :: us, w, vs, o, h, hl => by
    have hl' : o + (us.length + 1) ≤ vs.length := by simpa using hl
    have h1 := VRow.setCells us (o := o + 1) (h.set o v) (by rw [List.length_set]; omega)
    have e := list_seg_step vs o v us (by omega)
    rw [e] at h1
    exact h1
theorem below_setCells {B : Nat} (hg : B ≤ g) : ∀ (us : List Value) {a w : World} {o : Nat}, Below B a w → Below B a (w.setCells g o us)
  | [], _, _, _, h => h
  | v :: us, _, _, _, h => below_setCells hg us (h.setCell hg v)
end

theorem Turns.setRow {S : Nat → Prop} {a w : World} (h : Turns S a w) {g : Nat} (hg : g < a.heap.size → S g) (cs : Array Value) : Turns S a (w.setRow g cs) :=
  ⟨h.os, h.tape, h.output, by simpa [World.setRow] using h.size, fun k hk hn => by
    have e : (w.setRow g cs).heap[k]? = w.heap[k]? := by
      simp only [World.setRow, Array.getElem?_modify]
      rw [if_neg (by rintro rfl; exact hn (hg hk))]
    rw [e]; exact h.block k hk hn⟩
theorem Turns.setCells {S : Nat → Prop} {a : World} {g : Nat} (hg : g < a.heap.size → S g) : ∀ (us : List Value) {w : World} {o : Nat}, Turns S a w → Turns S a (w.setCells g o us)
  | [], _, _, h => h
  | v :: us, _, _, h => Turns.setCells hg us (h.setCell hg v)

theorem VRow.turns {S : Nat → Prop} {w w' : World} {g : Nat} {t : TypeId} {vs : List Value} (h : VRow w g t vs) (ht : Turns S w w') (hS : ¬ S g) : VRow w' g t vs := (ht.block g h.lt hS).trans h
end Go.Proofs.Ytammeedmccblcaa
