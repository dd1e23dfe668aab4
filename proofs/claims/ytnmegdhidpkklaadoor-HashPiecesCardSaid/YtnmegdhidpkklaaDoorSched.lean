/-
  hash.schedule256. Conditions: the block has 64 bytes.
-/
import Derived.Test.YtnmegdhidpkklaaDoorRot
import Derived.Laws.Tables
import Derived.Deep.MidRow
namespace Go.Proofs.YtnmegdhidpkklaaDoor
open Go.RowKit

theorem isU32_cells (xs : List Int) (k : IntKind) : (xs.map (Value.int k)).toArray.all (·.oneCell') = true :=
  Array.all_eq_true_iff_forall_mem.2 (fun v hv => by
    have h : v ∈ xs.map (Value.int k) := by simpa using hv
    obtain ⟨z, _, rfl⟩ := List.mem_map.1 h
    rfl)
theorem load_irow {w : World} {g : Nat} {t ty : TypeId} {k : IntKind} {xs : List Int} {n : Nat} {e : TypeId} (h : IRow w g t k xs) (hu : Tryd.prog.underlying ty = some (.array n e)) (hi : (Tryd.prog.info? ty).map (·.size) = some xs.length) :
    (loadVar ty ⟨g, 0, none⟩).run Tryd.prog w = .ok (.agg (xs.map (Value.int k)).toArray) w :=
  run_loadVar_row w g t ty _ (0, 0) (.array n e) h hu rfl (by rw [hi]; simp)
theorem loadAt_irow {w : World} {g : Nat} {t ty : TypeId} {k : IntKind} {xs : List Int} {n : Nat} {e : TypeId} (h : IRow w g t k xs) (hu : Tryd.prog.underlying ty = some (.array n e)) (hi : (Tryd.prog.info? ty).map (·.size) = some xs.length) :
    (Instr.loadAt ty (.pointer (some ⟨g, 0, none⟩))).run Tryd.prog w = .ok (.agg (xs.map (Value.int k)).toArray) w := by
  simp only [Instr.loadAt, Instr.sureAddr, Sem.run_bind, Sem.run_pure, Result.andThen_ok, load_irow h hu hi]
theorem storeAt_irow {w : World} {g : Nat} {t ty : TypeId} {k : IntKind} {xs ys : List Int} (h : IRow w g t k xs) (hi : (Tryd.prog.info? ty).map (·.size) = some ys.length) (hl : xs.length = ys.length) :
    (Instr.storeAt ty (.pointer (some ⟨g, 0, none⟩)) (.agg (ys.map (Value.int k)).toArray)).run Tryd.prog w = .ok () (w.setRow g (ys.map (Value.int k)).toArray) := by
  simp only [Instr.storeAt, Instr.sureAddr, Sem.run_bind, Sem.run_pure, Result.andThen_ok]
  exact run_storeVar_row w g t ty _ _ h (by rw [hi]; simp) (by simp [hl]) (isU32_cells _ _)
theorem setRow_irow {w : World} {g : Nat} {t : TypeId} {k : IntKind} {xs ys : List Int} (h : IRow w g t k xs) : IRow (w.setRow g (ys.map (Value.int k)).toArray) g t k ys := by
  unfold IRow at h ⊢
  simp [World.setRow, Array.getElem?_modify, h]
theorem below_setRow {B : Nat} {a w : World} (h : Below B a w) {g : Nat} (hg : B ≤ g) (cs : Array Value) : Below B a (w.setRow g cs) :=
  ⟨h.os, h.tape, h.output, by simpa [World.setRow] using h.size, fun k hk => by
    have e : (w.setRow g cs).heap[k]? = w.heap[k]? := by
      simp only [World.setRow, Array.getElem?_modify]
      rw [if_neg (by omega)]
    rw [e]; exact h.block k hk⟩
theorem wpList_load_irow {ops : Array Oper} {rest : List Oper} {op : Oper} {a : Act} {w : World} {Q : Exit → Act → World → Prop} (hgd : op.guard = none) (ty : TypeId) (x : Operand) (ho : op.op = .load ty x)
    {g : Nat} {t : TypeId} {k : IntKind} {xs : List Int} {n : Nat} {e : TypeId} (hx : a.eval x = .pointer (some ⟨g, 0, none⟩)) (h : IRow w g t k xs) (hu : Tryd.prog.underlying ty = some (.array n e)) (hi : (Tryd.prog.info? ty).map (·.size) = some xs.length)
    (hn : wpList Tryd.prog ops Q rest (a.put op.dst (.agg (xs.map (Value.int k)).toArray)) w) : wpList Tryd.prog ops Q (op :: rest) a w :=
  wpList_plain hgd fun K hK => by
    unfold Oper.wp execOp
    simp only [ho, hx, loadAt_irow h hu hi, Sem.run_bind, Sem.run_pure, Result.andThen_ok]
    exact hK _ _ hn
theorem wpList_store_irow {ops : Array Oper} {rest : List Oper} {op : Oper} {a : Act} {w : World} {Q : Exit → Act → World → Prop} (hgd : op.guard = none) (ty : TypeId) (x y : Operand) (ho : op.op = .store ty x y)
    {g : Nat} {t : TypeId} {k : IntKind} {xs ys : List Int} (hx : a.eval x = .pointer (some ⟨g, 0, none⟩)) (hy : a.eval y = .agg (ys.map (Value.int k)).toArray) (h : IRow w g t k xs) (hi : (Tryd.prog.info? ty).map (·.size) = some ys.length) (hl : xs.length = ys.length)
    (hn : wpList Tryd.prog ops Q rest (a.put op.dst undef) (w.setRow g (ys.map (Value.int k)).toArray)) : wpList Tryd.prog ops Q (op :: rest) a w :=
  wpList_plain hgd fun K hK => by
    unfold Oper.wp execOp
    simp only [ho, hx, hy, storeAt_irow h hi hl, Sem.run_bind, Sem.run_pure, Result.andThen_ok]
    exact hK _ _ hn
end Go.Proofs.YtnmegdhidpkklaaDoor
