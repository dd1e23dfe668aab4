/-
  Rows of integers that may be written, and arrays of 32 bytes by value: boxed, loaded, stored. Conditions: none.
-/
import Derived.Test.YtfhpodeppmnopaaOwn
import Derived.Test.YtfhpodeppmnopaaNumP
import Derived.Laws.Tables
import Derived.Laws.Rows
import Derived.Deep.MidRow
import Derived.Stop.BytesEq
namespace Go.Proofs.Ytfhpodeppmnopaa
open Go.RowKit

/-- Block g holds these numbers of kind k, and may be written. -/
def IRow (w : World) (g : Nat) (t : TypeId) (k : IntKind) (xs : List Int) : Prop := w.heap[g]? = some (.cells (xs.map (Value.int k)).toArray t (0, 0))
section
variable {w w' : World} {g : Nat} {t : TypeId} {k : IntKind} {xs : List Int}
theorem IRow.lt (h : IRow w g t k xs) : g < w.heap.size := (Array.getElem?_eq_some_iff.1 h).1
theorem IRow.cell (h : IRow w g t k xs) {i : Nat} {z : Int} (hi : xs[i]? = some z) : w.cell? ⟨g, i, none⟩ = some (.int k z) := by
  rw [cell_of_row w g i _ _ _ h]
  simp [hi]
theorem IRow.free (h : IRow w g t k xs) (i : Nat) : w.frozen? ⟨g, i, none⟩ = false := by
  unfold IRow at h
  simp [World.frozen?, h]
theorem IRow.set (h : IRow w g t k xs) (i : Nat) (z : Int) : IRow (w.setCell ⟨g, i, none⟩ (.int k z)) g t k (xs.set i z) := by
  unfold IRow at h ⊢
  simp [World.setCell, Array.getElem?_modify, h, List.map_set]
theorem IRow.setCell (h : IRow w g t k xs) {p : Addr} (hp : p.block ≠ g) (v : Value) : IRow (w.setCell p v) g t k xs := (Below.heap_setCell _ _ _ _ (fun e => hp e.symm)).trans h
theorem IRow.alloc (h : IRow w g t k xs) (o : Obj) : IRow (w.alloc o) g t k xs := (Below.heap_alloc _ _ _ h.lt).trans h
theorem IRow.turns {S : Nat → Prop} (h : IRow w g t k xs) (ht : Turns S w w') (hS : ¬ S g) : IRow w' g t k xs := (ht.block g h.lt hS).trans h
theorem IRow.below {B : Nat} (h : IRow w g t k xs) (hb : Below B w w') (hg : g < B) : IRow w' g t k xs := (hb.block g hg).trans h
theorem IRow.drew (h : IRow w g t k xs) : IRow w.drew g t k xs := h
theorem IRow.drewN (h : IRow w g t k xs) (n : Nat) : IRow (w.drewN n) g t k xs := h
theorem IRow.new (w : World) (t : TypeId) (k : IntKind) (xs : List Int) : IRow (w.alloc (.cells (xs.map (Value.int k)).toArray t)) w.heap.size t k xs := heap_alloc_new w _
theorem IRow.new0 (w : World) (t : TypeId) (k : IntKind) (xs : List Int) : IRow (w.alloc (.cells (xs.map (Value.int k)).toArray t (0, 0))) w.heap.size t k xs := heap_alloc_new w _
end

theorem ints_cells (xs : List Int) (k : IntKind) : (xs.map (Value.int k)).toArray.all (·.oneCell') = true :=
  Array.all_eq_true_iff_forall_mem.2 (fun v hv => by
    have h : v ∈ xs.map (Value.int k) := by simpa using hv
    obtain ⟨z, _, rfl⟩ := List.mem_map.1 h
    rfl)
theorem load_irow {w : World} {g : Nat} {t ty : TypeId} {k : IntKind} {xs : List Int} {n : Nat} {e : TypeId} (h : IRow w g t k xs) (hu : Try.prog.underlying ty = some (.array n e)) (hi : (Try.prog.info? ty).map (·.size) = some xs.length) :
    (loadVar ty ⟨g, 0, none⟩).run Try.prog w = .ok (.agg (xs.map (Value.int k)).toArray) w :=
  run_loadVar_row w g t ty _ (0, 0) (.array n e) h hu rfl (by rw [hi]; simp)
theorem loadAt_irow {w : World} {g : Nat} {t ty : TypeId} {k : IntKind} {xs : List Int} {n : Nat} {e : TypeId} (h : IRow w g t k xs) (hu : Try.prog.underlying ty = some (.array n e)) (hi : (Try.prog.info? ty).map (·.size) = some xs.length) :
    (Instr.loadAt ty (.pointer (some ⟨g, 0, none⟩))).run Try.prog w = .ok (.agg (xs.map (Value.int k)).toArray) w := by
  simp only [Instr.loadAt, Instr.sureAddr, Sem.run_bind, Sem.run_pure, Result.andThen_ok, load_irow h hu hi]
theorem storeAt_irow {w : World} {g : Nat} {t ty : TypeId} {k : IntKind} {xs ys : List Int} (h : IRow w g t k xs) (hi : (Try.prog.info? ty).map (·.size) = some ys.length) (hl : xs.length = ys.length) :
    (Instr.storeAt ty (.pointer (some ⟨g, 0, none⟩)) (.agg (ys.map (Value.int k)).toArray)).run Try.prog w = .ok () (w.setRow g (ys.map (Value.int k)).toArray) := by
  simp only [Instr.storeAt, Instr.sureAddr, Sem.run_bind, Sem.run_pure, Result.andThen_ok]
  exact run_storeVar_row w g t ty _ _ h (by rw [hi]; simp) (by simp [hl]) (ints_cells _ _)
theorem setRow_irow {w : World} {g : Nat} {t : TypeId} {k : IntKind} {xs ys : List Int} (h : IRow w g t k xs) : IRow (w.setRow g (ys.map (Value.int k)).toArray) g t k ys := by
  unfold IRow at h ⊢
  simp [World.setRow, Array.getElem?_modify, h]
theorem IRow.setRow {w : World} {g g2 : Nat} {t : TypeId} {k : IntKind} {xs : List Int} (h : IRow w g t k xs) (hne : g2 ≠ g) (cs : Array Value) : IRow (w.setRow g2 cs) g t k xs := by
  unfold IRow at h ⊢
  simp [World.setRow, Array.getElem?_modify, h, hne]
theorem below_setRow {B : Nat} {a w : World} (h : Below B a w) {g : Nat} (hg : B ≤ g) (cs : Array Value) : Below B a (w.setRow g cs) :=
  ⟨h.os, h.tape, h.output, by simpa [World.setRow] using h.size, fun k hk => by
    have e : (w.setRow g cs).heap[k]? = w.heap[k]? := by
      simp only [World.setRow, Array.getElem?_modify]
      rw [if_neg (by omega)]
    rw [e]; exact h.block k hk⟩
theorem wpList_load_irow {ops : Array Oper} {rest : List Oper} {op : Oper} {a : Act} {w : World} {Q : Exit → Act → World → Prop} (hgd : op.guard = none) (ty : TypeId) (x : Operand) (ho : op.op = .load ty x)
    {g : Nat} {t : TypeId} {k : IntKind} {xs : List Int} {n : Nat} {e : TypeId} (hx : a.eval x = .pointer (some ⟨g, 0, none⟩)) (h : IRow w g t k xs) (hu : Try.prog.underlying ty = some (.array n e)) (hi : (Try.prog.info? ty).map (·.size) = some xs.length)
    (hn : wpList Try.prog ops Q rest (a.put op.dst (.agg (xs.map (Value.int k)).toArray)) w) : wpList Try.prog ops Q (op :: rest) a w :=
  wpList_plain hgd fun K hK => by
    unfold Oper.wp execOp
    simp only [ho, hx, loadAt_irow h hu hi, Sem.run_bind, Sem.run_pure, Result.andThen_ok]
    exact hK _ _ hn
theorem wpList_load_irow_g {ops : Array Oper} {rest : List Oper} {op : Oper} {a : Act} {w : World} {Q : Exit → Act → World → Prop} (hgd : Region.wanted op (yielded ops a.tmps) = true) (ty : TypeId) (x : Operand) (ho : op.op = .load ty x)
    {g : Nat} {t : TypeId} {k : IntKind} {xs : List Int} {n : Nat} {e : TypeId} (hx : a.eval x = .pointer (some ⟨g, 0, none⟩)) (h : IRow w g t k xs) (hu : Try.prog.underlying ty = some (.array n e)) (hi : (Try.prog.info? ty).map (·.size) = some xs.length)
    (hn : wpList Try.prog ops Q rest (a.put op.dst (.agg (xs.map (Value.int k)).toArray)) w) : wpList Try.prog ops Q (op :: rest) a w :=
  wpList_step fun K hK => by
    rw [if_pos hgd]
    unfold Oper.wp execOp
    simp only [ho, hx, loadAt_irow h hu hi, Sem.run_bind, Sem.run_pure, Result.andThen_ok]
    exact hK _ _ hn
theorem wpList_store_irow {ops : Array Oper} {rest : List Oper} {op : Oper} {a : Act} {w : World} {Q : Exit → Act → World → Prop} (hgd : op.guard = none) (ty : TypeId) (x y : Operand) (ho : op.op = .store ty x y)
    {g : Nat} {t : TypeId} {k : IntKind} {xs ys : List Int} (hx : a.eval x = .pointer (some ⟨g, 0, none⟩)) (hy : a.eval y = .agg (ys.map (Value.int k)).toArray) (h : IRow w g t k xs) (hi : (Try.prog.info? ty).map (·.size) = some ys.length) (hl : xs.length = ys.length)
    (hn : wpList Try.prog ops Q rest (a.put op.dst undef) (w.setRow g (ys.map (Value.int k)).toArray)) : wpList Try.prog ops Q (op :: rest) a w :=
  wpList_plain hgd fun K hK => by
    unfold Oper.wp execOp
    simp only [ho, hx, hy, storeAt_irow h hi hl, Sem.run_bind, Sem.run_pure, Result.andThen_ok]
    exact hK _ _ hn

/-! Numbers as arrays of 32 bytes -/
/-- A number as a value. -/
def numA (n : Nat) : Array Value := ((num n).map (Value.int .u8)).toArray
def numV (n : Nat) : Value := .agg (numA n)
theorem info_32 : (Try.prog.info? 39).map (·.size) = some 32 := by kernel_rfl
def zeroA : Array Value := ((List.replicate 32 (0 : Int)).map (Value.int .u8)).toArray
theorem numA_zero : numA 0 = zeroA := by unfold numA zeroA; rw [num_zero]
theorem num_bytes (n : Nat) : ∃ ys : List UInt8, (num n).map (Value.int .u8) = ys.map bv ∧ ys.length = 32 ∧ num n = ys.map (fun u => (u.toNat : Int)) := by
  refine ⟨(List.range 32).map fun i => UInt8.ofNat (dg n i), ?_, by simp, ?_⟩
  · unfold num
    rw [List.map_map, List.map_map]
    refine List.map_congr_left fun i _ => ?_
    show Value.int .u8 ((dg n i : Nat) : Int) = bv (UInt8.ofNat (dg n i))
    unfold bv
    rw [UInt8.toNat_ofNat', Nat.mod_eq_of_lt (by have := dg_lt n i; omega)]
  · unfold num
    rw [List.map_map]
    refine List.map_congr_left fun i _ => ?_
    show ((dg n i : Nat) : Int) = ((UInt8.ofNat (dg n i)).toNat : Int)
    rw [UInt8.toNat_ofNat', Nat.mod_eq_of_lt (by have := dg_lt n i; omega)]
theorem eq_num_at (ty : TypeId) (hu : Try.prog.underlying ty = some (.array 32 5)) {a b : Nat} (ha : a < top) (hb : b < top) (w : World) : (Op.equalIn 10000 ty (numV a) (numV b)).run Try.prog w = .ok (decide (a = b)) w := by
  obtain ⟨i0, hi, hz0, hz1, hz2⟩ := info_parts info_u8
  obtain ⟨xs, ex, hx, nx⟩ := num_bytes a
  obtain ⟨ys, ey, hy, ny⟩ := num_bytes b
  unfold numV numA
  rw [ex, ey]
  have h := run_equalIn_bytes (P := Try.prog) w 9998 ty 5 32 hu Try.underlying5 (fun w => by simp [sizeOf, typeInfo, hi, hz1]) xs ys hx hy
  refine Eq.trans h ?_
  congr 1
  rw [Bool.eq_iff_iff]
  simp only [beq_iff_eq, decide_eq_true_eq]
  constructor
  · intro e
    subst e
    exact num_inj ha hb (by rw [nx, ny])
  · intro e
    subst e
    have e2 : xs.map bv = ys.map bv := by rw [← ex, ← ey]
    apply List.ext_getElem?
    intro i
    have e3 := congrArg (·[i]?) e2
    simp only [List.getElem?_map] at e3
    cases h1 : xs[i]? <;> cases h2 : ys[i]? <;> rw [h1, h2] at e3 <;> simp at e3
    · rw [bv_inj e3]
end Go.Proofs.Ytfhpodeppmnopaa
