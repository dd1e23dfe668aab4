/-
  Texts joined: Rot, Sched, Sched2. Conditions: those of each.
-/
import Derived.Test.YtfkpdbmgiefnfaaDoorP2
import Derived.StillTailTactics
import Derived.Laws.Tables
import Derived.Deep.MidRow
import Derived.IntWalk
/-
  Words turned round, and read: bits.RotateLeft32, hash.get32, the reference's rot. Conditions: none.
-/
namespace Go.Proofs.YtfkpdbmgiefnfaaDoor
open Go.RowKit

theorem or_be32 (x0 x1 x2 x3 : Int) (a0 : 0 ≤ x0) (b0 : x0 < 256) (a1 : 0 ≤ x1) (b1 : x1 < 256) (a2 : 0 ≤ x2) (b2 : x2 < 256) (a3 : 0 ≤ x3) (b3 : x3 < 256) :
    bits .or .u32 (bits .or .u32 (bits .or .u32 (x0 * 16777216) (x1 * 65536)) (x2 * 256)) x3 = x0 * 16777216 + x1 * 65536 + x2 * 256 + x3 := by
  have e1 : bits .or .u32 (x0 * 16777216) (x1 * 65536) = x0 * 16777216 + x1 * 65536 :=
    bits_join .u32 32 (by decide) wraps_u32 24 _ _ (by omega) (by omega) (by omega) (by omega) (by omega) (by omega)
  have e2 : bits .or .u32 (x0 * 16777216 + x1 * 65536) (x2 * 256) = x0 * 16777216 + x1 * 65536 + x2 * 256 :=
    bits_join .u32 32 (by decide) wraps_u32 16 _ _ (by omega) (by omega) (by omega) (by omega) (by omega) (by omega)
  have e3 : bits .or .u32 (x0 * 16777216 + x1 * 65536 + x2 * 256) x3 = x0 * 16777216 + x1 * 65536 + x2 * 256 + x3 :=
    bits_join .u32 32 (by decide) wraps_u32 8 _ _ (by omega) (by omega) (by omega) (by omega) (by omega) (by omega)
  rw [e1, e2, e3]

set_option maxRecDepth 100000 in
set_option maxHeartbeats 1600000 in
theorem get32_any (b o len c : Nat) (q0 q1 q2 q3 : UInt8) (w : World) (hl : 4 ≤ len) (h0 : w.cell? ⟨b, o, none⟩ = some (bv q0)) (h1 : w.cell? ⟨b, o + 1, none⟩ = some (bv q1)) (h2 : w.cell? ⟨b, o + 2, none⟩ = some (bv q2)) (h3 : w.cell? ⟨b, o + 3, none⟩ = some (bv q3)) :
    Calls Tryd.prog 86 #[.slice (some ⟨b, o, none⟩) len c] w fun e w' => e = .returned (.int .u32 (be32 q0 q1 q2 q3)) ∧ ∃ k, w' = w.drewN k := by
  have a0 := q0.toNat_lt
  have a1 := q1.toNat_lt
  have a2 := q2.toNat_lt
  have a3 := q3.toNat_lt
  have hor := or_be32 q0.toNat q1.toNat q2.toNat q3.toNat (by omega) (by omega) (by omega) (by omega) (by omega) (by omega) (by omega) (by omega)
  unfold bv at h0 h1 h2 h3
  have i0 : (0 : Int) < (len : Int) := by omega
  have i1 : (1 : Int) < (len : Int) := by omega
  have i2 : (2 : Int) < (len : Int) := by omega
  have i3 : (3 : Int) < (len : Int) := by omega
  have u0 : IntKind.u32.wrap (q0.toNat : Int) = (q0.toNat : Int) := by rw [u32_wrap]; omega
  have u1 : IntKind.u32.wrap (q1.toNat : Int) = (q1.toNat : Int) := by rw [u32_wrap]; omega
  have u2 : IntKind.u32.wrap (q2.toNat : Int) = (q2.toNat : Int) := by rw [u32_wrap]; omega
  have u3 : IntKind.u32.wrap (q3.toNat : Int) = (q3.toNat : Int) := by rw [u32_wrap]; omega
  have v0 : IntKind.u32.wrap ((q0.toNat : Int) * 16777216) = (q0.toNat : Int) * 16777216 := by rw [u32_wrap]; omega
  have v1 : IntKind.u32.wrap ((q1.toNat : Int) * 65536) = (q1.toNat : Int) * 65536 := by rw [u32_wrap]; omega
  have v2 : IntKind.u32.wrap ((q2.toNat : Int) * 256) = (q2.toNat : Int) * 256 := by rw [u32_wrap]; omega
  go_enter Tryd.func86, Tryd.ntmps86
  go_wp2_with fail
  go_quiet (fail)
  go_wp2
  go_ret
  exact ⟨rfl, _, rfl⟩
end Go.Proofs.YtfkpdbmgiefnfaaDoor

/-
  hash.schedule256. Conditions: the block has 64 bytes.
-/
namespace Go.Proofs.YtfkpdbmgiefnfaaDoor
open Go.RowKit

theorem isU32_cells (xs : List Int) (k : IntKind) : (xs.map (Value.int k)).toArray.all (·.oneCell') = true :=
  Array.all_eq_true_iff_forall_mem.2 (fun v hv => by
    have h : v ∈ xs.map (Value.int k) := by simpa using hv
    obtain ⟨z, _, rfl⟩ := List.mem_map.1 h
    rfl)
theorem load_irow {w : World} {g : Nat} {t ty : TypeId} {k : IntKind} {xs : List Int} {n : Nat} {e : TypeId} (h : IRow w g t k xs) (hu : Tryd.prog.underlying ty = some (.array n e)) (hi : (Tryd.prog.info? ty).map (·.size) = some xs.length) :
    (loadVar ty ⟨g, 0, none⟩).run Tryd.prog w = .ok (.agg (xs.map (Value.int k)).toArray) w :=
  run_loadVar_row w g t ty _ (0, 0) (.array n e) h hu rfl (by rw [hi]; simp)
theorem loadAt_irow {w : World} {g : Nat} {t ty : TypeId} {k : IntKind} {xs : List Int} {n : Nat} {e : TypeId} (h : IRow w g t k xs) (hu : Tryd.prog.underlying ty = some (.array n e)) (hi : (Tryd.prog.info? ty).map (·.size) = some xs.length) :
    (Instr.loadAt ty (.pointer (some ⟨g, 0, none⟩))).run Tryd.prog w = .ok (.agg (xs.map (Value.int k)).toArray) w := by
  simp only [Instr.loadAt, Instr.sureAddr, Sem.run_bind, Sem.run_pure, Result.andThen_ok, load_irow h hu hi]
theorem storeAt_irow {w : World} {g : Nat} {t ty : TypeId} {k : IntKind} {xs ys : List Int} (h : IRow w g t k xs) (hi : (Tryd.prog.info? ty).map (·.size) = some ys.length) (hl : xs.length = ys.length) :
    (Instr.storeAt ty (.pointer (some ⟨g, 0, none⟩)) (.agg (ys.map (Value.int k)).toArray)).run Tryd.prog w = .ok () (w.setRow g (ys.map (Value.int k)).toArray) := by
  simp only [Instr.storeAt, Instr.sureAddr, Sem.run_bind, Sem.run_pure, Result.andThen_ok]
  exact run_storeVar_row w g t ty _ _ h (by rw [hi]; simp) (by simp [hl]) (isU32_cells _ _)
theorem setRow_irow {w : World} {g : Nat} {t : TypeId} {k : IntKind} {xs ys : List Int} (h : IRow w g t k xs) : IRow (w.setRow g (ys.map (Value.int k)).toArray) g t k ys := by
  unfold IRow at h ⊢
  simp [World.setRow, Array.getElem?_modify, h]
theorem below_setRow {B : Nat} {a w : World} (h : Below B a w) {g : Nat} (hg : B ≤ g) (cs : Array Value) : Below B a (w.setRow g cs) :=
  ⟨h.os, h.tape, h.output, by simpa [World.setRow] using h.size, fun k hk => by
    have e : (w.setRow g cs).heap[k]? = w.heap[k]? := by
      simp only [World.setRow, Array.getElem?_modify]
      rw [if_neg (by omega)]
    rw [e]; exact h.block k hk⟩
theorem wpList_load_irow {ops : Array Oper} {rest : List Oper} {op : Oper} {a : Act} {w : World} {Q : Exit → Act → World → Prop} (hgd : op.guard = none) (ty : TypeId) (x : Operand) (ho : op.op = .load ty x)
    {g : Nat} {t : TypeId} {k : IntKind} {xs : List Int} {n : Nat} {e : TypeId} (hx : a.eval x = .pointer (some ⟨g, 0, none⟩)) (h : IRow w g t k xs) (hu : Tryd.prog.underlying ty = some (.array n e)) (hi : (Tryd.prog.info? ty).map (·.size) = some xs.length)
    (hn : wpList Tryd.prog ops Q rest (a.put op.dst (.agg (xs.map (Value.int k)).toArray)) w) : wpList Tryd.prog ops Q (op :: rest) a w :=
  wpList_plain hgd fun K hK => by
    unfold Oper.wp execOp
    simp only [ho, hx, loadAt_irow h hu hi, Sem.run_bind, Sem.run_pure, Result.andThen_ok]
    exact hK _ _ hn
theorem wpList_store_irow {ops : Array Oper} {rest : List Oper} {op : Oper} {a : Act} {w : World} {Q : Exit → Act → World → Prop} (hgd : op.guard = none) (ty : TypeId) (x y : Operand) (ho : op.op = .store ty x y)
    {g : Nat} {t : TypeId} {k : IntKind} {xs ys : List Int} (hx : a.eval x = .pointer (some ⟨g, 0, none⟩)) (hy : a.eval y = .agg (ys.map (Value.int k)).toArray) (h : IRow w g t k xs) (hi : (Tryd.prog.info? ty).map (·.size) = some ys.length) (hl : xs.length = ys.length)
    (hn : wpList Tryd.prog ops Q rest (a.put op.dst undef) (w.setRow g (ys.map (Value.int k)).toArray)) : wpList Tryd.prog ops Q (op :: rest) a w :=
  wpList_plain hgd fun K hK => by
    unfold Oper.wp execOp
    simp only [ho, hx, hy, storeAt_irow h hi hl, Sem.run_bind, Sem.run_pure, Result.andThen_ok]
    exact hK _ _ hn
end Go.Proofs.YtfkpdbmgiefnfaaDoor

/-
  hash.schedule256, walked. Conditions: the block has 64 bytes.
-/
namespace Go.Proofs.YtfkpdbmgiefnfaaDoor
open Go.RowKit

theorem wordAt_cells {bs : List UInt8} {t : Nat} (h : 4 * t + 4 ≤ bs.length) : ∃ q0 q1 q2 q3, bs[4 * t]? = some q0 ∧ bs[4 * t + 1]? = some q1 ∧ bs[4 * t + 2]? = some q2 ∧ bs[4 * t + 3]? = some q3 ∧ wordAt bs t = be32 q0 q1 q2 q3 := by
  refine ⟨bs[4 * t]'(by omega), bs[4 * t + 1]'(by omega), bs[4 * t + 2]'(by omega), bs[4 * t + 3]'(by omega), List.getElem?_eq_getElem _, List.getElem?_eq_getElem _, List.getElem?_eq_getElem _, List.getElem?_eq_getElem _, ?_⟩
  unfold wordAt
  simp only [List.getD_eq_getElem?_getD]
  rw [List.getElem?_eq_getElem (show 4 * t < bs.length by omega), List.getElem?_eq_getElem (show 4 * t + 1 < bs.length by omega), List.getElem?_eq_getElem (show 4 * t + 2 < bs.length by omega), List.getElem?_eq_getElem (show 4 * t + 3 < bs.length by omega)]
  rfl
def wordsN (bs : List UInt8) (t : Nat) : List Int := (List.range t).map (wordAt bs)
theorem wordsN_succ (bs : List UInt8) (t : Nat) : wordsN bs (t + 1) = wordsN bs t ++ [wordAt bs t] := by simp [wordsN, List.range_succ]
theorem wordsN_length (bs : List UInt8) (t : Nat) : (wordsN bs t).length = t := by simp [wordsN]

theorem nextW_u (ws : List Int) : U32 (nextW ws) := add32_u _ _
theorem sched_u (bs : List UInt8) : ∀ n, ∀ x ∈ schedN (words16 bs) n, U32 x
  | 0, x, hx => by
    unfold schedN words16 at hx
    obtain ⟨t, _, rfl⟩ := List.mem_map.1 hx
    exact be32_u _ _ _ _
  | n + 1, x, hx => by
    rw [schedN] at hx
    rcases List.mem_append.1 hx with h | h
    · exact sched_u bs n x h
    · rw [List.mem_singleton.1 h]
      exact nextW_u _

end Go.Proofs.YtfkpdbmgiefnfaaDoor
