/-
  Names: built, and the law's own function for them. Conditions: a name's byte is a byte.
-/
import Derived.Test.YtfhpodeppmnopaaFeBlock
namespace Go.Proofs.Ytfhpodeppmnopaa
open Go.RowKit

theorem name_build (c id : Nat) (W : World) : (Instr.build 45 #[(0, .int .u8 (id : Int)), (1, .int .u8 (c : Int))]).run Try.prog W = .ok (.agg ((nmI c id).map (Value.int .u8)).toArray) W := run_build W _ _ _ (by kernel_rfl)
theorem wpList_build_lit {ops : Array Oper} {rest : List Oper} {op : Oper} {a : Act} {w : World} {Q : Exit → Act → World → Prop} (hgd : op.guard = none) (ty : TypeId) (parts : Array (Nat × Operand)) (v : Value) (ho : op.op = .build ty parts)
    (hx : ∀ w, (Instr.build ty (parts.map fun p => (p.1, a.eval p.2))).run Try.prog w = .ok v w)
    (hn : wpList Try.prog ops Q rest (a.put op.dst v) w) : wpList Try.prog ops Q (op :: rest) a w :=
  wpList_plain hgd fun K hK => by
    unfold Oper.wp execOp
    have hx2 := hx w
    simp only [ho, hx2, Sem.run_bind, Sem.run_pure, Result.andThen_ok]
    exact hK _ _ hn
theorem size_name (c id : Nat) : (Try.prog.info? 45).map (·.size) = some (nmI c id).length := by kernel_rfl

set_option maxRecDepth 100000 in
theorem one_name (c id : Nat) (W : World) : (Instr.buildSlice 66 1 #[(0, .agg ((nmI c id).map (Value.int .u8)).toArray)]).run Try.prog W = .ok (.slice (some ⟨W.heap.size, 0, none⟩) 1 1) (W.alloc (.cells ((nmI c id).map (Value.int .u8)).toArray 45)) := by kernel_rfl
set_option maxRecDepth 100000 in
theorem one_raw (c id : Nat) (W : World) : (Instr.buildSlice 67 1 #[(0, .agg ((nmI c id).map (Value.int .u8)).toArray)]).run Try.prog W = .ok (.slice (some ⟨W.heap.size, 0, none⟩) 1 1) (W.alloc (.cells ((nmI c id).map (Value.int .u8)).toArray 39)) := by kernel_rfl
set_option maxRecDepth 100000 in
theorem three_names (c i j k : Nat) (W : World) : (Instr.buildSlice 66 3 #[(0, .agg ((nmI c i).map (Value.int .u8)).toArray), (1, .agg ((nmI c j).map (Value.int .u8)).toArray), (2, .agg ((nmI c k).map (Value.int .u8)).toArray)]).run Try.prog W =
    .ok (.slice (some ⟨W.heap.size, 0, none⟩) 3 3) (W.alloc (.cells ((nmI c i ++ nmI c j ++ nmI c k).map (Value.int .u8)).toArray 45)) := by kernel_rfl
theorem wp_buildSlice {op : Oper} {a : Act} {w : World} {K : Act → World → Prop} {Q : Exit → Act → World → Prop} (t : TypeId) (n : Nat) (parts : Array (Nat × Operand)) (ho : op.op = .buildSlice t n parts) (v : Value) (w' : World)
    (hr : (Instr.buildSlice t n (parts.map fun p => (p.1, a.eval p.2))).run Try.prog w = .ok v w') (h : K (a.put op.dst v) w') : op.wp Try.prog a w K Q := by
  unfold Oper.wp execOp
  simp only [ho, hr, Sem.run_bind, Sem.run_pure, Result.andThen_ok]
  exact h
theorem wpList_buildSlice {ops : Array Oper} {rest : List Oper} {op : Oper} {a : Act} {w : World} {Q : Exit → Act → World → Prop} (hgd : op.guard = none) (t : TypeId) (n : Nat) (parts : Array (Nat × Operand)) (ho : op.op = .buildSlice t n parts) (v : Value) (w' : World)
    (hr : (Instr.buildSlice t n (parts.map fun p => (p.1, a.eval p.2))).run Try.prog w = .ok v w') (h : wpList Try.prog ops Q rest (a.put op.dst v) w') : wpList Try.prog ops Q (op :: rest) a w :=
  wpList_plain hgd fun _ hK => wp_buildSlice t n parts ho v w' hr (hK _ _ h)
/-- Names in a fresh block. -/
theorem nmS_of {w : World} {b : Nat} {t : TypeId} {c : Nat} {ids : List Nat} {xs : List Int} {X : Nat → Prop} (h : IRow w b t .u8 xs) (hx : ∀ i id, ids[i]? = some id → ∀ j v, (nmI c id)[j]? = some v → xs[i * 32 + j]? = some v) (hX : ¬ X b) (hl : ids.length ≤ 9223372036854775807) : NmS w c (.slice (some ⟨b, 0, none⟩) ids.length ids.length) ids X :=
  ⟨_, _, rfl, Nat.le_refl _, hl, fun _ => ⟨b, 0, rfl, h.lt, hX, fun i id hi j v hv => by
    rw [List.getElem?_map] at hv
    cases hq : (nmI c id)[j]? with
    | none => rw [hq] at hv; cases hv
    | some q =>
      rw [hq] at hv
      rw [← Option.some.inj hv, Nat.zero_add]
      exact h.cell (hx i id hi j q hq)⟩⟩

set_option maxRecDepth 100000 in
set_option maxHeartbeats 1600000 in
theorem name_any (id : Nat) (w : World) : Calls Try.prog 12 #[.int .u8 (id : Int)] w fun e w' => e = .returned (nmV 7 id) ∧ Below w.heap.size w w' := by
  have hb := name_build 7 id
  have hz := zero_hash
  have hs := size_name 7 id
  have hs0 := size_hash (nmI 7 id) rfl
  unfold nmV
  obtain ⟨K, hK⟩ : ∃ K, K = nmI 7 id := ⟨_, rfl⟩
  have hKl : K.length = 32 := by rw [hK]; rfl
  rw [← hK] at hs hs0 ⊢
  rw [← hK] at hb
  obtain ⟨ZZ, hZZ⟩ : ∃ ZZ, ZZ = (List.replicate 32 (0 : Int)) := ⟨_, rfl⟩
  have hZl : ZZ.length = 32 := by rw [hZZ]; simp
  rw [← hZZ] at hz
  have hr := irow_setRow_new (w := w) (t := 45) (k := .u8) (xs := ZZ) (ys := K)
  have HB := Lib.hid hb
  have HS := Lib.hid hs
  have HKL := Lib.hid hKl
  have HZL := Lib.hid hZl
  have HR := Lib.hid hr
  have HS0 := Lib.hid hs0
  clear hb hs hs0 hK hKl hZZ hZl hr
  go_enter Try.func12, Try.ntmps12
  go_wp2_with (first
    | (refine wpList_build_lit rfl 45 _ (.agg (K.map (Value.int .u8)).toArray) rfl (fun W => by (simp only [List.map_toArray, List.map_cons, List.map_nil]; exact HB.out W)) ?_)
    | (refine wpList_store_irow rfl 45 _ _ rfl (ys := K) rfl rfl (IRow.new _ _ _ ZZ) HS.out (by rw [HZL.out, HKL.out]) ?_))
  refine bodyPost_ret (v := .agg (K.map (Value.int .u8)).toArray) ?_ rfl ⟨rfl, below_setRow ((Below.refl _ w).alloc (Nat.le_refl _) _) (Nat.le_refl _) _⟩
  exact results_cell_row Try.results12 _ _ w.heap.size 45 (K.map (Value.int .u8)).toArray (0, 0) _ rfl HR.out Try.underlying45 rfl (by rw [List.size_toArray]; exact HS0.out)
end Go.Proofs.Ytfhpodeppmnopaa
