/-
  hash.kind256, walked. Conditions: the roots are laid.
-/
import Derived.Test.YtnmegdhidpkklaaDoorStep256
namespace Go.Proofs.YtnmegdhidpkklaaDoor
open Go.RowKit

/-- Block g holds these values, and may be written. -/
def VRow (w : World) (g : Nat) (t : TypeId) (vs : List Value) : Prop := w.heap[g]? = some (.cells vs.toArray t (0, 0))
section
variable {w w' : World} {g : Nat} {t : TypeId} {vs : List Value}
theorem VRow.lt (h : VRow w g t vs) : g < w.heap.size := (Array.getElem?_eq_some_iff.1 h).1
theorem VRow.cell (h : VRow w g t vs) {i : Nat} {z : Value} (hi : vs[i]? = some z) : w.cell? ⟨g, i, none⟩ = some z := by
  rw [cell_of_row w g i _ _ _ h]
  simp [hi]
theorem VRow.free (h : VRow w g t vs) (i : Nat) : w.frozen? ⟨g, i, none⟩ = false := by
  unfold VRow at h
  simp [World.frozen?, h]
theorem VRow.set (h : VRow w g t vs) (i : Nat) (z : Value) : VRow (w.setCell ⟨g, i, none⟩ z) g t (vs.set i z) := by
  unfold VRow at h ⊢
  simp [World.setCell, Array.getElem?_modify, h]
theorem VRow.below {B : Nat} (h : VRow w g t vs) (hb : Below B w w') (hg : g < B) : VRow w' g t vs := (hb.block g hg).trans h
theorem VRow.new (w : World) (t : TypeId) (vs : List Value) : VRow (w.alloc (.cells vs.toArray t)) w.heap.size t vs := heap_alloc_new w _
theorem VRow.setRow (h : VRow w g t vs) (us : List Value) : VRow (w.setRow g us.toArray) g t us := by
  unfold VRow at h ⊢
  simp [World.setRow, Array.getElem?_modify, h]
end
theorem wpList_load_vrow {ops : Array Oper} {rest : List Oper} {op : Oper} {a : Act} {w : World} {Q : Exit → Act → World → Prop} (hgd : op.guard = none) (ty : TypeId) (x : Operand) (ho : op.op = .load ty x)
    {g : Nat} {t : TypeId} {vs : List Value} {fs : Array Field} (hx : a.eval x = .pointer (some ⟨g, 0, none⟩)) (h : VRow w g t vs) (hu : Tryd.prog.underlying ty = some (.struct fs)) (hi : (Tryd.prog.info? ty).map (·.size) = some vs.length)
    (hn : wpList Tryd.prog ops Q rest (a.put op.dst (.agg vs.toArray)) w) : wpList Tryd.prog ops Q (op :: rest) a w :=
  wpList_load_row hgd ty x ho g hx t vs.toArray (0, 0) (.struct fs) h hu rfl (by rw [hi, List.size_toArray]) hn
theorem wpList_store_vrow {ops : Array Oper} {rest : List Oper} {op : Oper} {a : Act} {w : World} {Q : Exit → Act → World → Prop} (hgd : op.guard = none) (ty : TypeId) (x y : Operand) (ho : op.op = .store ty x y)
    {g : Nat} {t : TypeId} {vs us : List Value} (hx : a.eval x = .pointer (some ⟨g, 0, none⟩)) (hy : a.eval y = .agg us.toArray) (h : VRow w g t vs) (hi : (Tryd.prog.info? ty).map (·.size) = some us.length) (hl : vs.length = us.length) (h1 : us.toArray.all (·.oneCell') = true)
    (hn : wpList Tryd.prog ops Q rest (a.put op.dst undef) (w.setRow g us.toArray)) : wpList Tryd.prog ops Q (op :: rest) a w :=
  wpList_plain hgd fun K hK => by
    unfold Oper.wp execOp
    have hst : (Instr.storeAt ty (.pointer (some ⟨g, 0, none⟩)) (.agg us.toArray)).run Tryd.prog w = .ok () (w.setRow g us.toArray) := by
      simp only [Instr.storeAt, Instr.sureAddr, Sem.run_bind, Sem.run_pure, Result.andThen_ok]
      exact run_storeVar_row w g t ty _ _ h (by rw [hi]; simp) (by simp [hl]) h1
    simp only [ho, hx, hy, hst, Sem.run_bind, Sem.run_pure, Result.andThen_ok]
    exact hK _ _ hn

def s512 : List Int := [0x6a09e667f3bcc908, 0xbb67ae8584caa73b, 0x3c6ef372fe94f82b, 0xa54ff53a5f1d36f1, 0x510e527fade682d1, 0x9b05688c2b3e6c1f, 0x1f83d9abfb41bd6b, 0x5be0cd19137e2179]
/-- The square roots lie in the program's memory. -/
def RootIs (w : World) : Prop := 0 < w.heap.size ∧ ∀ (t : Nat) (k : Int), s512[t]? = some k → w.cell? ⟨0, t, none⟩ = some (.int .u64 k)
theorem RootIs.below {w w' : World} {B : Nat} (h : RootIs w) (hb : Below B w w') (hB : 0 < B) : RootIs w' := by
  refine ⟨Nat.lt_of_lt_of_le h.1 hb.size, fun t k hk => ?_⟩
  exact (hb.cell (p := ⟨0, t, none⟩) hB).trans (h.2 t k hk)

theorem info_kind : (Tryd.prog.info? 96).map (·.size) = some 10 := by kernel_rfl
/-- What kind256 gives, when i words are in. -/
def kRow (i : Nat) : List Value := .int .i64 64 :: ((List.range 8).map (fun k => .int .u32 (if k < i then h256.getD k 0 else 0)) ++ [.func (.func 72) #[] #[]])
def zRow : List Value := [.int .i64 0, .int .u32 0, .int .u32 0, .int .u32 0, .int .u32 0, .int .u32 0, .int .u32 0, .int .u32 0, .int .u32 0, .nilFunc]
def k0Row : List Value := [.int .i64 64, .int .u32 0, .int .u32 0, .int .u32 0, .int .u32 0, .int .u32 0, .int .u32 0, .int .u32 0, .int .u32 0, .func (.func 72) #[] #[]]
theorem k0Row_is : k0Row = kRow 0 := rfl
theorem k0Row_one : k0Row.toArray.all (·.oneCell') = true := by simp [k0Row, Value.oneCell']
theorem kRow_one : (kRow 8).toArray.all (·.oneCell') = true := by simp [kRow, Value.oneCell', List.range_succ]
theorem kRow_next {i : Nat} (hi : i < 8) : (kRow i).set (1 + i) (.int .u32 (h256.getD i 0)) = kRow (i + 1) := by
  obtain rfl | rfl | rfl | rfl | rfl | rfl | rfl | rfl : i = 0 ∨ i = 1 ∨ i = 2 ∨ i = 3 ∨ i = 4 ∨ i = 5 ∨ i = 6 ∨ i = 7 := by omega
  all_goals rfl
theorem kRow_at {i : Nat} (hi : i < 8) : (kRow i)[1 + i]? = some (.int .u32 0) := by
  obtain rfl | rfl | rfl | rfl | rfl | rfl | rfl | rfl : i = 0 ∨ i = 1 ∨ i = 2 ∨ i = 3 ∨ i = 4 ∨ i = 5 ∨ i = 6 ∨ i = 7 := by omega
  all_goals rfl
theorem root8 {i : Nat} (hi : i < 8) : ∃ v, v / 4294967296 = h256.getD i 0 ∧ 0 ≤ v / 4294967296 ∧ v / 4294967296 < 4294967296 ∧ ∀ w, (Instr.index 76 (.agg #[.int .u64 0x6a09e667f3bcc908, .int .u64 0xbb67ae8584caa73b, .int .u64 0x3c6ef372fe94f82b, .int .u64 0xa54ff53a5f1d36f1, .int .u64 0x510e527fade682d1, .int .u64 0x9b05688c2b3e6c1f, .int .u64 0x1f83d9abfb41bd6b, .int .u64 0x5be0cd19137e2179]) (.int .i64 i)).run Tryd.prog w = .ok (.int .u64 v) w := by
  obtain rfl | rfl | rfl | rfl | rfl | rfl | rfl | rfl : i = 0 ∨ i = 1 ∨ i = 2 ∨ i = 3 ∨ i = 4 ∨ i = 5 ∨ i = 6 ∨ i = 7 := by omega
  · exact ⟨0x6a09e667f3bcc908, rfl, by decide, by decide, fun w => by kernel_rfl⟩
  · exact ⟨0xbb67ae8584caa73b, rfl, by decide, by decide, fun w => by kernel_rfl⟩
  · exact ⟨0x3c6ef372fe94f82b, rfl, by decide, by decide, fun w => by kernel_rfl⟩
  · exact ⟨0xa54ff53a5f1d36f1, rfl, by decide, by decide, fun w => by kernel_rfl⟩
  · exact ⟨0x510e527fade682d1, rfl, by decide, by decide, fun w => by kernel_rfl⟩
  · exact ⟨0x9b05688c2b3e6c1f, rfl, by decide, by decide, fun w => by kernel_rfl⟩
  · exact ⟨0x1f83d9abfb41bd6b, rfl, by decide, by decide, fun w => by kernel_rfl⟩
  · exact ⟨0x5be0cd19137e2179, rfl, by decide, by decide, fun w => by kernel_rfl⟩
set_option maxRecDepth 100000 in
set_option maxHeartbeats 3200000 in
theorem kind256_any (w : World) (hroot : RootIs w) :
    Calls Tryd.prog 53 #[] w fun e w' => e = .returned (.agg (kRow 8).toArray) ∧ Below w.heap.size w w' := by
  have k0 := hroot.2 0 _ rfl
  have k1 := hroot.2 1 _ rfl
  have k2 := hroot.2 2 _ rfl
  have k3 := hroot.2 3 _ rfl
  have k4 := hroot.2 4 _ rfl
  have k5 := hroot.2 5 _ rfl
  have k6 := hroot.2 6 _ rfl
  have k7 := hroot.2 7 _ rfl
  have hg := hroot.1
  have HR := Lib.hid hroot
  clear hroot
  go_enter Tryd.func53, Tryd.ntmps53
  have r0 := VRow.new w 96 zRow
  have r1 := VRow.new (w.alloc (.cells zRow.toArray 96)) 96 zRow
  have hs1 : (w.alloc (.cells zRow.toArray 96)).heap.size = w.heap.size + 1 := by simp
  rw [hs1] at r1
  have R0 := Lib.hid r0
  have R1 := Lib.hid r1
  clear r0 r1 hs1
  have rk := R1.out.setRow k0Row
  rw [k0Row_is] at rk
  have b1 : Below w.heap.size w (((w.alloc (.cells zRow.toArray 96)).alloc (.cells zRow.toArray 96)).setRow (w.heap.size + 1) k0Row.toArray) := below_setRow (((Below.refl _ w).alloc (Nat.le_refl _) _).alloc (by simp) _) (Nat.le_succ _) _
  have rz : VRow (((w.alloc (.cells zRow.toArray 96)).alloc (.cells zRow.toArray 96)).setRow (w.heap.size + 1) k0Row.toArray) w.heap.size 96 zRow := R0.out.below (below_setRow ((Below.refl (w.heap.size + 1) _).alloc (by simp) _) (Nat.le_refl _) _) (Nat.lt_succ_self _)
  have hr2 := HR.out.below b1 hg
  have m0 : (((w.alloc (.cells #[.int .i64 0, .int .u32 0, .int .u32 0, .int .u32 0, .int .u32 0, .int .u32 0, .int .u32 0, .int .u32 0, .int .u32 0, .nilFunc] 96)).alloc (.cells #[.int .i64 0, .int .u32 0, .int .u32 0, .int .u32 0, .int .u32 0, .int .u32 0, .int .u32 0, .int .u32 0, .int .u32 0, .nilFunc] 96)).setRow (w.heap.size + 1) k0Row.toArray).cell? ⟨0, 0, none⟩ = some (.int .u64 0x6a09e667f3bcc908) := hr2.2 0 _ rfl
  have m1 : (((w.alloc (.cells #[.int .i64 0, .int .u32 0, .int .u32 0, .int .u32 0, .int .u32 0, .int .u32 0, .int .u32 0, .int .u32 0, .int .u32 0, .nilFunc] 96)).alloc (.cells #[.int .i64 0, .int .u32 0, .int .u32 0, .int .u32 0, .int .u32 0, .int .u32 0, .int .u32 0, .int .u32 0, .int .u32 0, .nilFunc] 96)).setRow (w.heap.size + 1) k0Row.toArray).cell? ⟨0, 1, none⟩ = some (.int .u64 0xbb67ae8584caa73b) := hr2.2 1 _ rfl
  have m2 : (((w.alloc (.cells #[.int .i64 0, .int .u32 0, .int .u32 0, .int .u32 0, .int .u32 0, .int .u32 0, .int .u32 0, .int .u32 0, .int .u32 0, .nilFunc] 96)).alloc (.cells #[.int .i64 0, .int .u32 0, .int .u32 0, .int .u32 0, .int .u32 0, .int .u32 0, .int .u32 0, .int .u32 0, .int .u32 0, .nilFunc] 96)).setRow (w.heap.size + 1) k0Row.toArray).cell? ⟨0, 2, none⟩ = some (.int .u64 0x3c6ef372fe94f82b) := hr2.2 2 _ rfl
  have m3 : (((w.alloc (.cells #[.int .i64 0, .int .u32 0, .int .u32 0, .int .u32 0, .int .u32 0, .int .u32 0, .int .u32 0, .int .u32 0, .int .u32 0, .nilFunc] 96)).alloc (.cells #[.int .i64 0, .int .u32 0, .int .u32 0, .int .u32 0, .int .u32 0, .int .u32 0, .int .u32 0, .int .u32 0, .int .u32 0, .nilFunc] 96)).setRow (w.heap.size + 1) k0Row.toArray).cell? ⟨0, 3, none⟩ = some (.int .u64 0xa54ff53a5f1d36f1) := hr2.2 3 _ rfl
  have m4 : (((w.alloc (.cells #[.int .i64 0, .int .u32 0, .int .u32 0, .int .u32 0, .int .u32 0, .int .u32 0, .int .u32 0, .int .u32 0, .int .u32 0, .nilFunc] 96)).alloc (.cells #[.int .i64 0, .int .u32 0, .int .u32 0, .int .u32 0, .int .u32 0, .int .u32 0, .int .u32 0, .int .u32 0, .int .u32 0, .nilFunc] 96)).setRow (w.heap.size + 1) k0Row.toArray).cell? ⟨0, 4, none⟩ = some (.int .u64 0x510e527fade682d1) := hr2.2 4 _ rfl
  have m5 : (((w.alloc (.cells #[.int .i64 0, .int .u32 0, .int .u32 0, .int .u32 0, .int .u32 0, .int .u32 0, .int .u32 0, .int .u32 0, .int .u32 0, .nilFunc] 96)).alloc (.cells #[.int .i64 0, .int .u32 0, .int .u32 0, .int .u32 0, .int .u32 0, .int .u32 0, .int .u32 0, .int .u32 0, .int .u32 0, .nilFunc] 96)).setRow (w.heap.size + 1) k0Row.toArray).cell? ⟨0, 5, none⟩ = some (.int .u64 0x9b05688c2b3e6c1f) := hr2.2 5 _ rfl
  have m6 : (((w.alloc (.cells #[.int .i64 0, .int .u32 0, .int .u32 0, .int .u32 0, .int .u32 0, .int .u32 0, .int .u32 0, .int .u32 0, .int .u32 0, .nilFunc] 96)).alloc (.cells #[.int .i64 0, .int .u32 0, .int .u32 0, .int .u32 0, .int .u32 0, .int .u32 0, .int .u32 0, .int .u32 0, .int .u32 0, .nilFunc] 96)).setRow (w.heap.size + 1) k0Row.toArray).cell? ⟨0, 6, none⟩ = some (.int .u64 0x1f83d9abfb41bd6b) := hr2.2 6 _ rfl
  have m7 : (((w.alloc (.cells #[.int .i64 0, .int .u32 0, .int .u32 0, .int .u32 0, .int .u32 0, .int .u32 0, .int .u32 0, .int .u32 0, .int .u32 0, .nilFunc] 96)).alloc (.cells #[.int .i64 0, .int .u32 0, .int .u32 0, .int .u32 0, .int .u32 0, .int .u32 0, .int .u32 0, .int .u32 0, .int .u32 0, .nilFunc] 96)).setRow (w.heap.size + 1) k0Row.toArray).cell? ⟨0, 7, none⟩ = some (.int .u64 0x5be0cd19137e2179) := hr2.2 7 _ rfl
  have HRK := Lib.hid rk
  have HB1 := Lib.hid b1
  have HRZ := Lib.hid rz
  clear hr2 rk b1 rz
  go_wp2_with (first
    | (refine wpList_store_vrow rfl 96 (.tmp 1) (.tmp 4) rfl (g := w.heap.size + 1) (t := 96) (vs := zRow) (us := k0Row) rfl rfl R1.out info_kind rfl k0Row_one ?_))
  clear k0 k1 k2 k3 k4 k5 k6 k7 m0 m1 m2 m3 m4 m5 m6 m7
  go_loopw [6] (fun j wr => ∃ i : Nat, i ≤ 8 ∧ j = .int .i64 i ∧ VRow wr (w.heap.size + 1) 96 (kRow i) ∧ VRow wr w.heap.size 96 zRow ∧ Below w.heap.size w wr) (fun j _ => 8 - (intOf j).toNat)
  case atStart => exact ⟨0, by omega, rfl, HRK.out, HRZ.out, HB1.out⟩
  case round =>
    obtain ⟨i, hi, rfl, hra, hrb, hbel⟩ := hrel
    by_cases h8 : i < 8
    · obtain ⟨v, hv, hv0, hv1, hix⟩ := root8 h8
      have hat := hra.cell (kRow_at h8)
      have hset := hra.set (1 + i) (.int .u32 (h256.getD i 0))
      rw [kRow_next h8, ← hv] at hset
      have hfr := hra.free (1 + i)
      have b8 : (i : Int) < 8 := by omega
      have hm : v / 4294967296 % 4294967296 = v / 4294967296 := Int.emod_eq_of_lt hv0 hv1
      have HSET := Lib.hid hset
      have HRB2 := Lib.hid hrb
      have HBEL2 := Lib.hid hbel
      clear hv hset hra hrb hbel
      go_wp2_with fail
      refine ⟨⟨i + 1, by omega, by go_num, HSET.out, ?_, ?_⟩, by simp [intOf]; omega⟩
      · exact (Below.heap_setCell wr _ _ _ (by intro h; have h' : w.heap.size = w.heap.size + 1 := h; omega)).trans HRB2.out
      · have h := HBEL2.out.setCell (p := ⟨w.heap.size + 1, 1 + i, none⟩) (Nat.le_succ _) (.int .u32 (v / 4294967296))
        exact ⟨h.os, h.tape, h.output, h.size, h.block⟩
    · obtain rfl : i = 8 := by omega
      have h8' : ((8 : Nat) : Int) = 8 := rfl
      rw [h8']
      have HRA3 := Lib.hid hra
      have HRB3 := Lib.hid hrb
      have HFIN := Lib.hid (hrb.setRow (kRow 8))
      have HBF := Lib.hid (below_setRow hbel (Nat.le_refl _) (kRow 8).toArray)
      clear h8' hra hrb hbel hi h8
      go_wp2_with (first
        | (refine wpList_load_vrow rfl 96 (.tmp 1) rfl (g := w.heap.size + 1) (t := 96) (vs := kRow 8) rfl HRA3.out Tryd.underlying96 info_kind ?_)
        | (refine wpList_store_vrow rfl 96 (.tmp 0) (.tmp 17) rfl (g := w.heap.size) (t := 96) (vs := zRow) (us := kRow 8) rfl rfl HRB3.out info_kind rfl kRow_one ?_))
      refine bodyPost_ret (v := .agg (kRow 8).toArray) ?_ rfl ⟨rfl, HBF.out⟩
      obtain ⟨fr, hrw⟩ : ∃ fr, (wr.setRow w.heap.size (kRow 8).toArray).heap[w.heap.size]? = some (.cells (kRow 8).toArray 96 fr) := ⟨_, HFIN.out⟩
      exact results_cell_row Tryd.results53 _ _ w.heap.size 96 (kRow 8).toArray fr _ rfl hrw Tryd.underlying96 rfl info_kind
end Go.Proofs.YtnmegdhidpkklaaDoor
