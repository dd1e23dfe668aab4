/-
  Texts joined: Kind256, Padding, Put32. Conditions: those of each.
-/
import Derived.Test.YtgiljhdjknglpaaDoorK16
/-
  hash.kind256, walked. Conditions: the roots are laid.
-/
namespace Go.Proofs.YtgiljhdjknglpaaDoor
open Go.RowKit

/-- Block g holds these values, and may be written. -/
def VRow (w : World) (g : Nat) (t : TypeId) (vs : List Value) : Prop := w.heap[g]? = some (.cells vs.toArray t (0, 0))
section
variable {w w' : World} {g : Nat} {t : TypeId} {vs : List Value}
theorem VRow.lt (h : VRow w g t vs) : g < w.heap.size := (Array.getElem?_eq_some_iff.1 h).1
theorem VRow.cell (h : VRow w g t vs) {i : Nat} {z : Value} (hi : vs[i]? = some z) : w.cell? ⟨g, i, none⟩ = some z := by
  rw [cell_of_row w g i _ _ _ h]
  simp [hi]
theorem VRow.free (h : VRow w g t vs) (i : Nat) : w.frozen? ⟨g, i, none⟩ = false := by
  unfold VRow at h
  simp [World.frozen?, h]
theorem VRow.set (h : VRow w g t vs) (i : Nat) (z : Value) : VRow (w.setCell ⟨g, i, none⟩ z) g t (vs.set i z) := by
  unfold VRow at h ⊢
  simp [World.setCell, Array.getElem?_modify, h]
theorem VRow.below {B : Nat} (h : VRow w g t vs) (hb : Below B w w') (hg : g < B) : VRow w' g t vs := (hb.block g hg).trans h
theorem VRow.new (w : World) (t : TypeId) (vs : List Value) : VRow (w.alloc (.cells vs.toArray t)) w.heap.size t vs := heap_alloc_new w _
theorem VRow.setRow (h : VRow w g t vs) (us : List Value) : VRow (w.setRow g us.toArray) g t us := by
  unfold VRow at h ⊢
  simp [World.setRow, Array.getElem?_modify, h]
end
theorem wpList_load_vrow {ops : Array Oper} {rest : List Oper} {op : Oper} {a : Act} {w : World} {Q : Exit → Act → World → Prop} (hgd : op.guard = none) (ty : TypeId) (x : Operand) (ho : op.op = .load ty x)
    {g : Nat} {t : TypeId} {vs : List Value} {fs : Array Field} (hx : a.eval x = .pointer (some ⟨g, 0, none⟩)) (h : VRow w g t vs) (hu : Tryd.prog.underlying ty = some (.struct fs)) (hi : (Tryd.prog.info? ty).map (·.size) = some vs.length)
    (hn : wpList Tryd.prog ops Q rest (a.put op.dst (.agg vs.toArray)) w) : wpList Tryd.prog ops Q (op :: rest) a w :=
  wpList_load_row hgd ty x ho g hx t vs.toArray (0, 0) (.struct fs) h hu rfl (by rw [hi, List.size_toArray]) hn
theorem wpList_store_vrow {ops : Array Oper} {rest : List Oper} {op : Oper} {a : Act} {w : World} {Q : Exit → Act → World → Prop} (hgd : op.guard = none) (ty : TypeId) (x y : Operand) (ho : op.op = .store ty x y)
    {g : Nat} {t : TypeId} {vs us : List Value} (hx : a.eval x = .pointer (some ⟨g, 0, none⟩)) (hy : a.eval y = .agg us.toArray) (h : VRow w g t vs) (hi : (Tryd.prog.info? ty).map (·.size) = some us.length) (hl : vs.length = us.length) (h1 : us.toArray.all (·.oneCell') = true)
    (hn : wpList Tryd.prog ops Q rest (a.put op.dst undef) (w.setRow g us.toArray)) : wpList Tryd.prog ops Q (op :: rest) a w :=
  wpList_plain hgd fun K hK => by
    unfold Oper.wp execOp
    have hst : (Instr.storeAt ty (.pointer (some ⟨g, 0, none⟩)) (.agg us.toArray)).run Tryd.prog w = .ok () (w.setRow g us.toArray) := by
      simp only [Instr.storeAt, Instr.sureAddr, Sem.run_bind, Sem.run_pure, Result.andThen_ok]
      exact run_storeVar_row w g t ty _ _ h (by rw [hi]; simp) (by simp [hl]) h1
    simp only [ho, hx, hy, hst, Sem.run_bind, Sem.run_pure, Result.andThen_ok]
    exact hK _ _ hn

def s512 : List Int := [0x6a09e667f3bcc908, 0xbb67ae8584caa73b, 0x3c6ef372fe94f82b, 0xa54ff53a5f1d36f1, 0x510e527fade682d1, 0x9b05688c2b3e6c1f, 0x1f83d9abfb41bd6b, 0x5be0cd19137e2179]
/-- The square roots lie in the program's memory. -/
def RootIs (w : World) : Prop := 6 < w.heap.size ∧ ∀ (t : Nat) (k : Int), s512[t]? = some k → w.cell? ⟨6, t, none⟩ = some (.int .u64 k)
theorem RootIs.below {w w' : World} {B : Nat} (h : RootIs w) (hb : Below B w w') (hB : 6 < B) : RootIs w' := by
  refine ⟨Nat.lt_of_lt_of_le h.1 hb.size, fun t k hk => ?_⟩
  exact (hb.cell (p := ⟨6, t, none⟩) hB).trans (h.2 t k hk)

theorem info_kind : (Tryd.prog.info? 127).map (·.size) = some 10 := by kernel_rfl
/-- What kind256 gives, when i words are in. -/
def kRow (i : Nat) : List Value := .int .i64 64 :: ((List.range 8).map (fun k => .int .u32 (if k < i then h256.getD k 0 else 0)) ++ [.func (.func 91) #[] #[]])
def zRow : List Value := [.int .i64 0, .int .u32 0, .int .u32 0, .int .u32 0, .int .u32 0, .int .u32 0, .int .u32 0, .int .u32 0, .int .u32 0, .nilFunc]
def k0Row : List Value := [.int .i64 64, .int .u32 0, .int .u32 0, .int .u32 0, .int .u32 0, .int .u32 0, .int .u32 0, .int .u32 0, .int .u32 0, .func (.func 91) #[] #[]]
theorem k0Row_is : k0Row = kRow 0 := rfl
theorem k0Row_one : k0Row.toArray.all (·.oneCell') = true := by simp [k0Row, Value.oneCell']
theorem kRow_one : (kRow 8).toArray.all (·.oneCell') = true := by simp [kRow, Value.oneCell', List.range_succ]
theorem kRow_next {i : Nat} (hi : i < 8) : (kRow i).set (1 + i) (.int .u32 (h256.getD i 0)) = kRow (i + 1) := by
  obtain rfl | rfl | rfl | rfl | rfl | rfl | rfl | rfl : i = 0 ∨ i = 1 ∨ i = 2 ∨ i = 3 ∨ i = 4 ∨ i = 5 ∨ i = 6 ∨ i = 7 := by omega
  all_goals rfl
theorem kRow_at {i : Nat} (hi : i < 8) : (kRow i)[1 + i]? = some (.int .u32 0) := by
  obtain rfl | rfl | rfl | rfl | rfl | rfl | rfl | rfl : i = 0 ∨ i = 1 ∨ i = 2 ∨ i = 3 ∨ i = 4 ∨ i = 5 ∨ i = 6 ∨ i = 7 := by omega
  all_goals rfl
theorem root8 {i : Nat} (hi : i < 8) : ∃ v, v / 4294967296 = h256.getD i 0 ∧ 0 ≤ v / 4294967296 ∧ v / 4294967296 < 4294967296 ∧ ∀ w, (Instr.index 139 (.agg #[.int .u64 0x6a09e667f3bcc908, .int .u64 0xbb67ae8584caa73b, .int .u64 0x3c6ef372fe94f82b, .int .u64 0xa54ff53a5f1d36f1, .int .u64 0x510e527fade682d1, .int .u64 0x9b05688c2b3e6c1f, .int .u64 0x1f83d9abfb41bd6b, .int .u64 0x5be0cd19137e2179]) (.int .i64 i)).run Tryd.prog w = .ok (.int .u64 v) w := by
  obtain rfl | rfl | rfl | rfl | rfl | rfl | rfl | rfl : i = 0 ∨ i = 1 ∨ i = 2 ∨ i = 3 ∨ i = 4 ∨ i = 5 ∨ i = 6 ∨ i = 7 := by omega
  · exact ⟨0x6a09e667f3bcc908, rfl, by decide, by decide, fun w => by kernel_rfl⟩
  · exact ⟨0xbb67ae8584caa73b, rfl, by decide, by decide, fun w => by kernel_rfl⟩
  · exact ⟨0x3c6ef372fe94f82b, rfl, by decide, by decide, fun w => by kernel_rfl⟩
  · exact ⟨0xa54ff53a5f1d36f1, rfl, by decide, by decide, fun w => by kernel_rfl⟩
  · exact ⟨0x510e527fade682d1, rfl, by decide, by decide, fun w => by kernel_rfl⟩
  · exact ⟨0x9b05688c2b3e6c1f, rfl, by decide, by decide, fun w => by kernel_rfl⟩
  · exact ⟨0x1f83d9abfb41bd6b, rfl, by decide, by decide, fun w => by kernel_rfl⟩
  · exact ⟨0x5be0cd19137e2179, rfl, by decide, by decide, fun w => by kernel_rfl⟩
set_option maxRecDepth 100000 in
set_option maxHeartbeats 3200000 in
theorem kind256_any (w : World) (hroot : RootIs w) :
    Calls Tryd.prog 85 #[] w fun e w' => e = .returned (.agg (kRow 8).toArray) ∧ Below w.heap.size w w' := by
  have k0 := hroot.2 0 _ rfl
  have k1 := hroot.2 1 _ rfl
  have k2 := hroot.2 2 _ rfl
  have k3 := hroot.2 3 _ rfl
  have k4 := hroot.2 4 _ rfl
  have k5 := hroot.2 5 _ rfl
  have k6 := hroot.2 6 _ rfl
  have k7 := hroot.2 7 _ rfl
  have hg := hroot.1
  have HR := Lib.hid hroot
  clear hroot
  go_enter Tryd.func85, Tryd.ntmps85
  have r0 := VRow.new w 127 zRow
  have r1 := VRow.new (w.alloc (.cells zRow.toArray 127)) 127 zRow
  have hs1 : (w.alloc (.cells zRow.toArray 127)).heap.size = w.heap.size + 1 := by simp
  rw [hs1] at r1
  have R0 := Lib.hid r0
  have R1 := Lib.hid r1
  clear r0 r1 hs1
  have rk := R1.out.setRow k0Row
  rw [k0Row_is] at rk
  have b1 : Below w.heap.size w (((w.alloc (.cells zRow.toArray 127)).alloc (.cells zRow.toArray 127)).setRow (w.heap.size + 1) k0Row.toArray) := below_setRow (((Below.refl _ w).alloc (Nat.le_refl _) _).alloc (by simp) _) (Nat.le_succ _) _
  have rz : VRow (((w.alloc (.cells zRow.toArray 127)).alloc (.cells zRow.toArray 127)).setRow (w.heap.size + 1) k0Row.toArray) w.heap.size 127 zRow := R0.out.below (below_setRow ((Below.refl (w.heap.size + 1) _).alloc (by simp) _) (Nat.le_refl _) _) (Nat.lt_succ_self _)
  have hr2 := HR.out.below b1 hg
  have m0 : (((w.alloc (.cells #[.int .i64 0, .int .u32 0, .int .u32 0, .int .u32 0, .int .u32 0, .int .u32 0, .int .u32 0, .int .u32 0, .int .u32 0, .nilFunc] 127)).alloc (.cells #[.int .i64 0, .int .u32 0, .int .u32 0, .int .u32 0, .int .u32 0, .int .u32 0, .int .u32 0, .int .u32 0, .int .u32 0, .nilFunc] 127)).setRow (w.heap.size + 1) k0Row.toArray).cell? ⟨6, 0, none⟩ = some (.int .u64 0x6a09e667f3bcc908) := hr2.2 0 _ rfl
  have m1 : (((w.alloc (.cells #[.int .i64 0, .int .u32 0, .int .u32 0, .int .u32 0, .int .u32 0, .int .u32 0, .int .u32 0, .int .u32 0, .int .u32 0, .nilFunc] 127)).alloc (.cells #[.int .i64 0, .int .u32 0, .int .u32 0, .int .u32 0, .int .u32 0, .int .u32 0, .int .u32 0, .int .u32 0, .int .u32 0, .nilFunc] 127)).setRow (w.heap.size + 1) k0Row.toArray).cell? ⟨6, 1, none⟩ = some (.int .u64 0xbb67ae8584caa73b) := hr2.2 1 _ rfl
  have m2 : (((w.alloc (.cells #[.int .i64 0, .int .u32 0, .int .u32 0, .int .u32 0, .int .u32 0, .int .u32 0, .int .u32 0, .int .u32 0, .int .u32 0, .nilFunc] 127)).alloc (.cells #[.int .i64 0, .int .u32 0, .int .u32 0, .int .u32 0, .int .u32 0, .int .u32 0, .int .u32 0, .int .u32 0, .int .u32 0, .nilFunc] 127)).setRow (w.heap.size + 1) k0Row.toArray).cell? ⟨6, 2, none⟩ = some (.int .u64 0x3c6ef372fe94f82b) := hr2.2 2 _ rfl
  have m3 : (((w.alloc (.cells #[.int .i64 0, .int .u32 0, .int .u32 0, .int .u32 0, .int .u32 0, .int .u32 0, .int .u32 0, .int .u32 0, .int .u32 0, .nilFunc] 127)).alloc (.cells #[.int .i64 0, .int .u32 0, .int .u32 0, .int .u32 0, .int .u32 0, .int .u32 0, .int .u32 0, .int .u32 0, .int .u32 0, .nilFunc] 127)).setRow (w.heap.size + 1) k0Row.toArray).cell? ⟨6, 3, none⟩ = some (.int .u64 0xa54ff53a5f1d36f1) := hr2.2 3 _ rfl
  have m4 : (((w.alloc (.cells #[.int .i64 0, .int .u32 0, .int .u32 0, .int .u32 0, .int .u32 0, .int .u32 0, .int .u32 0, .int .u32 0, .int .u32 0, .nilFunc] 127)).alloc (.cells #[.int .i64 0, .int .u32 0, .int .u32 0, .int .u32 0, .int .u32 0, .int .u32 0, .int .u32 0, .int .u32 0, .int .u32 0, .nilFunc] 127)).setRow (w.heap.size + 1) k0Row.toArray).cell? ⟨6, 4, none⟩ = some (.int .u64 0x510e527fade682d1) := hr2.2 4 _ rfl
  have m5 : (((w.alloc (.cells #[.int .i64 0, .int .u32 0, .int .u32 0, .int .u32 0, .int .u32 0, .int .u32 0, .int .u32 0, .int .u32 0, .int .u32 0, .nilFunc] 127)).alloc (.cells #[.int .i64 0, .int .u32 0, .int .u32 0, .int .u32 0, .int .u32 0, .int .u32 0, .int .u32 0, .int .u32 0, .int .u32 0, .nilFunc] 127)).setRow (w.heap.size + 1) k0Row.toArray).cell? ⟨6, 5, none⟩ = some (.int .u64 0x9b05688c2b3e6c1f) := hr2.2 5 _ rfl
  have m6 : (((w.alloc (.cells #[.int .i64 0, .int .u32 0, .int .u32 0, .int .u32 0, .int .u32 0, .int .u32 0, .int .u32 0, .int .u32 0, .int .u32 0, .nilFunc] 127)).alloc (.cells #[.int .i64 0, .int .u32 0, .int .u32 0, .int .u32 0, .int .u32 0, .int .u32 0, .int .u32 0, .int .u32 0, .int .u32 0, .nilFunc] 127)).setRow (w.heap.size + 1) k0Row.toArray).cell? ⟨6, 6, none⟩ = some (.int .u64 0x1f83d9abfb41bd6b) := hr2.2 6 _ rfl
  have m7 : (((w.alloc (.cells #[.int .i64 0, .int .u32 0, .int .u32 0, .int .u32 0, .int .u32 0, .int .u32 0, .int .u32 0, .int .u32 0, .int .u32 0, .nilFunc] 127)).alloc (.cells #[.int .i64 0, .int .u32 0, .int .u32 0, .int .u32 0, .int .u32 0, .int .u32 0, .int .u32 0, .int .u32 0, .int .u32 0, .nilFunc] 127)).setRow (w.heap.size + 1) k0Row.toArray).cell? ⟨6, 7, none⟩ = some (.int .u64 0x5be0cd19137e2179) := hr2.2 7 _ rfl
  have HRK := Lib.hid rk
  have HB1 := Lib.hid b1
  have HRZ := Lib.hid rz
  clear hr2 rk b1 rz
  go_wp2_with (first
    | (refine wpList_store_vrow rfl 127 (.tmp 1) (.tmp 4) rfl (g := w.heap.size + 1) (t := 127) (vs := zRow) (us := k0Row) rfl rfl R1.out info_kind rfl k0Row_one ?_))
  clear k0 k1 k2 k3 k4 k5 k6 k7 m0 m1 m2 m3 m4 m5 m6 m7
  go_loopw [6] (fun j wr => ∃ i : Nat, i ≤ 8 ∧ j = .int .i64 i ∧ VRow wr (w.heap.size + 1) 127 (kRow i) ∧ VRow wr w.heap.size 127 zRow ∧ Below w.heap.size w wr) (fun j _ => 8 - (intOf j).toNat)
  case atStart => exact ⟨0, by omega, rfl, HRK.out, HRZ.out, HB1.out⟩
  case round =>
    obtain ⟨i, hi, rfl, hra, hrb, hbel⟩ := hrel
    by_cases h8 : i < 8
    · obtain ⟨v, hv, hv0, hv1, hix⟩ := root8 h8
      have hat := hra.cell (kRow_at h8)
      have hset := hra.set (1 + i) (.int .u32 (h256.getD i 0))
      rw [kRow_next h8, ← hv] at hset
      have hfr := hra.free (1 + i)
      have b8 : (i : Int) < 8 := by omega
      have hm : v / 4294967296 % 4294967296 = v / 4294967296 := Int.emod_eq_of_lt hv0 hv1
      have HSET := Lib.hid hset
      have HRB2 := Lib.hid hrb
      have HBEL2 := Lib.hid hbel
      clear hv hset hra hrb hbel
      go_wp2_with fail
      refine ⟨⟨i + 1, by omega, by go_num, HSET.out, ?_, ?_⟩, by simp [intOf]; omega⟩
      · exact (Below.heap_setCell wr _ _ _ (by intro h; have h' : w.heap.size = w.heap.size + 1 := h; omega)).trans HRB2.out
      · have h := HBEL2.out.setCell (p := ⟨w.heap.size + 1, 1 + i, none⟩) (Nat.le_succ _) (.int .u32 (v / 4294967296))
        exact ⟨h.os, h.tape, h.output, h.size, h.block⟩
    · obtain rfl : i = 8 := by omega
      have h8' : ((8 : Nat) : Int) = 8 := rfl
      rw [h8']
      have HRA3 := Lib.hid hra
      have HRB3 := Lib.hid hrb
      have HFIN := Lib.hid (hrb.setRow (kRow 8))
      have HBF := Lib.hid (below_setRow hbel (Nat.le_refl _) (kRow 8).toArray)
      clear h8' hra hrb hbel hi h8
      go_wp2_with (first
        | (refine wpList_load_vrow rfl 127 (.tmp 1) rfl (g := w.heap.size + 1) (t := 127) (vs := kRow 8) rfl HRA3.out Tryd.underlying127 info_kind ?_)
        | (refine wpList_store_vrow rfl 127 (.tmp 0) (.tmp 17) rfl (g := w.heap.size) (t := 127) (vs := zRow) (us := kRow 8) rfl rfl HRB3.out info_kind rfl kRow_one ?_))
      refine bodyPost_ret (v := .agg (kRow 8).toArray) ?_ rfl ⟨rfl, HBF.out⟩
      obtain ⟨fr, hrw⟩ : ∃ fr, (wr.setRow w.heap.size (kRow 8).toArray).heap[w.heap.size]? = some (.cells (kRow 8).toArray 127 fr) := ⟨_, HFIN.out⟩
      exact results_cell_row Tryd.results85 _ _ w.heap.size 127 (kRow 8).toArray fr _ rfl hrw Tryd.underlying127 rfl info_kind
end Go.Proofs.YtgiljhdjknglpaaDoor

/-
  hash.padding at a block of 64 bytes and a room of 8, walked. Conditions: the size stays below 2^60.
-/
namespace Go.Proofs.YtgiljhdjknglpaaDoor
open Go.RowKit

def lenI (n i : Nat) : List Int := (List.range 8).map fun j => if 8 - i ≤ j then (8 * (n : Int) / 2 ^ (8 * (7 - j))) % 256 else 0
def padI (n z i : Nat) : List Int := (128 :: List.replicate z 0) ++ lenI n i
theorem padI_length (n z i : Nat) : (padI n z i).length = z + 9 := by unfold padI lenI; simp
theorem lenI_next {n i : Nat} (hi : i < 8) : (lenI n i).set (7 - i) ((8 * (n : Int) / 2 ^ (8 * i)) % 256) = lenI n (i + 1) := by
  obtain rfl | rfl | rfl | rfl | rfl | rfl | rfl | rfl : i = 0 ∨ i = 1 ∨ i = 2 ∨ i = 3 ∨ i = 4 ∨ i = 5 ∨ i = 6 ∨ i = 7 := by omega
  all_goals (unfold lenI; simp [List.range_succ])
theorem lenI_at {n i : Nat} (hi : i < 8) : (lenI n i)[7 - i]? = some 0 := by
  obtain rfl | rfl | rfl | rfl | rfl | rfl | rfl | rfl : i = 0 ∨ i = 1 ∨ i = 2 ∨ i = 3 ∨ i = 4 ∨ i = 5 ∨ i = 6 ∨ i = 7 := by omega
  all_goals (unfold lenI; simp [List.range_succ])
theorem padI_next {n z i : Nat} (hi : i < 8) : (padI n z i).set (z + 8 - i) ((8 * (n : Int) / 2 ^ (8 * i)) % 256) = padI n z (i + 1) := by
  unfold padI
  rw [List.set_append_right _ _ (by simp; omega)]
  have e : z + 8 - i - (128 :: List.replicate z (0 : Int)).length = 7 - i := by simp; omega
  rw [e, lenI_next hi]
theorem padI_at {n z i : Nat} (hi : i < 8) : (padI n z i)[z + 8 - i]? = some 0 := by
  unfold padI
  rw [List.getElem?_append_right (by simp; omega)]
  have e : z + 8 - i - (128 :: List.replicate z (0 : Int)).length = 7 - i := by simp; omega
  rw [e, lenI_at hi]

theorem padI_zero (n z : Nat) : (List.replicate (z + 9) (0 : Int)).set 0 128 = padI n z 0 := by
  rw [List.replicate_succ, List.set_cons_zero, List.replicate_append_replicate (n := z) (m := 8) (a := (0 : Int)) |>.symm]
  rfl
set_option maxRecDepth 100000 in
set_option maxHeartbeats 3200000 in
theorem padding_any (n z : Nat) (w : World) (hn : n < 1152921504606846976) (hz : z = (119 - n % 64) % 64) :
    Calls Tryd.prog 86 #[.int .u64 n, .int .i64 64, .int .i64 8] w fun e w' => ∃ g, e = .returned (.slice (some ⟨g, 0, none⟩) (z + 9) (z + 9)) ∧ IRow w' g 5 .u8 (padI n z 8) ∧ Below w.heap.size w w' ∧ w.heap.size ≤ g := by
  obtain ⟨r, hr⟩ : ∃ r, r = n % 64 := ⟨_, rfl⟩
  have hr64 : r < 64 := by omega
  have e1 : (n : Int) % 64 = (r : Int) := by omega
  have hz2 : z = (119 - r) % 64 := by rw [hr]; exact hz
  have hzl : z < 64 := by omega
  have HZ := Lib.hid hz2
  have HN := Lib.hid hn
  clear hz hr hz2 hn
  go_enter Tryd.func86, Tryd.ntmps86
  have e3 : (128 - ((r : Int) + 1 + 8)) % 64 = (z : Int) := by have := HZ.out; omega
  obtain ⟨L, hL⟩ : ∃ L, L = z + 9 := ⟨_, rfl⟩
  have e4 : 1 + (z : Int) + 8 = (L : Int) := by omega
  have hmk := fun W => make_bytes W L (L : Int) rfl (by omega)
  have bL : (0 : Int) < (L : Int) := by omega
  have zr : zeroRow L = ((List.replicate L (0 : Int)).map (Value.int .u8)).toArray := by unfold zeroRow; rw [List.map_replicate, List.map_replicate]; rfl
  have r1 : IRow (w.alloc (.cells (zeroRow L) 5)) w.heap.size 5 .u8 (List.replicate L 0) := by rw [zr]; exact IRow.new w _ _ _
  have c0 := r1.cell (i := 0) (z := 0) (by rw [List.getElem?_replicate, if_pos (by omega)])
  have f0 := r1.free 0
  have r2 : IRow (w.alloc (.cells ((zeroRow L).setIfInBounds 0 (.int .u8 128)) 5)) w.heap.size 5 .u8 (padI n z 0) := by
    have h := IRow.new w 5 .u8 (padI n z 0)
    have e : ((padI n z 0).map (Value.int .u8)).toArray = (zeroRow L).setIfInBounds 0 (.int .u8 128) := by
      rw [← padI_zero, ← hL, zr, List.map_set]
      exact (List.setIfInBounds_toArray _ _ _).symm
    rw [e] at h
    exact h
  have b1 : Below w.heap.size w (w.alloc (.cells ((zeroRow L).setIfInBounds 0 (.int .u8 128)) 5)) := (Below.refl _ w).alloc (Nat.le_refl _) _
  have HR2 := Lib.hid r2
  have HB1 := Lib.hid b1
  have HL := Lib.hid hL
  clear r1 r2 b1 hL zr
  go_wp2_with fail
  go_loopw [32] (fun j wr => ∃ i : Nat, i ≤ 8 ∧ j = .int .i64 i ∧ IRow wr w.heap.size 5 .u8 (padI n z i) ∧ Below w.heap.size w wr) (fun j _ => 8 - (intOf j).toNat)
  case atStart => exact ⟨0, by omega, rfl, HR2.out, HB1.out⟩
  case round =>
    obtain ⟨i, hi, rfl, hra, hbel⟩ := hrel
    by_cases h8 : i < 8
    · obtain ⟨k, hk⟩ : ∃ k, k = z + 8 - i := ⟨_, rfl⟩
      have hat := hra.cell (padI_at h8)
      have hset := hra.set (z + 8 - i) ((8 * (n : Int) / 2 ^ (8 * i)) % 256)
      rw [padI_next h8] at hset
      have hfr := hra.free (z + 8 - i)
      rw [← hk] at hat hset hfr
      have hki : (L : Int) - 1 - (i : Int) = (k : Int) := by have := HL.out; omega
      have hkL : (k : Int) < (L : Int) := by have := HL.out; omega
      have b8 : (i : Int) < 8 := by omega
      have HSET := Lib.hid hset
      have HBEL2 := Lib.hid hbel
      clear hset hra hbel hk
      go_wp2_with fail
      have hw : IntKind.u64.wrap ((n : Int) * 8) = 8 * (n : Int) := by
        have := HN.out
        have e : IntKind.u64.wrap ((n : Int) * 8) = ((n : Int) * 8) % 18446744073709551616 := by simp [IntKind.wrap, IntKind.bits, IntKind.signed]
        rw [e]
        omega
      rw [hw]
      refine ⟨⟨i + 1, by omega, by go_num, HSET.out, ?_⟩, by simp [intOf]; omega⟩
      exact HBEL2.out.setCell (p := ⟨w.heap.size, k, none⟩) (Nat.le_refl _) _
    · obtain rfl : i = 8 := by omega
      have h8' : ((8 : Nat) : Int) = 8 := rfl
      rw [h8']
      have HRA := Lib.hid hra
      have HBEL := Lib.hid hbel
      clear h8' hra hbel hi h8
      go_wp2_with fail
      go_ret
      rw [← HL.out]
      exact ⟨_, rfl, HRA.out, HBEL.out, Nat.le_refl _⟩
end Go.Proofs.YtgiljhdjknglpaaDoor

/-
  hash.put32, walked. Conditions: four places are there, the row may be written.
-/
namespace Go.Proofs.YtgiljhdjknglpaaDoor
open Go.RowKit

/-- Four bytes of a word laid over a row. -/
def put4 (xs : List Int) (o : Nat) (x : Int) : List Int := (((xs.set o (x / 16777216 % 256)).set (o + 1) (x / 65536 % 256)).set (o + 2) (x / 256 % 256)).set (o + 3) (x % 256)
theorem put4_length (xs : List Int) (o : Nat) (x : Int) : (put4 xs o x).length = xs.length := by simp [put4]

set_option maxRecDepth 100000 in
set_option maxHeartbeats 1600000 in
theorem put32_any (b o len c : Nat) (t : TypeId) (xs : List Int) (x : Int) (w : World) (hr : IRow w b t .u8 xs) (hl : 4 ≤ len) (ho : o + 4 ≤ xs.length) :
    Calls Tryd.prog 87 #[.slice (some ⟨b, o, none⟩) len c, .int .u32 x] w fun e w' => e = .returned (.tuple #[]) ∧ IRow w' b t .u8 (put4 xs o x) ∧ ∀ B, B ≤ b → Below B w w' := by
  have i0 : (0 : Int) < (len : Int) := by omega
  have i1 : (1 : Int) < (len : Int) := by omega
  have i2 : (2 : Int) < (len : Int) := by omega
  have i3 : (3 : Int) < (len : Int) := by omega
  have r1 := hr.set o (x / 16777216 % 256)
  have r2 := r1.set (o + 1) (x / 65536 % 256)
  have r3 := r2.set (o + 2) (x / 256 % 256)
  have r4 := r3.set (o + 3) (x % 256)
  have k0 := hr.cell (i := o) (List.getElem?_eq_getElem (by omega))
  have k1 := r1.cell (i := o + 1) (List.getElem?_eq_getElem (by simp; omega))
  have k2 := r2.cell (i := o + 2) (List.getElem?_eq_getElem (by simp; omega))
  have k3 := r3.cell (i := o + 3) (List.getElem?_eq_getElem (by simp; omega))
  have f0 := hr.free o
  have f1 := r1.free (o + 1)
  have f2 := r2.free (o + 2)
  have f3 := r3.free (o + 3)
  have HR := Lib.hid r4
  clear hr r1 r2 r3 r4
  go_enter Tryd.func87, Tryd.ntmps87
  go_wp2
  refine bodyPost_end (results_none Tryd.results87 _ _ _) rfl ⟨rfl, HR.out, fun B hB => ((((Below.refl B w).setCell hB _).setCell hB _).setCell hB _).setCell hB _⟩
end Go.Proofs.YtgiljhdjknglpaaDoor
