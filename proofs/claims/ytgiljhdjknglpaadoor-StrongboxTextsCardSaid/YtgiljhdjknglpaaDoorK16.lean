/-
  Texts joined: Sched, Sched2, Step256. Conditions: those of each.
-/
import Derived.Test.YtgiljhdjknglpaaDoorK15
import Derived.Laws.Tables
import Derived.Deep.MidRow
import Derived.IntWalk
import Derived.StillTailTactics
import Derived.Laws.CopyRow
/-
  hash.schedule256. Conditions: the block has 64 bytes.
-/
namespace Go.Proofs.YtgiljhdjknglpaaDoor
open Go.RowKit

theorem isU32_cells (xs : List Int) (k : IntKind) : (xs.map (Value.int k)).toArray.all (·.oneCell') = true :=
  Array.all_eq_true_iff_forall_mem.2 (fun v hv => by
    have h : v ∈ xs.map (Value.int k) := by simpa using hv
    obtain ⟨z, _, rfl⟩ := List.mem_map.1 h
    rfl)
theorem load_irow {w : World} {g : Nat} {t ty : TypeId} {k : IntKind} {xs : List Int} {n : Nat} {e : TypeId} (h : IRow w g t k xs) (hu : Tryd.prog.underlying ty = some (.array n e)) (hi : (Tryd.prog.info? ty).map (·.size) = some xs.length) :
    (loadVar ty ⟨g, 0, none⟩).run Tryd.prog w = .ok (.agg (xs.map (Value.int k)).toArray) w :=
  run_loadVar_row w g t ty _ (0, 0) (.array n e) h hu rfl (by rw [hi]; simp)
theorem loadAt_irow {w : World} {g : Nat} {t ty : TypeId} {k : IntKind} {xs : List Int} {n : Nat} {e : TypeId} (h : IRow w g t k xs) (hu : Tryd.prog.underlying ty = some (.array n e)) (hi : (Tryd.prog.info? ty).map (·.size) = some xs.length) :
    (Instr.loadAt ty (.pointer (some ⟨g, 0, none⟩))).run Tryd.prog w = .ok (.agg (xs.map (Value.int k)).toArray) w := by
  simp only [Instr.loadAt, Instr.sureAddr, Sem.run_bind, Sem.run_pure, Result.andThen_ok, load_irow h hu hi]
theorem storeAt_irow {w : World} {g : Nat} {t ty : TypeId} {k : IntKind} {xs ys : List Int} (h : IRow w g t k xs) (hi : (Tryd.prog.info? ty).map (·.size) = some ys.length) (hl : xs.length = ys.length) :
    (Instr.storeAt ty (.pointer (some ⟨g, 0, none⟩)) (.agg (ys.map (Value.int k)).toArray)).run Tryd.prog w = .ok () (w.setRow g (ys.map (Value.int k)).toArray) := by
  simp only [Instr.storeAt, Instr.sureAddr, Sem.run_bind, Sem.run_pure, Result.andThen_ok]
  exact run_storeVar_row w g t ty _ _ h (by rw [hi]; simp) (by simp [hl]) (isU32_cells _ _)
theorem setRow_irow {w : World} {g : Nat} {t : TypeId} {k : IntKind} {xs ys : List Int} (h : IRow w g t k xs) : IRow (w.setRow g (ys.map (Value.int k)).toArray) g t k ys := by
  unfold IRow at h ⊢
  simp [World.setRow, Array.getElem?_modify, h]
theorem below_setRow {B : Nat} {a w : World} (h : Below B a w) {g : Nat} (hg : B ≤ g) (cs : Array Value) : Below B a (w.setRow g cs) :=
  ⟨h.os, h.tape, h.output, by simpa [World.setRow] using h.size, fun k hk => by
    have e : (w.setRow g cs).heap[k]? = w.heap[k]? := by
      simp only [World.setRow, Array.getElem?_modify]
      rw [if_neg (by omega)]
    rw [e]; exact h.block k hk⟩
theorem wpList_load_irow {ops : Array Oper} {rest : List Oper} {op : Oper} {a : Act} {w : World} {Q : Exit → Act → World → Prop} (hgd : op.guard = none) (ty : TypeId) (x : Operand) (ho : op.op = .load ty x)
    {g : Nat} {t : TypeId} {k : IntKind} {xs : List Int} {n : Nat} {e : TypeId} (hx : a.eval x = .pointer (some ⟨g, 0, none⟩)) (h : IRow w g t k xs) (hu : Tryd.prog.underlying ty = some (.array n e)) (hi : (Tryd.prog.info? ty).map (·.size) = some xs.length)
    (hn : wpList Tryd.prog ops Q rest (a.put op.dst (.agg (xs.map (Value.int k)).toArray)) w) : wpList Tryd.prog ops Q (op :: rest) a w :=
  wpList_plain hgd fun K hK => by
    unfold Oper.wp execOp
    simp only [ho, hx, loadAt_irow h hu hi, Sem.run_bind, Sem.run_pure, Result.andThen_ok]
    exact hK _ _ hn
theorem wpList_store_irow {ops : Array Oper} {rest : List Oper} {op : Oper} {a : Act} {w : World} {Q : Exit → Act → World → Prop} (hgd : op.guard = none) (ty : TypeId) (x y : Operand) (ho : op.op = .store ty x y)
    {g : Nat} {t : TypeId} {k : IntKind} {xs ys : List Int} (hx : a.eval x = .pointer (some ⟨g, 0, none⟩)) (hy : a.eval y = .agg (ys.map (Value.int k)).toArray) (h : IRow w g t k xs) (hi : (Tryd.prog.info? ty).map (·.size) = some ys.length) (hl : xs.length = ys.length)
    (hn : wpList Tryd.prog ops Q rest (a.put op.dst undef) (w.setRow g (ys.map (Value.int k)).toArray)) : wpList Tryd.prog ops Q (op :: rest) a w :=
  wpList_plain hgd fun K hK => by
    unfold Oper.wp execOp
    simp only [ho, hx, hy, storeAt_irow h hi hl, Sem.run_bind, Sem.run_pure, Result.andThen_ok]
    exact hK _ _ hn
end Go.Proofs.YtgiljhdjknglpaaDoor

/-
  hash.schedule256, walked. Conditions: the block has 64 bytes.
-/
namespace Go.Proofs.YtgiljhdjknglpaaDoor
open Go.RowKit

theorem info_64 : (Tryd.prog.info? 144).map (·.size) = some 64 := by kernel_rfl
theorem wordAt_cells {bs : List UInt8} {t : Nat} (h : 4 * t + 4 ≤ bs.length) : ∃ q0 q1 q2 q3, bs[4 * t]? = some q0 ∧ bs[4 * t + 1]? = some q1 ∧ bs[4 * t + 2]? = some q2 ∧ bs[4 * t + 3]? = some q3 ∧ wordAt bs t = be32 q0 q1 q2 q3 := by
  refine ⟨bs[4 * t]'(by omega), bs[4 * t + 1]'(by omega), bs[4 * t + 2]'(by omega), bs[4 * t + 3]'(by omega), List.getElem?_eq_getElem _, List.getElem?_eq_getElem _, List.getElem?_eq_getElem _, List.getElem?_eq_getElem _, ?_⟩
  unfold wordAt
  simp only [List.getD_eq_getElem?_getD]
  rw [List.getElem?_eq_getElem (show 4 * t < bs.length by omega), List.getElem?_eq_getElem (show 4 * t + 1 < bs.length by omega), List.getElem?_eq_getElem (show 4 * t + 2 < bs.length by omega), List.getElem?_eq_getElem (show 4 * t + 3 < bs.length by omega)]
  rfl
def wordsN (bs : List UInt8) (t : Nat) : List Int := (List.range t).map (wordAt bs)
theorem wordsN_succ (bs : List UInt8) (t : Nat) : wordsN bs (t + 1) = wordsN bs t ++ [wordAt bs t] := by simp [wordsN, List.range_succ]
theorem wordsN_length (bs : List UInt8) (t : Nat) : (wordsN bs t).length = t := by simp [wordsN]

theorem nextW_u (ws : List Int) : U32 (nextW ws) := add32_u _ _
theorem sched_u (bs : List UInt8) : ∀ n, ∀ x ∈ schedN (words16 bs) n, U32 x
  | 0, x, hx => by
    unfold schedN words16 at hx
    obtain ⟨t, _, rfl⟩ := List.mem_map.1 hx
    exact be32_u _ _ _ _
  | n + 1, x, hx => by
    rw [schedN] at hx
    rcases List.mem_append.1 hx with h | h
    · exact sched_u bs n x h
    · rw [List.mem_singleton.1 h]
      exact nextW_u _

set_option maxRecDepth 100000 in
set_option maxHeartbeats 6400000 in
theorem sched_any (b o c : Nat) (bs : List UInt8) (w : World) (hl : bs.length = 64) (hc : 64 ≤ c) (hcm : c ≤ 9223372036854775807) (hb : b < w.heap.size) (hcell : ∀ (j : Nat) (u : UInt8), bs[j]? = some u → w.cell? ⟨b, o + j, none⟩ = some (bv u)) :
    Calls Tryd.prog 92 #[.slice (some ⟨b, o, none⟩) 64 c] w fun e w' => e = .returned (.agg ((W64 bs).map (Value.int .u32)).toArray) ∧ Below w.heap.size w w' := by
  have HC := Lib.hid hcell
  have HL := Lib.hid hl
  clear hcell hl
  go_enter Tryd.func92, Tryd.ntmps92
  go_wp2_with fail
  have r1 := IRow.new w 144 .u32 (List.replicate 64 0)
  have r2 := IRow.new (w.alloc (.cells ((List.replicate 64 (0 : Int)).map (Value.int .u32)).toArray 144)) 144 .u32 (List.replicate 64 0)
  have hs1 : (w.alloc (.cells ((List.replicate 64 (0 : Int)).map (Value.int .u32)).toArray 144)).heap.size = w.heap.size + 1 := by simp
  rw [hs1] at r2
  have R1 := Lib.hid r1
  have R2 := Lib.hid r2
  have HU := Lib.hid u32_wrap
  clear r1 r2 hs1
  go_loopw [10] (fun j wr => ∃ t : Nat, t ≤ 16 ∧ j = .int .i64 t ∧ IRow wr (w.heap.size + 1) 144 .u32 (padZ 64 (wordsN bs t)) ∧ IRow wr w.heap.size 144 .u32 (List.replicate 64 0) ∧ Below w.heap.size w wr) (fun j _ => 16 - (intOf j).toNat)
  case atStart => exact ⟨0, by omega, rfl, R2.out, (Below.refl (w.heap.size + 1) _).alloc (by simp) _ |>.block _ (by simp) |>.trans R1.out, ((Below.refl _ w).alloc (Nat.le_refl _) _).alloc (by simp) _⟩
  case round =>
    obtain ⟨t, ht, rfl, hrow, hres, hbel⟩ := hrel
    by_cases h16 : t < 16
    · obtain ⟨q0, q1, q2, q3, g0, g1, g2, g3, hw⟩ := wordAt_cells (bs := bs) (t := t) (by have := HL.out; omega)
      have c0 := (hbel.cell (p := ⟨b, o + 4 * t, none⟩) hb).trans (HC.out _ _ g0)
      have c1 := (hbel.cell (p := ⟨b, o + (4 * t + 1), none⟩) hb).trans (HC.out _ _ g1)
      have c2 := (hbel.cell (p := ⟨b, o + (4 * t + 2), none⟩) hb).trans (HC.out _ _ g2)
      have c3 := (hbel.cell (p := ⟨b, o + (4 * t + 3), none⟩) hb).trans (HC.out _ _ g3)
      rw [← Nat.add_assoc] at c1 c2 c3
      have G := Lib.hid (get32_any b (o + 4 * t) (64 - 4 * t) (c - 4 * t) q0 q1 q2 q3 wr (by omega) c0 c1 c2 c3)
      rw [← hw] at G
      have hsn := wordsN_succ bs t
      have hll := wordsN_length bs t
      have hcz : wr.cell? ⟨w.heap.size + 1, t, none⟩ = some (.int .u32 0) := hrow.cell (by have := padZ_next (n := 64) (l := wordsN bs t) (by omega); rw [hll] at this; exact this)
      have hcf := hrow.free t
      have hset := fun z => hrow.set t z
      have hpz := fun z => padZ_set (n := 64) (l := wordsN bs t) (z := z) (by omega)
      rw [hll] at hpz
      simp only [hpz] at hset
      have hset2 := hset (wordAt bs t)
      rw [← hsn] at hset2
      have HSET := Lib.hid hset2
      have HRES := Lib.hid hres
      have e4 : ¬ (c = 4 * t) := by omega
      have e5 : 4 * t ≤ 64 := by omega
      clear g0 g1 g2 g3 hw c0 c1 c2 c3 hsn hll hset hpz hset2 hrow hres
      go_wp2_with fail
      refine G.out.mono ?_
      rintro e w' ⟨rfl, k, rfl⟩
      go_wp2
      refine ⟨⟨t + 1, by omega, by go_num, HSET.out, ?_, ?_⟩, by simp [intOf]; omega⟩
      · exact (Below.heap_setCell wr _ _ _ (by intro h; first | (have h' : w.heap.size = w.heap.size + 1 := h; omega) | (have h' : w.heap.size + 1 = w.heap.size := h; omega))).trans HRES.out
      · have h := hbel.setCell (p := ⟨w.heap.size + 1, t, none⟩) (by show w.heap.size ≤ w.heap.size + 1; omega) (.int .u32 (wordAt bs t))
        exact ⟨h.os, h.tape, h.output, h.size, h.block⟩
    · obtain rfl : t = 16 := by omega
      have h16' : ((16 : Nat) : Int) = 16 := rfl
      rw [h16']
      clear h16'
      have HROW := Lib.hid hrow
      clear hrow
      go_wp2_with fail
      go_loopw [5] (fun j wr => ∃ n t : Nat, n ≤ 48 ∧ Hid (t = 16 + n) ∧ 16 ≤ t ∧ t ≤ 64 ∧ j = .int .i64 t ∧ IRow wr (w.heap.size + 1) 144 .u32 (padZ 64 (schedN (words16 bs) n)) ∧ IRow wr w.heap.size 144 .u32 (List.replicate 64 0) ∧ Below w.heap.size w wr) (fun j _ => 64 - (intOf j).toNat)
      case atStart => exact ⟨0, 16, by omega, Lib.hid rfl, by omega, by omega, rfl, HROW.out, hres, hbel⟩
      case round =>
        obtain ⟨n, t, hn, ht2, hg16, hle64, rfl, hrow, hres, hbel⟩ := hrel
        obtain ⟨ws, hws⟩ : ∃ ws, ws = schedN (words16 bs) n := ⟨_, rfl⟩
        have hwl : ws.length = t := by rw [hws, schedN_length, ht2.out]; rfl
        rw [← hws] at hrow
        by_cases h64 : t < 64
        · obtain ⟨i1, hi1⟩ : ∃ i, i = t - 15 := ⟨_, rfl⟩
          obtain ⟨i2, hi2⟩ : ∃ i, i = t - 2 := ⟨_, rfl⟩
          obtain ⟨i3, hi3⟩ : ∃ i, i = t - 7 := ⟨_, rfl⟩
          obtain ⟨i4, hi4⟩ : ∃ i, i = t - 16 := ⟨_, rfl⟩
          have w1 : IntKind.i64.wrap ((t : Int) - 15) = (i1 : Int) := by rw [IntWalk.i64_in _ (by omega)]; omega
          have w2 : IntKind.i64.wrap ((t : Int) - 2) = (i2 : Int) := by rw [IntWalk.i64_in _ (by omega)]; omega
          have w3 : IntKind.i64.wrap ((t : Int) - 7) = (i3 : Int) := by rw [IntWalk.i64_in _ (by omega)]; omega
          have w4 : IntKind.i64.wrap ((t : Int) - 16) = (i4 : Int) := by rw [IntWalk.i64_in _ (by omega)]; omega
          have b1 : (i1 : Int) < 64 := by omega
          have b2 : (i2 : Int) < 64 := by omega
          have b3 : (i3 : Int) < 64 := by omega
          have b4 : (i4 : Int) < 64 := by omega
          have bt : (t : Int) < 64 := by omega
          obtain ⟨x, hx⟩ : ∃ x, ws[i1]? = some x := ⟨_, List.getElem?_eq_getElem (by omega)⟩
          obtain ⟨y, hy⟩ : ∃ y, ws[i2]? = some y := ⟨_, List.getElem?_eq_getElem (by omega)⟩
          obtain ⟨u, hu⟩ : ∃ u, ws[i3]? = some u := ⟨_, List.getElem?_eq_getElem (by omega)⟩
          obtain ⟨v, hv⟩ : ∃ v, ws[i4]? = some v := ⟨_, List.getElem?_eq_getElem (by omega)⟩
          have k1 := hrow.cell (padZ_low (n := 64) hx)
          have k2 := hrow.cell (padZ_low (n := 64) hy)
          have k3 := hrow.cell (padZ_low (n := 64) hu)
          have k4 := hrow.cell (padZ_low (n := 64) hv)
          have k5 : wr.cell? ⟨w.heap.size + 1, t, none⟩ = some (.int .u32 0) := hrow.cell (by have := padZ_next (n := 64) (l := ws) (by omega); rw [hwl] at this; exact this)
          have kf := hrow.free t
          have hnw : nextW ws = (small1 y + u + small0 x + v) % 4294967296 := by
            unfold nextW
            rw [hwl, ← hi1, ← hi2, ← hi3, ← hi4]
            simp only [List.getD_eq_getElem?_getD, hx, hy, hu, hv, Option.getD_some]
            unfold add32
            omega
          have hsn : schedN (words16 bs) (n + 1) = ws ++ [nextW ws] := by rw [schedN, ← hws]
          have hset := hrow.set t (nextW ws)
          have hpz := padZ_set (n := 64) (l := ws) (z := nextW ws) (by omega)
          rw [hwl] at hpz
          rw [hpz, ← hsn] at hset
          rw [hnw] at hset
          have HSET := Lib.hid hset
          have HRES := Lib.hid hres
          have hux : U32 x := sched_u bs n x (by rw [← hws]; exact List.mem_of_getElem? hx)
          have huy : U32 y := sched_u bs n y (by rw [← hws]; exact List.mem_of_getElem? hy)
          have C1 := Lib.hid (fun W => rotl_any x (-7) 18446744073709551609 25 W hux (by decide) (by decide) (by decide))
          have C2 := Lib.hid (fun W => rotl_any x (-18) 18446744073709551598 14 W hux (by decide) (by decide) (by decide))
          have C3 := Lib.hid (fun W => rotl_any y (-17) 18446744073709551599 15 W huy (by decide) (by decide) (by decide))
          have C4 := Lib.hid (fun W => rotl_any y (-19) 18446744073709551597 13 W huy (by decide) (by decide) (by decide))
          clear hset hnw hsn hpz hrow hres hx hy hu hv hws hwl hi1 hi2 hi3 hi4
          go_wp2_with fail
          go_quiet (fail)
          go_wp2_with fail
          refine (C1.out _).mono ?_
          rintro e w5 ⟨rfl, rfl⟩
          go_wp2_with fail
          refine (C2.out _).mono ?_
          rintro e w5 ⟨rfl, rfl⟩
          go_wp2_with fail
          refine (C3.out _).mono ?_
          rintro e w5 ⟨rfl, rfl⟩
          go_wp2_with fail
          refine (C4.out _).mono ?_
          rintro e w5 ⟨rfl, rfl⟩
          go_wp2_with fail
          have hu2 := HU.out
          have m3 : ((wr.drewN nq).drew).cell? ⟨w.heap.size + 1, i3, none⟩ = some (.int .u32 u) := k3
          have m4 : ((wr.drewN nq).drew).cell? ⟨w.heap.size + 1, i4, none⟩ = some (.int .u32 v) := k4
          refine wp_region_still_tail 15 (by kernel_rfl) (by kernel_rfl) ?_
          simp only [List.take_succ_cons, List.take_zero, List.drop_succ_cons, List.drop_zero]
          change wpStill _ _ ((wr.drewN nq).drew) _ _ _
          repeat still_step
          refine wpStill_nil ?_
          change wpList _ _ _ _ _ ((wr.drewN nq).drew)
          go_wp2_with fail
          refine ⟨⟨n + 1, t + 1, by have := ht2.out; omega, Lib.hid (by have := ht2.out; omega), by omega, by omega, by go_num, HSET.out, ?_, ?_⟩, by simp [intOf]; omega⟩
          · exact (Below.heap_setCell wr _ _ _ (by intro h; first | (have h' : w.heap.size = w.heap.size + 1 := h; omega) | (have h' : w.heap.size + 1 = w.heap.size := h; omega))).trans HRES.out
          · have h := hbel.setCell (p := ⟨w.heap.size + 1, t, none⟩) (by show w.heap.size ≤ w.heap.size + 1; omega) (.int .u32 ((small1 y + u + small0 x + v) % 4294967296))
            exact ⟨h.os, h.tape, h.output, h.size, h.block⟩
        · obtain rfl : t = 64 := by omega
          have hn48 : n = 48 := by have := ht2.out; omega
          have hW : ws = W64 bs := by rw [hws, hn48]; unfold W64; with_reducible rfl
          rw [padZ_full hwl, hW] at hrow
          have hrow2 : IRow wr (w.heap.size + 1) 144 .u32 (W64 bs) := by with_reducible exact hrow
          have hl64 := W64_length bs
          have hfin := setRow_irow (ys := W64 bs) hres
          have hbf := below_setRow hbel (Nat.le_refl _) ((W64 bs).map (Value.int .u32)).toArray
          have HB := Lib.hid hbf
          have HFIN := Lib.hid hfin
          have HROW2 := Lib.hid hrow2
          have HRES := Lib.hid hres
          have HL64 := Lib.hid hl64
          clear hW hws hwl hrow hrow2 hres hfin hbf hn48 ht2 hl64
          go_wp2_with (first
            | (refine wpList_load_irow rfl 144 (.tmp 3) rfl (g := w.heap.size + 1) (t := 144) (k := .u32) (xs := W64 bs) rfl HROW2.out Tryd.underlying144 (by rw [HL64.out]; exact info_64) ?_)
            | (refine wpList_store_irow rfl 144 (.tmp 2) (.tmp 64) rfl (g := w.heap.size) (t := 144) (k := .u32) (xs := List.replicate 64 0) (ys := W64 bs) rfl rfl HRES.out (by rw [HL64.out]; exact info_64) (by rw [HL64.out]; rfl) ?_))
          refine bodyPost_ret (v := .agg ((W64 bs).map (Value.int .u32)).toArray) ?_ rfl ⟨rfl, HB.out⟩
          obtain ⟨fr, hrw⟩ : ∃ fr, ((wr.setRow (w.heap.size) ((W64 bs).map (Value.int .u32)).toArray)).heap[w.heap.size]? = some (.cells ((W64 bs).map (Value.int .u32)).toArray 144 fr) := ⟨_, HFIN.out⟩
          exact results_cell_row Tryd.results92 _ _ w.heap.size 144 ((W64 bs).map (Value.int .u32)).toArray fr _ rfl hrw Tryd.underlying144 rfl (by rw [List.size_toArray, List.length_map, HL64.out]; exact info_64)
end Go.Proofs.YtgiljhdjknglpaaDoor

/-
  hash.step256, walked. Conditions: the block has 64 bytes; the words are of 32 bits; the roots are laid.
-/
namespace Go.Proofs.YtgiljhdjknglpaaDoor
open Go.RowKit

/-- The 80 constants of 64 bits. -/
def k512 : List Int := [0x428a2f98d728ae22, 0x7137449123ef65cd, 0xb5c0fbcfec4d3b2f, 0xe9b5dba58189dbbc,
0x3956c25bf348b538, 0x59f111f1b605d019, 0x923f82a4af194f9b, 0xab1c5ed5da6d8118,
0xd807aa98a3030242, 0x12835b0145706fbe, 0x243185be4ee4b28c, 0x550c7dc3d5ffb4e2,
0x72be5d74f27b896f, 0x80deb1fe3b1696b1, 0x9bdc06a725c71235, 0xc19bf174cf692694,
0xe49b69c19ef14ad2, 0xefbe4786384f25e3, 0x0fc19dc68b8cd5b5, 0x240ca1cc77ac9c65,
0x2de92c6f592b0275, 0x4a7484aa6ea6e483, 0x5cb0a9dcbd41fbd4, 0x76f988da831153b5,
0x983e5152ee66dfab, 0xa831c66d2db43210, 0xb00327c898fb213f, 0xbf597fc7beef0ee4,
0xc6e00bf33da88fc2, 0xd5a79147930aa725, 0x06ca6351e003826f, 0x142929670a0e6e70,
0x27b70a8546d22ffc, 0x2e1b21385c26c926, 0x4d2c6dfc5ac42aed, 0x53380d139d95b3df,
0x650a73548baf63de, 0x766a0abb3c77b2a8, 0x81c2c92e47edaee6, 0x92722c851482353b,
0xa2bfe8a14cf10364, 0xa81a664bbc423001, 0xc24b8b70d0f89791, 0xc76c51a30654be30,
0xd192e819d6ef5218, 0xd69906245565a910, 0xf40e35855771202a, 0x106aa07032bbd1b8,
0x19a4c116b8d2d0c8, 0x1e376c085141ab53, 0x2748774cdf8eeb99, 0x34b0bcb5e19b48a8,
0x391c0cb3c5c95a63, 0x4ed8aa4ae3418acb, 0x5b9cca4f7763e373, 0x682e6ff3d6b2b8a3,
0x748f82ee5defb2fc, 0x78a5636f43172f60, 0x84c87814a1f0ab72, 0x8cc702081a6439ec,
0x90befffa23631e28, 0xa4506cebde82bde9, 0xbef9a3f7b2c67915, 0xc67178f2e372532b,
0xca273eceea26619c, 0xd186b8c721c0c207, 0xeada7dd6cde0eb1e, 0xf57d4f7fee6ed178,
0x06f067aa72176fba, 0x0a637dc5a2c898a6, 0x113f9804bef90dae, 0x1b710b35131c471b,
0x28db77f523047d84, 0x32caab7b40c72493, 0x3c9ebe0a15c9bebc, 0x431d67c49c100d4c,
0x4cc5d4becb3e42b6, 0x597f299cfc657e2a, 0x5fcb6fab3ad6faec, 0x6c44198c4a475817]
theorem k256_of : k256 = (k512.take 64).map (· / 4294967296) := by decide
/-- The roots lie in the program's memory. -/
def CubeIs (w : World) : Prop := 7 < w.heap.size ∧ ∀ (t : Nat) (k : Int), k512[t]? = some k → w.cell? ⟨7, t, none⟩ = some (.int .u64 k)
theorem CubeIs.below {w w' : World} {B : Nat} (h : CubeIs w) (hb : Below B w w') (hB : 7 < B) : CubeIs w' := by
  refine ⟨Nat.lt_of_lt_of_le h.1 hb.size, fun t k hk => ?_⟩
  exact (hb.cell (p := ⟨7, t, none⟩) hB).trans (h.2 t k hk)
theorem k512_at {t : Nat} (h : t < 64) : ∃ k, k512[t]? = some k ∧ k256.getD t 0 = k / 4294967296 ∧ 0 ≤ k ∧ k < 18446744073709551616 := by
  have hl : k512.length = 80 := rfl
  refine ⟨k512[t]'(by omega), List.getElem?_eq_getElem _, ?_, ?_⟩
  · rw [k256_of, List.getD_eq_getElem?_getD, List.getElem?_map, List.getElem?_take, if_pos h, List.getElem?_eq_getElem (by omega)]
    rfl
  · have h2 : ∀ x ∈ k512, 0 ≤ x ∧ x < 18446744073709551616 := by decide
    exact h2 _ (List.getElem_mem _)
theorem info_8 : (Tryd.prog.info? 108).map (·.size) = some 8 := by kernel_rfl

/-- The first i words with what a block gives them. -/
def mix (l v : List Int) (i : Nat) : List Int := (List.range 8).map fun k => if k < i then add32 (l.getD k 0) (v.getD k 0) else l.getD k 0
theorem idx8 (a b c d e f g h : Int) {i : Nat} (hi : i < 8) : ∃ v, [a, b, c, d, e, f, g, h][i]? = some v ∧ ∀ w, (Instr.index 108 (.agg #[.int .u32 a, .int .u32 b, .int .u32 c, .int .u32 d, .int .u32 e, .int .u32 f, .int .u32 g, .int .u32 h]) (.int .i64 i)).run Tryd.prog w = .ok (.int .u32 v) w := by
  obtain rfl | rfl | rfl | rfl | rfl | rfl | rfl | rfl : i = 0 ∨ i = 1 ∨ i = 2 ∨ i = 3 ∨ i = 4 ∨ i = 5 ∨ i = 6 ∨ i = 7 := by omega
  · exact ⟨_, rfl, fun w => by kernel_rfl⟩
  · exact ⟨_, rfl, fun w => by kernel_rfl⟩
  · exact ⟨_, rfl, fun w => by kernel_rfl⟩
  · exact ⟨_, rfl, fun w => by kernel_rfl⟩
  · exact ⟨_, rfl, fun w => by kernel_rfl⟩
  · exact ⟨_, rfl, fun w => by kernel_rfl⟩
  · exact ⟨_, rfl, fun w => by kernel_rfl⟩
  · exact ⟨_, rfl, fun w => by kernel_rfl⟩
theorem mix_at (l v : List Int) {i : Nat} (hi : i < 8) : (mix l v i)[i]? = some (l.getD i 0) := by
  obtain rfl | rfl | rfl | rfl | rfl | rfl | rfl | rfl : i = 0 ∨ i = 1 ∨ i = 2 ∨ i = 3 ∨ i = 4 ∨ i = 5 ∨ i = 6 ∨ i = 7 := by omega
  all_goals rfl
theorem mix_next (l v : List Int) {i : Nat} (hi : i < 8) : (mix l v i).set i (add32 (l.getD i 0) (v.getD i 0)) = mix l v (i + 1) := by
  obtain rfl | rfl | rfl | rfl | rfl | rfl | rfl | rfl : i = 0 ∨ i = 1 ∨ i = 2 ∨ i = 3 ∨ i = 4 ∨ i = 5 ∨ i = 6 ∨ i = 7 := by omega
  all_goals rfl
set_option maxRecDepth 100000 in
set_option maxHeartbeats 6400000 in
theorem step256_any (b o c : Nat) (s0 : S8) (bs : List UInt8) (w : World) (hs : s0.Ok) (hl : bs.length = 64) (hc : 64 ≤ c) (hcm : c ≤ 9223372036854775807) (hb : b < w.heap.size) (hcell : ∀ (j : Nat) (u : UInt8), bs[j]? = some u → w.cell? ⟨b, o + j, none⟩ = some (bv u)) (hcube : CubeIs w) :
    Calls Tryd.prog 91 #[.agg (s0.list.map (Value.int .u32)).toArray, .slice (some ⟨b, o, none⟩) 64 c] w fun e w' => e = .returned (.agg ((comp256 s0 bs).list.map (Value.int .u32)).toArray) ∧ Below w.heap.size w w' := by
  have HC := Lib.hid hcell
  have HL := Lib.hid hl
  have HK := Lib.hid hcube
  have HS := Lib.hid hs
  clear hcell hl hcube hs
  go_enter Tryd.func91, Tryd.ntmps91
  go_wp2_with fail
  have rA := IRow.new w 108 .u32 s0.list
  have bA : Below w.heap.size w (w.alloc (.cells (s0.list.map (Value.int .u32)).toArray 108)) := (Below.refl _ w).alloc (Nat.le_refl _) _
  have sA : (w.alloc (.cells (s0.list.map (Value.int .u32)).toArray 108)).heap.size = w.heap.size + 1 := by simp
  generalize w.alloc (.cells (s0.list.map (Value.int .u32)).toArray 108) = wA at *
  have rB := IRow.new wA 108 .u32 (List.replicate 8 0)
  have bB : Below (w.heap.size + 1) wA (wA.alloc (.cells ((List.replicate 8 (0 : Int)).map (Value.int .u32)).toArray 108)) := (Below.refl _ wA).alloc (by omega) _
  have sB : (wA.alloc (.cells ((List.replicate 8 (0 : Int)).map (Value.int .u32)).toArray 108)).heap.size = w.heap.size + 2 := by simp; omega
  rw [sA] at rB
  obtain ⟨wB, hwB⟩ : ∃ x, x = wA.alloc (.cells ((List.replicate 8 (0 : Int)).map (Value.int .u32)).toArray 108) := ⟨_, rfl⟩
  rw [← hwB] at rB bB sB
  change Calls _ _ _ (wA.alloc (.cells ((List.replicate 8 (0 : Int)).map (Value.int .u32)).toArray 108)) _
  rw [← hwB]
  clear hwB
  have rA2 := rA.below bB (Nat.lt_succ_self _)
  have hB0 : Below w.heap.size w wB := bA.trans (bB.mono (by omega))
  refine (sched_any b o c bs wB HL.out hc hcm (by omega) (fun j u hu => (hB0.cell (p := ⟨b, o + j, none⟩) hb).trans (HC.out j u hu))).mono ?_
  rintro e w3 ⟨rfl, hb3⟩
  rw [sB] at hb3
  have rA3 := rA2.below hb3 (by omega)
  have rB3 := rB.below hb3 (by omega)
  have s3 : w.heap.size + 2 ≤ w3.heap.size := by have := hb3.size; omega
  have rW := IRow.new w3 144 .u32 (List.replicate 64 0)
  have HRW := Lib.hid rW
  clear rW rA rA2 rB
  go_wp2_with (first
    | (refine wpList_store_irow rfl 144 (.tmp 5) (.tmp 22) rfl (g := w3.heap.size) (t := 144) (k := .u32) (xs := List.replicate 64 0) (ys := W64 bs) rfl rfl HRW.out (by rw [W64_length]; exact info_64) (by rw [W64_length]; rfl) ?_))
  have rW4 : IRow ((w3.alloc (.cells ((List.replicate 64 (0 : Int)).map (Value.int .u32)).toArray 144)).setRow w3.heap.size ((W64 bs).map (Value.int .u32)).toArray) w3.heap.size 144 .u32 (W64 bs) := setRow_irow HRW.out
  have b4 : Below w3.heap.size w3 ((w3.alloc (.cells ((List.replicate 64 (0 : Int)).map (Value.int .u32)).toArray 144)).setRow w3.heap.size ((W64 bs).map (Value.int .u32)).toArray) := below_setRow ((Below.refl _ w3).alloc (Nat.le_refl _) _) (Nat.le_refl _) _
  change Code.wp _ _ _ _ ((w3.alloc (.cells ((List.replicate 64 (0 : Int)).map (Value.int .u32)).toArray 144)).setRow w3.heap.size ((W64 bs).map (Value.int .u32)).toArray)
  obtain ⟨w4, hw4⟩ : ∃ x, x = (w3.alloc (.cells ((List.replicate 64 (0 : Int)).map (Value.int .u32)).toArray 144)).setRow w3.heap.size ((W64 bs).map (Value.int .u32)).toArray := ⟨_, rfl⟩
  rw [← hw4] at rW4 b4 ⊢
  clear hw4 HRW
  have rA4 := rA3.below b4 (by omega)
  have rB4 := rB3.below b4 (by omega)
  have hB4 : Below w.heap.size w w4 := hB0.trans ((hb3.mono (by omega)).trans (b4.mono (by omega)))
  have m0 := rA4.cell (i := 0) rfl
  have m1 := rA4.cell (i := 1) rfl
  have m2 := rA4.cell (i := 2) rfl
  have m3 := rA4.cell (i := 3) rfl
  have m4 := rA4.cell (i := 4) rfl
  have m5 := rA4.cell (i := 5) rfl
  have m6 := rA4.cell (i := 6) rfl
  have m7 := rA4.cell (i := 7) rfl
  have HA4 := Lib.hid rA4
  have HB4 := Lib.hid rB4
  have HW4 := Lib.hid rW4
  have HL4 := Lib.hid hB4
  have S4 := Lib.hid (⟨sA, sB, s3, b4.size⟩ : wA.heap.size = w.heap.size + 1 ∧ wB.heap.size = w.heap.size + 2 ∧ w.heap.size + 2 ≤ w3.heap.size ∧ w3.heap.size ≤ w4.heap.size)
  clear rA3 rB3 rA4 rB4 rW4 hB4 hB0 bA bB hb3 sA sB s3 b4
  go_quiet (fail)
  go_wp2_with fail
  clear m0 m1 m2 m3 m4 m5 m6 m7
  go_loopw [39, 6, 7, 8, 9, 10, 11, 12, 13] (fun j va vb vc vd ve vf vg vh wr => ∃ (t : Nat) (s : S8), t ≤ 64 ∧ Hid (s = rounds k256 (W64 bs) t s0) ∧ j = .int .i64 t ∧ va = .int .u32 s.a ∧ vb = .int .u32 s.b ∧ vc = .int .u32 s.c ∧ vd = .int .u32 s.d ∧ ve = .int .u32 s.e ∧ vf = .int .u32 s.f ∧ vg = .int .u32 s.g ∧ vh = .int .u32 s.h ∧
      IRow wr w.heap.size 108 .u32 s0.list ∧ IRow wr (w.heap.size + 1) 108 .u32 (List.replicate 8 0) ∧ IRow wr w3.heap.size 144 .u32 (W64 bs) ∧ Below w.heap.size w wr ∧ w3.heap.size ≤ wr.heap.size) (fun j _ _ _ _ _ _ _ _ _ => 64 - (intOf j).toNat)
  case atStart => exact ⟨0, s0, by omega, Lib.hid rfl, rfl, rfl, rfl, rfl, rfl, rfl, rfl, rfl, rfl, HA4.out, HB4.out, HW4.out, ⟨HL4.out.os, HL4.out.tape, HL4.out.output, HL4.out.size, HL4.out.block⟩, S4.out.2.2.2⟩
  case round =>
    obtain ⟨t, s, ht, hst, rfl, rfl, rfl, rfl, rfl, rfl, rfl, rfl, rfl, hra, hrb, hrw, hbel, hsz⟩ := hrel
    by_cases h64 : t < 64
    · obtain ⟨kk, hk, hk2, hk0, hk1⟩ := k512_at h64
      have kc := (HK.out.below hbel HK.out.1).2 t kk hk
      obtain ⟨x, hx⟩ : ∃ x, (W64 bs)[t]? = some x := ⟨_, List.getElem?_eq_getElem (by rw [W64_length]; omega)⟩
      have wc := hrw.cell hx
      obtain ⟨q, hq⟩ : ∃ q, q = kk / 4294967296 := ⟨_, rfl⟩
      have hq0 : 0 ≤ q := by omega
      have hq1 : q < 4294967296 := by omega
      have bt : (t : Int) < 64 := by omega
      have bt8 : (t : Int) < 80 := by omega
      have hok : s.Ok := by rw [hst.out]; exact rounds_ok _ _ _ HS.out
      have C1 := Lib.hid (fun W => rotl_any s.e (-6) 18446744073709551610 26 W hok.e (by decide) (by decide) (by decide))
      have C2 := Lib.hid (fun W => rotl_any s.e (-11) 18446744073709551605 21 W hok.e (by decide) (by decide) (by decide))
      have C3 := Lib.hid (fun W => rotl_any s.e (-25) 18446744073709551591 7 W hok.e (by decide) (by decide) (by decide))
      have C4 := Lib.hid (fun W => rotl_any s.a (-2) 18446744073709551614 30 W hok.a (by decide) (by decide) (by decide))
      have C5 := Lib.hid (fun W => rotl_any s.a (-13) 18446744073709551603 19 W hok.a (by decide) (by decide) (by decide))
      have C6 := Lib.hid (fun W => rotl_any s.a (-22) 18446744073709551594 10 W hok.a (by decide) (by decide) (by decide))
      have HX := Lib.hid hx
      have HK2 := Lib.hid hk2
      have HRA := Lib.hid hra
      have HRB := Lib.hid hrb
      have HRW := Lib.hid hrw
      have HBEL := Lib.hid hbel
      have HSZ := Lib.hid hsz
      have HU := Lib.hid u32_wrap
      clear hx hk2 hra hrb hrw hbel hsz hk hok
      go_wp2_with fail
      refine (C1.out _).mono ?_
      rintro e w5 ⟨rfl, rfl⟩
      go_wp2_with fail
      refine (C2.out _).mono ?_
      rintro e w5 ⟨rfl, rfl⟩
      go_wp2_with fail
      refine (C3.out _).mono ?_
      rintro e w5 ⟨rfl, rfl⟩
      go_wp2_with fail
      obtain ⟨S1, hS1⟩ : ∃ z, z = bits .xor .u32 (bits .xor .u32 (rot32 26 s.e) (rot32 21 s.e)) (rot32 7 s.e) := ⟨_, rfl⟩
      rw [← hS1]
      have HS1 := Lib.hid hS1
      clear hS1
      refine wp_region_still_lit (by kernel_rfl) (by kernel_rfl) ?_
      iterate 12 still_step
      obtain ⟨CH, hCH⟩ : ∃ z, z = bits .xor .u32 (bits .and .u32 s.e s.f) (bits .and .u32 (bits .xor .u32 (if IntKind.u32.signed = true then -1 else IntKind.u32.max) s.e) s.g) := ⟨_, rfl⟩
      obtain ⟨A1, hA1⟩ : ∃ z, z = IntKind.u32.wrap (s.h + S1) := ⟨_, rfl⟩
      obtain ⟨A2, hA2⟩ : ∃ z, z = IntKind.u32.wrap (A1 + CH) := ⟨_, rfl⟩
      rw [← hCH, ← hA1, ← hA2]
      have HCH := Lib.hid hCH
      have HA1 := Lib.hid hA1
      have HA2 := Lib.hid hA2
      clear hCH hA1 hA2
      iterate 6 still_step
      obtain ⟨KK, hKK⟩ : ∃ z, z = IntKind.u32.wrap (kk / 4294967296) := ⟨_, rfl⟩
      obtain ⟨A3, hA3⟩ : ∃ z, z = IntKind.u32.wrap (A2 + KK) := ⟨_, rfl⟩
      rw [← hKK, ← hA3]
      have HKK := Lib.hid hKK
      have HA3 := Lib.hid hA3
      clear hKK hA3
      iterate 4 still_step
      obtain ⟨T1, hT1⟩ : ∃ z, z = IntKind.u32.wrap (A3 + x) := ⟨_, rfl⟩
      rw [← hT1]
      have HT0 := Lib.hid hT1
      clear hT1
      still_step
      refine wpStill_nil ?_
      have HT1 := Lib.hid (show T1 = add32 (add32 (add32 (add32 s.h (big1 s.e)) (ch32 s.e s.f s.g)) q) x by
        rw [HT0.out, HA3.out, HKK.out, HA2.out, HA1.out, HCH.out, HS1.out]
        simp only [u32_wrap]
        rw [← hq, Int.emod_eq_of_lt hq0 hq1]
        rfl)
      clear HT0 HA3 HKK HA2 HA1 HCH HS1
      change Exit.then _ _ Exit.normal _ wr.drew
      obtain ⟨wd, hwd⟩ : ∃ x, x = wr.drew := ⟨_, rfl⟩
      rw [← hwd]
      have HRA2 : Hid (IRow wd w.heap.size 108 .u32 s0.list) := Lib.hid (by rw [hwd]; exact HRA.out)
      have HRB2 : Hid (IRow wd (w.heap.size + 1) 108 .u32 (List.replicate 8 0)) := Lib.hid (by rw [hwd]; exact HRB.out)
      have HRW2 : Hid (IRow wd w3.heap.size 144 .u32 (W64 bs)) := Lib.hid (by rw [hwd]; exact HRW.out)
      have HBEL2 : Hid (Below w.heap.size w wd) := Lib.hid (by rw [hwd]; exact HBEL.out.drew)
      have HSZ2 : Hid (w3.heap.size ≤ wd.heap.size) := Lib.hid (by rw [hwd]; exact HSZ.out)
      clear hwd HRA HRB HRW HBEL HSZ kc wc
      generalize bits BinOp.xor IntKind.u32 (if IntKind.u32.signed = true then -1 else IntKind.u32.max) s.e = NE
      generalize bits BinOp.and IntKind.u32 NE s.g = NG
      generalize kk / 4294967296 = KQ
      go_wp2_with fail
      refine (C4.out _).mono ?_
      rintro e w5 ⟨rfl, rfl⟩
      go_wp2_with fail
      refine (C5.out _).mono ?_
      rintro e w5 ⟨rfl, rfl⟩
      go_wp2_with fail
      refine (C6.out _).mono ?_
      rintro e w5 ⟨rfl, rfl⟩
      go_wp2_with fail
      have HR := Lib.hid (show rnd q x s = ⟨add32 T1 (add32 (big0 s.a) (maj32 s.a s.b s.c)), s.a, s.b, s.c, add32 s.d T1, s.e, s.f, s.g⟩ by rw [HT1.out]; rfl)
      refine ⟨⟨t + 1, rnd q x s, by omega, Lib.hid ?_, by go_num, ?_, ?_, ?_, ?_, ?_, ?_, ?_, ?_, HRA2.out, HRB2.out, HRW2.out, HBEL2.out, HSZ2.out⟩, by simp [intOf]; omega⟩
      · rw [rounds, ← hst.out, HK2.out, List.getD_eq_getElem?_getD, HX.out, ← hq]
        rfl
      all_goals (rw [HR.out]; try rfl)
    · obtain rfl : t = 64 := by omega
      have h64' : ((64 : Nat) : Int) = 64 := rfl
      rw [h64']
      have HRA := Lib.hid hra
      have HRB := Lib.hid hrb
      have HBEL := Lib.hid hbel
      have HST := Lib.hid hst.out
      clear h64' hra hrb hrw hbel hst hsz ht h64
      go_wp2_with fail
      go_loopw [115] (fun j wr => ∃ i : Nat, i ≤ 8 ∧ j = .int .i64 i ∧ IRow wr w.heap.size 108 .u32 (mix s0.list s.list i) ∧ IRow wr (w.heap.size + 1) 108 .u32 (List.replicate 8 0) ∧ Below w.heap.size w wr) (fun j _ => 8 - (intOf j).toNat)
      case atStart => exact ⟨0, by omega, rfl, HRA.out, HRB.out, HBEL.out⟩
      case round =>
        obtain ⟨i, hi, rfl, hra, hrb, hbel⟩ := hrel
        by_cases h8 : i < 8
        · obtain ⟨v, hv, hix⟩ := idx8 s.a s.b s.c s.d s.e s.f s.g s.h h8
          obtain ⟨l, hl⟩ : ∃ l, l = s0.list.getD i 0 := ⟨_, rfl⟩
          have hat := hra.cell (mix_at s0.list s.list h8)
          rw [← hl] at hat
          have hvd : s.list.getD i 0 = v := by rw [List.getD_eq_getElem?_getD]; exact congrArg (·.getD 0) hv
          have hset := hra.set i (add32 (s0.list.getD i 0) (s.list.getD i 0))
          rw [mix_next _ _ h8, hvd, ← hl] at hset
          have hfr := hra.free i
          have b8 : (i : Int) < 8 := by omega
          have HSET := Lib.hid hset
          have HRB2 := Lib.hid hrb
          have HBEL2 := Lib.hid hbel
          have HU := Lib.hid u32_wrap
          clear hv hvd hl hset hra hrb hbel
          go_wp2_with fail
          refine ⟨⟨i + 1, by omega, by go_num, HSET.out, ?_, ?_⟩, by simp [intOf]; omega⟩
          · exact (Below.heap_setCell wr _ _ _ (by intro h; have h' : w.heap.size + 1 = w.heap.size := h; omega)).trans HRB2.out
          · have h := HBEL2.out.setCell (p := ⟨w.heap.size, i, none⟩) (Nat.le_refl _) (.int .u32 (add32 l v))
            exact ⟨h.os, h.tape, h.output, h.size, h.block⟩
        · obtain rfl : i = 8 := by omega
          have h8' : ((8 : Nat) : Int) = 8 := rfl
          rw [h8']
          have e8 : mix s0.list s.list 8 = (comp256 s0 bs).list := by
            unfold comp256
            rw [← HST.out]
            rfl
          rw [e8] at hra
          have HRA3 := Lib.hid hra
          have HRB3 := Lib.hid hrb
          have HFIN := Lib.hid (setRow_irow (ys := (comp256 s0 bs).list) hrb)
          have HBF := Lib.hid (below_setRow hbel (Nat.le_succ _) ((comp256 s0 bs).list.map (Value.int .u32)).toArray)
          clear h8' e8 hra hrb hbel hi h8
          go_wp2_with (first
            | (refine wpList_load_irow rfl 108 (.tmp 2) rfl (g := w.heap.size) (t := 108) (k := .u32) (xs := (comp256 s0 bs).list) rfl HRA3.out Tryd.underlying108 info_8 ?_)
            | (refine wpList_store_irow rfl 108 (.tmp 4) (.tmp 126) rfl (g := w.heap.size + 1) (t := 108) (k := .u32) (xs := List.replicate 8 0) (ys := (comp256 s0 bs).list) rfl rfl HRB3.out info_8 rfl ?_))
          refine bodyPost_ret (v := .agg ((comp256 s0 bs).list.map (Value.int .u32)).toArray) ?_ rfl ⟨rfl, HBF.out⟩
          obtain ⟨fr, hrw⟩ : ∃ fr, ((wr.setRow (w.heap.size + 1) ((comp256 s0 bs).list.map (Value.int .u32)).toArray)).heap[w.heap.size + 1]? = some (.cells ((comp256 s0 bs).list.map (Value.int .u32)).toArray 108 fr) := ⟨_, HFIN.out⟩
          exact results_cell_row Tryd.results91 _ _ (w.heap.size + 1) 108 ((comp256 s0 bs).list.map (Value.int .u32)).toArray fr _ rfl hrw Tryd.underlying108 rfl info_8
end Go.Proofs.YtgiljhdjknglpaaDoor
