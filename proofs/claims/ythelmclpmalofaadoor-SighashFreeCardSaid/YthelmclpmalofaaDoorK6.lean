/-
  Texts joined: Rot, Sched, Sched2. Conditions: those of each.
-/
import Derived.Test.YthelmclpmalofaaDoorK5
import Derived.StillTailTactics
import Derived.Laws.Tables
import Derived.Deep.MidRow
import Derived.IntWalk
/-
  Words turned round, and read: bits.RotateLeft32, hash.get32, the reference's rot. Conditions: none.
-/
namespace Go.Proofs.YthelmclpmalofaaDoor
open Go.RowKit

set_option maxRecDepth 100000 in
set_option maxHeartbeats 800000 in
theorem rotl_any (x k : Int) (m n : Nat) (w : World) (_hx : U32 x) (h1 : IntKind.u64.wrap k = (m : Int)) (h2 : m % 32 = n) (hm : m < 18446744073709551616) :
    Calls Tryd.prog 90 #[.int .u32 x, .int .i64 k] w fun e w' => e = .returned (.int .u32 (rot32 n x)) ∧ w = w' := by
  have e1 : (m : Int) % 32 = (n : Int) := by omega
  have hn : n ≤ 31 := by omega
  have e2 : bits .and .u64 (m : Int) 31 = (n : Int) := by
    have h := bits_mask .u64 64 (by decide) wraps_u64 5 (by decide) (m : Int) (by omega) (by omega)
    have e5 : ((2 : Int) ^ 5 - 1) = 31 := by decide
    rw [e5] at h
    rw [h, ← e1]
    rfl
  obtain ⟨q, hq⟩ : ∃ q, q = 32 - n := ⟨_, rfl⟩
  have e3 : (32 : Int) - (n : Int) = (q : Int) := by omega
  have hr : rot32 n x = bits .or .u32 (x * 2 ^ n % 4294967296) (x / 2 ^ q) := by rw [hq]; rfl
  have HR := Lib.hid hr
  have hq32 : q ≤ 32 := by omega
  clear hr hq h2
  go_enter Tryd.func90, Tryd.ntmps90
  go_wp2
  go_ret
  exact ⟨by rw [HR.out]; rfl, rfl⟩

theorem or_be32 (x0 x1 x2 x3 : Int) (a0 : 0 ≤ x0) (b0 : x0 < 256) (a1 : 0 ≤ x1) (b1 : x1 < 256) (a2 : 0 ≤ x2) (b2 : x2 < 256) (a3 : 0 ≤ x3) (b3 : x3 < 256) :
    bits .or .u32 (bits .or .u32 (bits .or .u32 (x0 * 16777216) (x1 * 65536)) (x2 * 256)) x3 = x0 * 16777216 + x1 * 65536 + x2 * 256 + x3 := by
  have e1 : bits .or .u32 (x0 * 16777216) (x1 * 65536) = x0 * 16777216 + x1 * 65536 :=
    bits_join .u32 32 (by decide) wraps_u32 24 _ _ (by omega) (by omega) (by omega) (by omega) (by omega) (by omega)
  have e2 : bits .or .u32 (x0 * 16777216 + x1 * 65536) (x2 * 256) = x0 * 16777216 + x1 * 65536 + x2 * 256 :=
    bits_join .u32 32 (by decide) wraps_u32 16 _ _ (by omega) (by omega) (by omega) (by omega) (by omega) (by omega)
  have e3 : bits .or .u32 (x0 * 16777216 + x1 * 65536 + x2 * 256) x3 = x0 * 16777216 + x1 * 65536 + x2 * 256 + x3 :=
    bits_join .u32 32 (by decide) wraps_u32 8 _ _ (by omega) (by omega) (by omega) (by omega) (by omega) (by omega)
  rw [e1, e2, e3]

set_option maxRecDepth 100000 in
set_option maxHeartbeats 1600000 in
theorem get32_any (b o len c : Nat) (q0 q1 q2 q3 : UInt8) (w : World) (hl : 4 ≤ len) (h0 : w.cell? ⟨b, o, none⟩ = some (bv q0)) (h1 : w.cell? ⟨b, o + 1, none⟩ = some (bv q1)) (h2 : w.cell? ⟨b, o + 2, none⟩ = some (bv q2)) (h3 : w.cell? ⟨b, o + 3, none⟩ = some (bv q3)) :
    Calls Tryd.prog 91 #[.slice (some ⟨b, o, none⟩) len c] w fun e w' => e = .returned (.int .u32 (be32 q0 q1 q2 q3)) ∧ ∃ k, w' = w.drewN k := by
  have a0 := q0.toNat_lt
  have a1 := q1.toNat_lt
  have a2 := q2.toNat_lt
  have a3 := q3.toNat_lt
  have hor := or_be32 q0.toNat q1.toNat q2.toNat q3.toNat (by omega) (by omega) (by omega) (by omega) (by omega) (by omega) (by omega) (by omega)
  unfold bv at h0 h1 h2 h3
  have i0 : (0 : Int) < (len : Int) := by omega
  have i1 : (1 : Int) < (len : Int) := by omega
  have i2 : (2 : Int) < (len : Int) := by omega
  have i3 : (3 : Int) < (len : Int) := by omega
  have u0 : IntKind.u32.wrap (q0.toNat : Int) = (q0.toNat : Int) := by rw [u32_wrap]; omega
  have u1 : IntKind.u32.wrap (q1.toNat : Int) = (q1.toNat : Int) := by rw [u32_wrap]; omega
  have u2 : IntKind.u32.wrap (q2.toNat : Int) = (q2.toNat : Int) := by rw [u32_wrap]; omega
  have u3 : IntKind.u32.wrap (q3.toNat : Int) = (q3.toNat : Int) := by rw [u32_wrap]; omega
  have v0 : IntKind.u32.wrap ((q0.toNat : Int) * 16777216) = (q0.toNat : Int) * 16777216 := by rw [u32_wrap]; omega
  have v1 : IntKind.u32.wrap ((q1.toNat : Int) * 65536) = (q1.toNat : Int) * 65536 := by rw [u32_wrap]; omega
  have v2 : IntKind.u32.wrap ((q2.toNat : Int) * 256) = (q2.toNat : Int) * 256 := by rw [u32_wrap]; omega
  go_enter Tryd.func91, Tryd.ntmps91
  go_wp2_with fail
  go_quiet (fail)
  go_wp2
  go_ret
  exact ⟨rfl, _, rfl⟩
end Go.Proofs.YthelmclpmalofaaDoor

/-
  hash.schedule256. Conditions: the block has 64 bytes.
-/
namespace Go.Proofs.YthelmclpmalofaaDoor
open Go.RowKit

theorem isU32_cells (xs : List Int) (k : IntKind) : (xs.map (Value.int k)).toArray.all (·.oneCell') = true :=
  Array.all_eq_true_iff_forall_mem.2 (fun v hv => by
    have h : v ∈ xs.map (Value.int k) := by simpa using hv
    obtain ⟨z, _, rfl⟩ := List.mem_map.1 h
    rfl)
theorem load_irow {w : World} {g : Nat} {t ty : TypeId} {k : IntKind} {xs : List Int} {n : Nat} {e : TypeId} (h : IRow w g t k xs) (hu : Tryd.prog.underlying ty = some (.array n e)) (hi : (Tryd.prog.info? ty).map (·.size) = some xs.length) :
    (loadVar ty ⟨g, 0, none⟩).run Tryd.prog w = .ok (.agg (xs.map (Value.int k)).toArray) w :=
  run_loadVar_row w g t ty _ (0, 0) (.array n e) h hu rfl (by rw [hi]; simp)
theorem loadAt_irow {w : World} {g : Nat} {t ty : TypeId} {k : IntKind} {xs : List Int} {n : Nat} {e : TypeId} (h : IRow w g t k xs) (hu : Tryd.prog.underlying ty = some (.array n e)) (hi : (Tryd.prog.info? ty).map (·.size) = some xs.length) :
    (Instr.loadAt ty (.pointer (some ⟨g, 0, none⟩))).run Tryd.prog w = .ok (.agg (xs.map (Value.int k)).toArray) w := by
  simp only [Instr.loadAt, Instr.sureAddr, Sem.run_bind, Sem.run_pure, Result.andThen_ok, load_irow h hu hi]
theorem storeAt_irow {w : World} {g : Nat} {t ty : TypeId} {k : IntKind} {xs ys : List Int} (h : IRow w g t k xs) (hi : (Tryd.prog.info? ty).map (·.size) = some ys.length) (hl : xs.length = ys.length) :
    (Instr.storeAt ty (.pointer (some ⟨g, 0, none⟩)) (.agg (ys.map (Value.int k)).toArray)).run Tryd.prog w = .ok () (w.setRow g (ys.map (Value.int k)).toArray) := by
  simp only [Instr.storeAt, Instr.sureAddr, Sem.run_bind, Sem.run_pure, Result.andThen_ok]
  exact run_storeVar_row w g t ty _ _ h (by rw [hi]; simp) (by simp [hl]) (isU32_cells _ _)
theorem setRow_irow {w : World} {g : Nat} {t : TypeId} {k : IntKind} {xs ys : List Int} (h : IRow w g t k xs) : IRow (w.setRow g (ys.map (Value.int k)).toArray) g t k ys := by
  unfold IRow at h ⊢
  simp [World.setRow, Array.getElem?_modify, h]
theorem wpList_load_irow {ops : Array Oper} {rest : List Oper} {op : Oper} {a : Act} {w : World} {Q : Exit → Act → World → Prop} (hgd : op.guard = none) (ty : TypeId) (x : Operand) (ho : op.op = .load ty x)
    {g : Nat} {t : TypeId} {k : IntKind} {xs : List Int} {n : Nat} {e : TypeId} (hx : a.eval x = .pointer (some ⟨g, 0, none⟩)) (h : IRow w g t k xs) (hu : Tryd.prog.underlying ty = some (.array n e)) (hi : (Tryd.prog.info? ty).map (·.size) = some xs.length)
    (hn : wpList Tryd.prog ops Q rest (a.put op.dst (.agg (xs.map (Value.int k)).toArray)) w) : wpList Tryd.prog ops Q (op :: rest) a w :=
  wpList_plain hgd fun K hK => by
    unfold Oper.wp execOp
    simp only [ho, hx, loadAt_irow h hu hi, Sem.run_bind, Sem.run_pure, Result.andThen_ok]
    exact hK _ _ hn
theorem wpList_store_irow {ops : Array Oper} {rest : List Oper} {op : Oper} {a : Act} {w : World} {Q : Exit → Act → World → Prop} (hgd : op.guard = none) (ty : TypeId) (x y : Operand) (ho : op.op = .store ty x y)
    {g : Nat} {t : TypeId} {k : IntKind} {xs ys : List Int} (hx : a.eval x = .pointer (some ⟨g, 0, none⟩)) (hy : a.eval y = .agg (ys.map (Value.int k)).toArray) (h : IRow w g t k xs) (hi : (Tryd.prog.info? ty).map (·.size) = some ys.length) (hl : xs.length = ys.length)
    (hn : wpList Tryd.prog ops Q rest (a.put op.dst undef) (w.setRow g (ys.map (Value.int k)).toArray)) : wpList Tryd.prog ops Q (op :: rest) a w :=
  wpList_plain hgd fun K hK => by
    unfold Oper.wp execOp
    simp only [ho, hx, hy, storeAt_irow h hi hl, Sem.run_bind, Sem.run_pure, Result.andThen_ok]
    exact hK _ _ hn
end Go.Proofs.YthelmclpmalofaaDoor

/-
  hash.schedule256, walked. Conditions: the block has 64 bytes.
-/
namespace Go.Proofs.YthelmclpmalofaaDoor
open Go.RowKit

theorem info_64 : (Tryd.prog.info? 100).map (·.size) = some 64 := by kernel_rfl
theorem wordAt_cells {bs : List UInt8} {t : Nat} (h : 4 * t + 4 ≤ bs.length) : ∃ q0 q1 q2 q3, bs[4 * t]? = some q0 ∧ bs[4 * t + 1]? = some q1 ∧ bs[4 * t + 2]? = some q2 ∧ bs[4 * t + 3]? = some q3 ∧ wordAt bs t = be32 q0 q1 q2 q3 := by
  refine ⟨bs[4 * t]'(by omega), bs[4 * t + 1]'(by omega), bs[4 * t + 2]'(by omega), bs[4 * t + 3]'(by omega), List.getElem?_eq_getElem _, List.getElem?_eq_getElem _, List.getElem?_eq_getElem _, List.getElem?_eq_getElem _, ?_⟩
  unfold wordAt
  simp only [List.getD_eq_getElem?_getD]
  rw [List.getElem?_eq_getElem (show 4 * t < bs.length by omega), List.getElem?_eq_getElem (show 4 * t + 1 < bs.length by omega), List.getElem?_eq_getElem (show 4 * t + 2 < bs.length by omega), List.getElem?_eq_getElem (show 4 * t + 3 < bs.length by omega)]
  rfl
def wordsN (bs : List UInt8) (t : Nat) : List Int := (List.range t).map (wordAt bs)
theorem wordsN_succ (bs : List UInt8) (t : Nat) : wordsN bs (t + 1) = wordsN bs t ++ [wordAt bs t] := by simp [wordsN, List.range_succ]
theorem wordsN_length (bs : List UInt8) (t : Nat) : (wordsN bs t).length = t := by simp [wordsN]

theorem nextW_u (ws : List Int) : U32 (nextW ws) := add32_u _ _
theorem sched_u (bs : List UInt8) : ∀ n, ∀ x ∈ schedN (words16 bs) n, U32 x
  | 0, x, hx => by
    unfold schedN words16 at hx
    obtain ⟨t, _, rfl⟩ := List.mem_map.1 hx
    exact be32_u _ _ _ _
  | n + 1, x, hx => by
    rw [schedN] at hx
    rcases List.mem_append.1 hx with h | h
    · exact sched_u bs n x h
    · rw [List.mem_singleton.1 h]
      exact nextW_u _

set_option maxRecDepth 100000 in
set_option maxHeartbeats 6400000 in
theorem sched_any (b o c : Nat) (bs : List UInt8) (w : World) (hl : bs.length = 64) (hc : 64 ≤ c) (hcm : c ≤ 9223372036854775807) (hb : b < w.heap.size) (hcell : ∀ (j : Nat) (u : UInt8), bs[j]? = some u → w.cell? ⟨b, o + j, none⟩ = some (bv u)) :
    Calls Tryd.prog 89 #[.slice (some ⟨b, o, none⟩) 64 c] w fun e w' => e = .returned (.agg ((W64 bs).map (Value.int .u32)).toArray) ∧ Below w.heap.size w w' := by
  have HC := Lib.hid hcell
  have HL := Lib.hid hl
  clear hcell hl
  go_enter Tryd.func89, Tryd.ntmps89
  go_wp2_with fail
  have r1 := IRow.new w 100 .u32 (List.replicate 64 0)
  have r2 := IRow.new (w.alloc (.cells ((List.replicate 64 (0 : Int)).map (Value.int .u32)).toArray 100)) 100 .u32 (List.replicate 64 0)
  have hs1 : (w.alloc (.cells ((List.replicate 64 (0 : Int)).map (Value.int .u32)).toArray 100)).heap.size = w.heap.size + 1 := by simp
  rw [hs1] at r2
  have R1 := Lib.hid r1
  have R2 := Lib.hid r2
  have HU := Lib.hid u32_wrap
  clear r1 r2 hs1
  go_loopw [10] (fun j wr => ∃ t : Nat, t ≤ 16 ∧ j = .int .i64 t ∧ IRow wr (w.heap.size + 1) 100 .u32 (padZ 64 (wordsN bs t)) ∧ IRow wr w.heap.size 100 .u32 (List.replicate 64 0) ∧ Below w.heap.size w wr) (fun j _ => 16 - (intOf j).toNat)
  case atStart => exact ⟨0, by omega, rfl, R2.out, (Below.refl (w.heap.size + 1) _).alloc (by simp) _ |>.block _ (by simp) |>.trans R1.out, ((Below.refl _ w).alloc (Nat.le_refl _) _).alloc (by simp) _⟩
  case round =>
    obtain ⟨t, ht, rfl, hrow, hres, hbel⟩ := hrel
    by_cases h16 : t < 16
    · obtain ⟨q0, q1, q2, q3, g0, g1, g2, g3, hw⟩ := wordAt_cells (bs := bs) (t := t) (by have := HL.out; omega)
      have c0 := (hbel.cell (p := ⟨b, o + 4 * t, none⟩) hb).trans (HC.out _ _ g0)
      have c1 := (hbel.cell (p := ⟨b, o + (4 * t + 1), none⟩) hb).trans (HC.out _ _ g1)
      have c2 := (hbel.cell (p := ⟨b, o + (4 * t + 2), none⟩) hb).trans (HC.out _ _ g2)
      have c3 := (hbel.cell (p := ⟨b, o + (4 * t + 3), none⟩) hb).trans (HC.out _ _ g3)
      rw [← Nat.add_assoc] at c1 c2 c3
      have G := Lib.hid (get32_any b (o + 4 * t) (64 - 4 * t) (c - 4 * t) q0 q1 q2 q3 wr (by omega) c0 c1 c2 c3)
      rw [← hw] at G
      have hsn := wordsN_succ bs t
      have hll := wordsN_length bs t
      have hcz : wr.cell? ⟨w.heap.size + 1, t, none⟩ = some (.int .u32 0) := hrow.cell (by have := padZ_next (n := 64) (l := wordsN bs t) (by omega); rw [hll] at this; exact this)
      have hcf := hrow.free t
      have hset := fun z => hrow.set t z
      have hpz := fun z => padZ_set (n := 64) (l := wordsN bs t) (z := z) (by omega)
      rw [hll] at hpz
      simp only [hpz] at hset
      have hset2 := hset (wordAt bs t)
      rw [← hsn] at hset2
      have HSET := Lib.hid hset2
      have HRES := Lib.hid hres
      have e4 : ¬ (c = 4 * t) := by omega
      have e5 : 4 * t ≤ 64 := by omega
      clear g0 g1 g2 g3 hw c0 c1 c2 c3 hsn hll hset hpz hset2 hrow hres
      go_wp2_with fail
      refine G.out.mono ?_
      rintro e w' ⟨rfl, k, rfl⟩
      go_wp2
      refine ⟨⟨t + 1, by omega, by go_num, HSET.out, ?_, ?_⟩, by simp [intOf]; omega⟩
      · exact (Below.heap_setCell wr _ _ _ (by intro h; first | (have h' : w.heap.size = w.heap.size + 1 := h; omega) | (have h' : w.heap.size + 1 = w.heap.size := h; omega))).trans HRES.out
      · have h := hbel.setCell (p := ⟨w.heap.size + 1, t, none⟩) (by show w.heap.size ≤ w.heap.size + 1; omega) (.int .u32 (wordAt bs t))
        exact ⟨h.os, h.tape, h.output, h.size, h.block⟩
    · obtain rfl : t = 16 := by omega
      have h16' : ((16 : Nat) : Int) = 16 := rfl
      rw [h16']
      clear h16'
      have HROW := Lib.hid hrow
      clear hrow
      go_wp2_with fail
      go_loopw [5] (fun j wr => ∃ n t : Nat, n ≤ 48 ∧ Hid (t = 16 + n) ∧ 16 ≤ t ∧ t ≤ 64 ∧ j = .int .i64 t ∧ IRow wr (w.heap.size + 1) 100 .u32 (padZ 64 (schedN (words16 bs) n)) ∧ IRow wr w.heap.size 100 .u32 (List.replicate 64 0) ∧ Below w.heap.size w wr) (fun j _ => 64 - (intOf j).toNat)
      case atStart => exact ⟨0, 16, by omega, Lib.hid rfl, by omega, by omega, rfl, HROW.out, hres, hbel⟩
      case round =>
        obtain ⟨n, t, hn, ht2, hg16, hle64, rfl, hrow, hres, hbel⟩ := hrel
        obtain ⟨ws, hws⟩ : ∃ ws, ws = schedN (words16 bs) n := ⟨_, rfl⟩
        have hwl : ws.length = t := by rw [hws, schedN_length, ht2.out]; rfl
        rw [← hws] at hrow
        by_cases h64 : t < 64
        · obtain ⟨i1, hi1⟩ : ∃ i, i = t - 15 := ⟨_, rfl⟩
          obtain ⟨i2, hi2⟩ : ∃ i, i = t - 2 := ⟨_, rfl⟩
          obtain ⟨i3, hi3⟩ : ∃ i, i = t - 7 := ⟨_, rfl⟩
          obtain ⟨i4, hi4⟩ : ∃ i, i = t - 16 := ⟨_, rfl⟩
          have w1 : IntKind.i64.wrap ((t : Int) - 15) = (i1 : Int) := by rw [IntWalk.i64_in _ (by omega)]; omega
          have w2 : IntKind.i64.wrap ((t : Int) - 2) = (i2 : Int) := by rw [IntWalk.i64_in _ (by omega)]; omega
          have w3 : IntKind.i64.wrap ((t : Int) - 7) = (i3 : Int) := by rw [IntWalk.i64_in _ (by omega)]; omega
          have w4 : IntKind.i64.wrap ((t : Int) - 16) = (i4 : Int) := by rw [IntWalk.i64_in _ (by omega)]; omega
          have b1 : (i1 : Int) < 64 := by omega
          have b2 : (i2 : Int) < 64 := by omega
          have b3 : (i3 : Int) < 64 := by omega
          have b4 : (i4 : Int) < 64 := by omega
          have bt : (t : Int) < 64 := by omega
          obtain ⟨x, hx⟩ : ∃ x, ws[i1]? = some x := ⟨_, List.getElem?_eq_getElem (by omega)⟩
          obtain ⟨y, hy⟩ : ∃ y, ws[i2]? = some y := ⟨_, List.getElem?_eq_getElem (by omega)⟩
          obtain ⟨u, hu⟩ : ∃ u, ws[i3]? = some u := ⟨_, List.getElem?_eq_getElem (by omega)⟩
          obtain ⟨v, hv⟩ : ∃ v, ws[i4]? = some v := ⟨_, List.getElem?_eq_getElem (by omega)⟩
          have k1 := hrow.cell (padZ_low (n := 64) hx)
          have k2 := hrow.cell (padZ_low (n := 64) hy)
          have k3 := hrow.cell (padZ_low (n := 64) hu)
          have k4 := hrow.cell (padZ_low (n := 64) hv)
          have k5 : wr.cell? ⟨w.heap.size + 1, t, none⟩ = some (.int .u32 0) := hrow.cell (by have := padZ_next (n := 64) (l := ws) (by omega); rw [hwl] at this; exact this)
          have kf := hrow.free t
          have hnw : nextW ws = (small1 y + u + small0 x + v) % 4294967296 := by
            unfold nextW
            rw [hwl, ← hi1, ← hi2, ← hi3, ← hi4]
            simp only [List.getD_eq_getElem?_getD, hx, hy, hu, hv, Option.getD_some]
            unfold add32
            omega
          have hsn : schedN (words16 bs) (n + 1) = ws ++ [nextW ws] := by rw [schedN, ← hws]
          have hset := hrow.set t (nextW ws)
          have hpz := padZ_set (n := 64) (l := ws) (z := nextW ws) (by omega)
          rw [hwl] at hpz
          rw [hpz, ← hsn] at hset
          rw [hnw] at hset
          have HSET := Lib.hid hset
          have HRES := Lib.hid hres
          have hux : U32 x := sched_u bs n x (by rw [← hws]; exact List.mem_of_getElem? hx)
          have huy : U32 y := sched_u bs n y (by rw [← hws]; exact List.mem_of_getElem? hy)
          have C1 := Lib.hid (fun W => rotl_any x (-7) 18446744073709551609 25 W hux (by decide) (by decide) (by decide))
          have C2 := Lib.hid (fun W => rotl_any x (-18) 18446744073709551598 14 W hux (by decide) (by decide) (by decide))
          have C3 := Lib.hid (fun W => rotl_any y (-17) 18446744073709551599 15 W huy (by decide) (by decide) (by decide))
          have C4 := Lib.hid (fun W => rotl_any y (-19) 18446744073709551597 13 W huy (by decide) (by decide) (by decide))
          clear hset hnw hsn hpz hrow hres hx hy hu hv hws hwl hi1 hi2 hi3 hi4
          go_wp2_with fail
          go_quiet (fail)
          go_wp2_with fail
          refine (C1.out _).mono ?_
          rintro e w5 ⟨rfl, rfl⟩
          go_wp2_with fail
          refine (C2.out _).mono ?_
          rintro e w5 ⟨rfl, rfl⟩
          go_wp2_with fail
          refine (C3.out _).mono ?_
          rintro e w5 ⟨rfl, rfl⟩
          go_wp2_with fail
          refine (C4.out _).mono ?_
          rintro e w5 ⟨rfl, rfl⟩
          go_wp2_with fail
          have hu2 := HU.out
          have m3 : ((wr.drewN nq).drew).cell? ⟨w.heap.size + 1, i3, none⟩ = some (.int .u32 u) := k3
          have m4 : ((wr.drewN nq).drew).cell? ⟨w.heap.size + 1, i4, none⟩ = some (.int .u32 v) := k4
          refine wp_region_still_tail 15 (by kernel_rfl) (by kernel_rfl) ?_
          simp only [List.take_succ_cons, List.take_zero, List.drop_succ_cons, List.drop_zero]
          change wpStill _ _ ((wr.drewN nq).drew) _ _ _
          repeat still_step
          refine wpStill_nil ?_
          change wpList _ _ _ _ _ ((wr.drewN nq).drew)
          go_wp2_with fail
          refine ⟨⟨n + 1, t + 1, by have := ht2.out; omega, Lib.hid (by have := ht2.out; omega), by omega, by omega, by go_num, HSET.out, ?_, ?_⟩, by simp [intOf]; omega⟩
          · exact (Below.heap_setCell wr _ _ _ (by intro h; first | (have h' : w.heap.size = w.heap.size + 1 := h; omega) | (have h' : w.heap.size + 1 = w.heap.size := h; omega))).trans HRES.out
          · have h := hbel.setCell (p := ⟨w.heap.size + 1, t, none⟩) (by show w.heap.size ≤ w.heap.size + 1; omega) (.int .u32 ((small1 y + u + small0 x + v) % 4294967296))
            exact ⟨h.os, h.tape, h.output, h.size, h.block⟩
        · obtain rfl : t = 64 := by omega
          have hn48 : n = 48 := by have := ht2.out; omega
          have hW : ws = W64 bs := by rw [hws, hn48]; unfold W64; with_reducible rfl
          rw [padZ_full hwl, hW] at hrow
          have hrow2 : IRow wr (w.heap.size + 1) 100 .u32 (W64 bs) := by with_reducible exact hrow
          have hl64 := W64_length bs
          have hfin := setRow_irow (ys := W64 bs) hres
          have hbf := below_setRow hbel (Nat.le_refl _) ((W64 bs).map (Value.int .u32)).toArray
          have HB := Lib.hid hbf
          have HFIN := Lib.hid hfin
          have HROW2 := Lib.hid hrow2
          have HRES := Lib.hid hres
          have HL64 := Lib.hid hl64
          clear hW hws hwl hrow hrow2 hres hfin hbf hn48 ht2 hl64
          go_wp2_with (first
            | (refine wpList_load_irow rfl 100 (.tmp 3) rfl (g := w.heap.size + 1) (t := 100) (k := .u32) (xs := W64 bs) rfl HROW2.out Tryd.underlying100 (by rw [HL64.out]; exact info_64) ?_)
            | (refine wpList_store_irow rfl 100 (.tmp 2) (.tmp 64) rfl (g := w.heap.size) (t := 100) (k := .u32) (xs := List.replicate 64 0) (ys := W64 bs) rfl rfl HRES.out (by rw [HL64.out]; exact info_64) (by rw [HL64.out]; rfl) ?_))
          refine bodyPost_ret (v := .agg ((W64 bs).map (Value.int .u32)).toArray) ?_ rfl ⟨rfl, HB.out⟩
          obtain ⟨fr, hrw⟩ : ∃ fr, ((wr.setRow (w.heap.size) ((W64 bs).map (Value.int .u32)).toArray)).heap[w.heap.size]? = some (.cells ((W64 bs).map (Value.int .u32)).toArray 100 fr) := ⟨_, HFIN.out⟩
          exact results_cell_row Tryd.results89 _ _ w.heap.size 100 ((W64 bs).map (Value.int .u32)).toArray fr _ rfl hrw Tryd.underlying100 rfl (by rw [List.size_toArray, List.length_map, HL64.out]; exact info_64)
end Go.Proofs.YthelmclpmalofaaDoor
