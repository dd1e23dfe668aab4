/-
  Texts joined: TvR, TvR2, TvG3. Conditions: those of each.
-/
import Derived.Test.YthelmclpmalofaaDoorK12
import Derived.Laws.CopyRow
import Derived.Laws.MakeOwn
import Derived.Deep.CutBlock
import Derived.Test.YthelmclpmalofaaDoorK17
import Derived.BigQuiet
import Derived.Deep.QuietTactic
import Derived.Test.YthelmclpmalofaaDoorK13
/-
  slices.Repeat of one empty output. Conditions: at most ten.
-/
namespace Go.Proofs.YthelmclpmalofaaDoor
open Go.RowKit

set_option maxRecDepth 100000 in
set_option maxHeartbeats 3200000 in
theorem mul64_tout (n : Nat) (w : World) (hn : n ≤ 10) : Calls Tryd.prog 80 #[.int .u64 1, .int .u64 (n : Int)] w fun e w' => e = .returned (.tuple #[.int .u64 0, .int .u64 (n : Int)]) ∧ w = w' := by
  rcases (show n = 0 ∨ n = 1 ∨ n = 2 ∨ n = 3 ∨ n = 4 ∨ n = 5 ∨ n = 6 ∨ n = 7 ∨ n = 8 ∨ n = 9 ∨ n = 10 by omega) with rfl | rfl | rfl | rfl | rfl | rfl | rfl | rfl | rfl | rfl | rfl <;>
  (go_enter Tryd.func80, Tryd.ntmps80
   go_wp2
   go_ret2
   exact ⟨rfl, rfl⟩)
set_option maxRecDepth 100000 in
set_option maxHeartbeats 800000 in
theorem mul_tout (n : Nat) (w : World) (hn : n ≤ 10) : Calls Tryd.prog 67 #[.int .u64 1, .int .u64 (n : Int)] w fun e w' => e = .returned (.tuple #[.int .u64 0, .int .u64 (n : Int)]) ∧ w = w' := by
  go_enter Tryd.func67, Tryd.ntmps67
  go_wp2_with (go_at_call 80; refine (mul64_tout n _ hn).mono ?_; rintro e w' ⟨rfl, rfl⟩)
  go_ret2
  exact ⟨rfl, rfl⟩

/-- The cells of empty outputs, one behind the other. -/
def mV (j : Nat) : Value := if j % 2 = 0 then .int .i64 (-1) else .slice none 0 0
def mRow (k : Nat) : List Value := (List.range (k * 2)).map mV
theorem mV_two (a j : Nat) : mV (a * 2 + j) = mV j := by unfold mV; rw [show (a * 2 + j) % 2 = j % 2 by omega]
theorem mV_sub {k i : Nat} (h : k * 2 ≤ i) : mV (i - k * 2) = mV i := by unfold mV; rw [show (i - k * 2) % 2 = i % 2 by omega]
theorem mV_one (j : Nat) : (mV j).oneCell' = true := by unfold mV; split <;> rfl
theorem mRow_length (k : Nat) : (mRow k).length = k * 2 := by unfold mRow; rw [List.length_map, List.length_range]
theorem mRow_at {k j : Nat} (h : j < k * 2) : (mRow k)[j]? = some (mV j) := by unfold mRow; rw [List.getElem?_map, List.getElem?_range h]; rfl
def mOut : OutV := ⟨⟨-1, []⟩, .slice none 0 0⟩
theorem mRow_flat : ∀ n : Nat, (List.replicate n mOut).flatMap outC = mRow n
  | 0 => rfl
  | n + 1 => by
    rw [List.replicate_succ', List.flatMap_append, mRow_flat n]
    unfold mRow
    rw [show (n + 1) * 2 = n * 2 + 1 + 1 by omega, List.range_succ, List.range_succ, List.map_append, List.map_append, List.append_assoc]
    congr 1
    show _ = [mV (n * 2)] ++ [mV (n * 2 + 1)]
    rw [show mV (n * 2) = mV 0 from mV_two n 0, mV_two n 1]
    rfl
/-- Block g is a row of n outputs, of which the first k are empty ones. -/
def FillO (w : World) (g n k : Nat) : Prop := ∃ cur : Array Value, w.heap[g]? = some (.cells cur 54 (0, 0)) ∧ cur.size = n * 2 ∧ ∀ i, i < k * 2 → cur[i]? = some (mV i)
theorem FillO.cell {w : World} {g n k i : Nat} (h : FillO w g n k) (hi : i < k * 2) : w.cell? ⟨g, i, none⟩ = some (mV i) := by
  obtain ⟨cur, hc, _, hf⟩ := h
  rw [cell_of_row w g i _ _ _ hc]
  exact hf i hi
theorem FillO.drew {w : World} {g n k : Nat} (h : FillO w g n k) : FillO w.drew g n k := h
theorem run_copy_two {w : World} (ty : TypeId) (g o dLen dCap : Nat) (a : Addr) (sLen sCap : Nat) (cur : Array Value) (t : TypeId) (cs : List Value)
    (hg : w.heap[g]? = some (.cells cur t (0, 0))) (hn : cs.length = Nat.min sLen dLen * 2)
    (hsrc : ∀ j v, cs[j]? = some v → w.cell? (a.add j) = some v) (hfit : o + cs.length ≤ cur.size) (h1 : ∀ v ∈ cs, v.oneCell' = true) :
    (Builtin.copy_ #[23, 23] ty #[.slice (some ⟨g, o, none⟩) dLen dCap, .slice (some a) sLen sCap]).run Tryd.prog w =
      .ok (goInt (Nat.min sLen dLen)) (w.setRow g (cur.toList.take o ++ cs ++ cur.toList.drop (o + cs.length)).toArray) := by
  have hl := run_loadCells_list (P := Tryd.prog) w a cs hsrc
  have hst := run_storeCells_at Tryd.prog g o t cs 0 cur w hg (by simpa using hfit) h1
  obtain ⟨i, hi, hz, hsz, hby⟩ := info_parts3 info_tout
  simp [Builtin.copy_, run_underlying Tryd.underlying23, Builtin.lenOf, Builtin.firstCells, sizeOf, typeInfo, hi, hsz, ← hn, hl, hst]
theorem fill_copyO {w : World} {g n k m c1 c2 q : Nat} {a : Addr} {ty : TypeId} (hq : q = Nat.min m (n - k)) (hsrc : ∀ j, j < q * 2 → w.cell? (a.add j) = some (mV j)) (hk : k ≤ n) (h : FillO w g n k) :
    ∃ w', (Builtin.copy_ #[23, 23] ty #[.slice (some ⟨g, k * 2, none⟩) (n - k) c1, .slice (some a) m c2]).run Tryd.prog w = .ok (goInt q) w' ∧ FillO w' g n (k + q) ∧ Turns (fun b => b = g) w w' := by
  obtain ⟨cur, hc, hs, hf⟩ := h
  have hql : q ≤ n - k := by rw [hq]; exact Nat.min_le_right _ _
  have hr := run_copy_two (w := w) ty g (k * 2) (n - k) c1 a m c2 cur 54 (mRow q) hc (by rw [mRow_length, hq]) (fun j v hv => by
    have hj : j < q * 2 := by have := (List.getElem?_eq_some_iff.1 hv).1; rwa [mRow_length] at this
    rw [mRow_at hj] at hv
    rw [← Option.some.inj hv]
    exact hsrc j hj) (by rw [mRow_length, hs]; omega) (fun v hv => by
    unfold mRow at hv
    obtain ⟨j, _, rfl⟩ := List.mem_map.1 hv
    exact mV_one j)
  rw [mRow_length, ← hq] at hr
  refine ⟨_, hr, ⟨_, setRow_heap w g cur _ _ _ hc, ?_, fun i hi => ?_⟩, ?_⟩
  · simp [mRow_length, hs]
    omega
  · have e : (cur.toList.take (k * 2)).length = k * 2 := by rw [List.length_take, Array.length_toList]; omega
    rw [List.getElem?_toArray, List.append_assoc]
    by_cases h1 : i < k * 2
    · rw [List.getElem?_append_left (by omega), List.getElem?_take, if_pos h1, Array.getElem?_toList]
      exact hf i h1
    · rw [List.getElem?_append_right (by omega), e, List.getElem?_append_left (by rw [mRow_length]; omega), mRow_at (by omega)]
      rw [mV_sub (by omega)]
  · refine ⟨rfl, rfl, rfl, by simp [World.setRow], fun b hb hne => ?_⟩
    simp only [World.setRow, Array.getElem?_modify]
    rw [if_neg (fun e => hne e.symm)]

theorem op_copy_fillO {w : World} {o : Oper} {a : Act} {K : Act → World → Prop} {Q : Exit → Act → World → Prop} (s x : Operand)
    (ho : o.op = .call { callee := .builtin .copy, args := #[s, x], argTypes := #[23, 23] })
    {g n k m c1 c2 q : Nat} {ad : Addr} (hd : a.eval s = .slice (some ⟨g, k * 2, none⟩) (n - k) c1) (hx : a.eval x = .slice (some ad) m c2) (hn : q = Nat.min m (n - k)) (hsrc : ∀ j, j < q * 2 → w.cell? (ad.add j) = some (mV j)) (hk : k ≤ n) (h : FillO w g n k)
    (hK : ∀ w', FillO w' g n (k + q) → Turns (fun b => b = g) w w' → K (a.put o.dst (.int .i64 q)) w') : o.wp Tryd.prog a w K Q := by
  obtain ⟨w', hrun, h1, h2⟩ := fill_copyO (ty := o.type) (c1 := c1) (c2 := c2) hn hsrc hk h
  unfold Oper.wp execOp
  simp only [ho, resolve, invoke, builtin, Sem.run_bind, Sem.run_pure, Result.andThen_ok, List.map_toArray, List.map_cons, List.map_nil, hd, hx, hrun]
  exact hK _ h1 h2
theorem wpList_copy_fillO {w : World} {ops : Array Oper} {rest : List Oper} {o : Oper} {a : Act} {Q : Exit → Act → World → Prop} (hgd : o.guard = none) (s x : Operand)
    (ho : o.op = .call { callee := .builtin .copy, args := #[s, x], argTypes := #[23, 23] })
    {g n k m c1 c2 q : Nat} {ad : Addr} (hd : a.eval s = .slice (some ⟨g, k * 2, none⟩) (n - k) c1) (hx : a.eval x = .slice (some ad) m c2) (hn : q = Nat.min m (n - k)) (hsrc : ∀ j, j < q * 2 → w.cell? (ad.add j) = some (mV j)) (hk : k ≤ n) (h : FillO w g n k)
    (hK : ∀ w', FillO w' g n (k + q) → Turns (fun b => b = g) w w' → wpList Tryd.prog ops Q rest (a.put o.dst (.int .i64 q)) w') : wpList Tryd.prog ops Q (o :: rest) a w :=
  wpList_plain hgd fun _ hk' => op_copy_fillO s x ho hd hx hn hsrc hk h fun w' h1 h2 => hk' _ _ (hK w' h1 h2)
theorem make_touts (W : World) (n : Nat) (hn : n ≤ 1000) :
    ∃ cs : Array Value, cs.size = n * 2 ∧ (Instr.makeSlice 23 (.int .i64 (n : Int)) (.int .i64 (n : Int))).run Tryd.prog W = .ok (.slice (some ⟨W.heap.size, 0, none⟩) n n) (W.alloc (.cells cs 54)) := by
  obtain ⟨i, hi, hz, hsz, hby⟩ := info_parts3 info_tout
  refine ⟨madeCells (Value.agg #[.int .i64 0, .slice none 0 0]).cells (n * 2), size_madeCells _ _, ?_⟩
  rw [run_make (P := Tryd.prog) W 23 54 i _ Tryd.underlying23 hi hz .i64 .i64 n n (by omega) (by omega) (by rw [hby]; omega) (by omega), hsz]
  simp only [Int.toNat_natCast]

set_option maxRecDepth 100000 in
set_option maxHeartbeats 6400000 in
theorem repeat_any (n g : Nat) (w : World) (hn : n ≤ 10) (hg : g < w.heap.size) (hc : w.rangeAt g 0 [.int .i64 (-1), .slice none 0 0]) :
    Calls Tryd.prog 52 #[.slice (some ⟨g, 0, none⟩) 1 1, .int .i64 (n : Int)] w fun e w' => e = .returned (.slice (some ⟨w.heap.size, 0, none⟩) n n) ∧ OutsO w' w.heap.size (.slice (some ⟨w.heap.size, 0, none⟩) n n) (List.replicate n mOut) ∧ Below w.heap.size w w' := by
  obtain ⟨cs, hcs, hmk⟩ := make_touts w n (by omega)
  have F0 : FillO (w.alloc (.cells cs 54)) w.heap.size n 0 := ⟨cs, heap_alloc_new w _, hcs, fun i hi => absurd hi (by omega)⟩
  have B0 : Below w.heap.size w (w.alloc (.cells cs 54)) := (Below.refl _ w).alloc (by simp) _
  have h0 : (n : Int) ≤ 10 := by omega
  have hdn : decide ((n : Int) < 0) = false := decide_eq_false (by omega)
  have hdl : decide ((9223372036854775807 : Int) < (n : Int)) = false := decide_eq_false (by omega)
  have hwn : IntKind.i64.wrap (n : Int) = n := by rw [IntKind.wrap_i64]; omega
  have hwu : IntKind.u64.wrap (n : Int) = n := by rw [IntKind.wrap_u64]; omega
  have C0 : ∀ j, j < 2 → (w.alloc (.cells cs 54)).cell? ((⟨g, 0, none⟩ : Addr).add j) = some (mV j) := fun j hj => by
    have hadd : (⟨g, 0, none⟩ : Addr).add j = ⟨g, 0 + j, none⟩ := by unfold Addr.add; split <;> simp_all
    rw [hadd]
    refine (B0.cell (p := ⟨g, _, none⟩) hg).trans (hc j (mV j) ?_)
    match j, hj with
    | 0, _ => rfl
    | 1, _ => rfl
  obtain ⟨W, hW⟩ : ∃ W, W = w.alloc (.cells cs 54) := ⟨_, rfl⟩
  obtain ⟨G, hG⟩ : ∃ G, G = w.heap.size := ⟨_, rfl⟩
  rw [← hW] at F0 B0 C0 hmk
  rw [← hG] at F0 hmk
  have HF := Lib.hid F0
  have HB := Lib.hid B0
  have HC := Lib.hid C0
  have HG := Lib.hid hG
  have HN := Lib.hid hn
  rw [← hG]
  clear F0 B0 C0 hW hG hg hc hcs
  go_enter Tryd.func52, Tryd.ntmps52
  go_upto_region 7 with (go_at_call 67; refine (mul_tout n _ HN.out).mono ?_; rintro e w' ⟨rfl, rfl⟩)
  obtain ⟨k2, hk2⟩ : ∃ k, k = Nat.min 1 n := ⟨_, rfl⟩
  have hk3 : k2 ≤ n := by rw [hk2]; exact Nat.min_le_right _ _
  have hk5 : k2 ≤ 1 := by rw [hk2]; exact Nat.min_le_left _ _
  have hk4 : 0 < n → 1 ≤ k2 := fun h => by rw [hk2]; exact Nat.le_min.2 ⟨Nat.le_refl _, h⟩
  have HK2 := Lib.hid hk2
  have HK4 := Lib.hid hk4
  clear hk2 hk4
  go_upto_block 0 with (refine wpList_copy_fillO rfl (.tmp 31) (.tmp 32) rfl (g := G) (n := n) (k := 0) (m := 1) (c1 := n) (c2 := 1) (q := k2) (ad := ⟨g, 0, none⟩) rfl rfl HK2.out (fun j hj => HC.out j (by omega)) (Nat.zero_le _) HF.out ?_; intro w2 hf2 ht2)
  have hb2 : Below w.heap.size w w2 := HB.out.trans (ht2.below_of (B := w.heap.size) HB.out.size (fun i hi e => by have := HG.out; omega))
  rw [Nat.zero_add] at hf2
  have HF2 := Lib.hid hf2
  have HB2 := Lib.hid hb2
  clear hf2 hb2 ht2 hmk HF HC
  refine wp_block ?_
  go_loopw [8] (fun bv wr => ∃ k : Nat, k ≤ n ∧ bv = .int .i64 k ∧ Hid (0 < n → 1 ≤ k) ∧ Hid (FillO wr G n k) ∧ Hid (Below w.heap.size w wr)) (fun bv _ => n - (intOf bv).toNat)
  case atStart => exact ⟨k2, hk3, rfl, HK4, HF2, HB2⟩
  case round =>
    obtain ⟨k, hkn, rfl, HK1, HFk, HBk⟩ := hrel
    by_cases hlt : k < n
    · have hd1 : decide ((k : Int) < (n : Int)) = true := decide_eq_true (by omega)
      have h1 : 1 ≤ k := HK1.out (by omega)
      go_upto_region 9 with fail
      have e0 : n - k ≠ 0 := by omega
      have ek : (n : Nat) ≠ k := by omega
      have k0 : (0 : Int) ≤ (k : Int) := by omega
      have k1 : (k : Int) ≤ (n : Int) := by omega
      have ks : Nat.min k (n - k) ≤ n - k := Nat.min_le_right _ _
      have ks2 : 1 ≤ Nat.min k (n - k) := Nat.le_min.2 ⟨h1, by omega⟩
      obtain ⟨q, hq⟩ : ∃ q, q = Nat.min k (n - k) := ⟨_, rfl⟩
      have HQ := Lib.hid hq
      rw [← hq] at ks ks2
      clear hq
      have HSR : Hid (∀ j, j < q * 2 → wr.drew.cell? (Addr.add ⟨G, 0, none⟩ j) = some (mV j)) := Lib.hid (fun j hj => by
        have hadd : (⟨G, 0, none⟩ : Addr).add j = ⟨G, 0 + j, none⟩ := by unfold Addr.add; split <;> simp_all
        rw [hadd, Nat.zero_add]
        exact HFk.out.cell (by have h : q ≤ k := Nat.le_trans (Nat.le_of_eq HQ.out) (Nat.min_le_left k (n - k)); omega))
      have w1 : IntKind.i64.wrap ((k : Int) + q) = (k : Int) + q := by rw [IntKind.wrap_i64]; omega
      refine wp_region_held_drew (S := AnyW) (by kernel_rfl) ?_ (fun hHeld => ?_)
      · exact anyW _
      refine wpAnyH_take (i := 0) (oi := { dst := some 38, op := Go.Op.move (Go.Operand.tmp 8), type := 3, pos := "slices.go:528", after := #[], guard := none }) (v := ?av0) rfl (by kernel_rfl) (by kernel_rfl) (by kernel_rfl) (fun _ _ _ h => h) (Or.inl ⟨by rfl, ?ay0⟩) (by assumption) ?ar0
      case ay0 => (intro w hSw; (try dsimp only at hSw); go_simp; try (with_reducible rfl))
      case ar0 =>
      try simp only [Act.put, List.setIfInBounds_toArray, List.set_cons_zero, List.set_cons_succ]
      refine wpAnyH_take (i := 1) (oi := { dst := some 39, op := Go.Op.move (Go.Operand.tmp 7), type := 23, pos := "slices.go:528", after := #[], guard := none }) (v := ?av1) rfl (by kernel_rfl) (by kernel_rfl) (by kernel_rfl) (fun _ _ _ h => h) (Or.inl ⟨by rfl, ?ay1⟩) (by assumption) ?ar1
      case ay1 => (intro w hSw; (try dsimp only at hSw); go_simp; try (with_reducible rfl))
      case ar1 =>
      try simp only [Act.put, List.setIfInBounds_toArray, List.set_cons_zero, List.set_cons_succ]
      refine wpAnyH_take (i := 2) (oi := { dst := some 40, op := Go.Op.move (Go.Operand.tmp 8), type := 3, pos := "slices.go:528", after := #[], guard := none }) (v := ?av2) rfl (by kernel_rfl) (by kernel_rfl) (by kernel_rfl) (fun _ _ _ h => h) (Or.inl ⟨by rfl, ?ay2⟩) (by assumption) ?ar2
      case ay2 => (intro w hSw; (try dsimp only at hSw); go_simp; try (with_reducible rfl))
      case ar2 =>
      try simp only [Act.put, List.setIfInBounds_toArray, List.set_cons_zero, List.set_cons_succ]
      refine wpAnyH_take (i := 3) (oi := { dst := some 41, op := Go.Op.slice 23 (Go.Operand.tmp 39) (some (Go.Operand.tmp 40)) none none, type := 23, pos := "slices.go:528", after := #[{ on := 1, ground := Go.Ground.data }, { on := 2, ground := Go.Ground.data }], guard := none }) (v := (.slice (some ⟨G, k * 2, none⟩) (n - k) (n - k))) rfl (by kernel_rfl) (by kernel_rfl) (by kernel_rfl) (fun _ _ _ h => h) (Or.inl ⟨by rfl, ?ay3⟩) (by assumption) ?ar3
      case ay3 => (intro w hSw; (try dsimp only at hSw); go_simp; try (with_reducible rfl))
      case ar3 =>
      try simp only [Act.put, List.setIfInBounds_toArray, List.set_cons_zero, List.set_cons_succ]
      refine wpAnyH_take (i := 4) (oi := { dst := some 42, op := Go.Op.move (Go.Operand.tmp 7), type := 23, pos := "slices.go:528", after := #[], guard := none }) (v := ?av4) rfl (by kernel_rfl) (by kernel_rfl) (by kernel_rfl) (fun _ _ _ h => h) (Or.inl ⟨by rfl, ?ay4⟩) (by assumption) ?ar4
      case ay4 => (intro w hSw; (try dsimp only at hSw); go_simp; try (with_reducible rfl))
      case ar4 =>
      try simp only [Act.put, List.setIfInBounds_toArray, List.set_cons_zero, List.set_cons_succ]
      refine wpAnyH_take (i := 5) (oi := { dst := some 43, op := Go.Op.move (Go.Operand.tmp 8), type := 3, pos := "slices.go:528", after := #[], guard := none }) (v := ?av5) rfl (by kernel_rfl) (by kernel_rfl) (by kernel_rfl) (fun _ _ _ h => h) (Or.inl ⟨by rfl, ?ay5⟩) (by assumption) ?ar5
      case ay5 => (intro w hSw; (try dsimp only at hSw); go_simp; try (with_reducible rfl))
      case ar5 =>
      try simp only [Act.put, List.setIfInBounds_toArray, List.set_cons_zero, List.set_cons_succ]
      refine wpAnyH_take (i := 6) (oi := { dst := some 44, op := Go.Op.slice 23 (Go.Operand.tmp 42) none (some (Go.Operand.tmp 43)) none, type := 23, pos := "slices.go:528", after := #[{ on := 4, ground := Go.Ground.data }, { on := 5, ground := Go.Ground.data }], guard := none }) (v := (.slice (some ⟨G, 0, none⟩) k n)) rfl (by kernel_rfl) (by kernel_rfl) (by kernel_rfl) (fun _ _ _ h => h) (Or.inl ⟨by rfl, ?ay6⟩) (by assumption) ?ar6
      case ay6 => (intro w hSw; (try dsimp only at hSw); go_simp; try (with_reducible rfl))
      case ar6 =>
      try simp only [Act.put, List.setIfInBounds_toArray, List.set_cons_zero, List.set_cons_succ]
      refine wpAnyH_ready (rs := [7]) (by kernel_rfl) (by simp) ?_
      refine AllReadyH.cons (o := { dst := some 45, op := Go.Op.call { callee := Go.Callee.builtin Go.Builtin.copy, args := #[Go.Operand.tmp 41, Go.Operand.tmp 44], argTypes := #[23, 23] }, type := 3, pos := "slices.go:528", after := #[{ on := 3, ground := Go.Ground.data }, { on := 6, ground := Go.Ground.data }], guard := none }) rfl (fun K hK => ?_) (AllReadyH.nil)
      simp only [Region.wanted, if_true]
      refine op_copy_fillO (.tmp 41) (.tmp 44) rfl (g := G) (n := n) (k := k) (m := k) (c1 := n - k) (c2 := n) (q := q) (ad := ⟨G, 0, none⟩) rfl rfl HQ.out HSR.out (by omega) HFk.out.drew ?_
      intro w3 hf3 ht3
      refine hK.out _ _ ?_ (fun hHeld => ?_)
      · exact anyW _
      clear hK K
      try simp only [Act.put, List.setIfInBounds_toArray, List.set_cons_zero, List.set_cons_succ]
      refine wpAnyH_take (i := 8) (oi := { dst := some 46, op := Go.Op.binOp Go.BinOp.add 3 (Go.Operand.tmp 38) (Go.Operand.tmp 45) 3, type := 3, pos := "slices.go:528", after := #[{ on := 0, ground := Go.Ground.data }, { on := 7, ground := Go.Ground.data }], guard := none }) (v := ?a_7v8) rfl (by kernel_rfl) (by kernel_rfl) (by kernel_rfl) (fun _ _ _ h => h) (Or.inl ⟨by rfl, ?a_7y8⟩) (by assumption) ?a_7r8
      case a_7y8 => (intro w hSw; (try dsimp only at hSw); go_simp; try (with_reducible rfl))
      case a_7r8 =>
      try simp only [Act.put, List.setIfInBounds_toArray, List.set_cons_zero, List.set_cons_succ]
      refine wpAnyH_take (i := 9) (oi := { dst := some 8, op := Go.Op.assign (Go.Operand.tmp 46), type := 3, pos := "slices.go:528", after := #[{ on := 8, ground := Go.Ground.data }, { on := 7, ground := Go.Ground.chain }, { on := 0, ground := Go.Ground.phase }, { on := 1, ground := Go.Ground.phase }, { on := 2, ground := Go.Ground.phase }, { on := 3, ground := Go.Ground.phase }, { on := 4, ground := Go.Ground.phase }, { on := 5, ground := Go.Ground.phase }, { on := 6, ground := Go.Ground.phase }, { on := 7, ground := Go.Ground.phase }, { on := 8, ground := Go.Ground.phase }], guard := none }) (v := ?a_7v9) rfl (by kernel_rfl) (by kernel_rfl) (by kernel_rfl) (fun _ _ _ h => h) (Or.inl ⟨by rfl, ?a_7y9⟩) (by assumption) ?a_7r9
      case a_7y9 => (intro w hSw; (try dsimp only at hSw); go_simp; try (with_reducible rfl))
      case a_7r9 =>
      try simp only [Act.put, List.setIfInBounds_toArray, List.set_cons_zero, List.set_cons_succ]
      refine wpAnyH_done (by kernel_rfl) ?_ _
      have hb3 : Below w.heap.size w w3 := (below_drewN HBk.out 1).trans (ht3.below_of (B := w.heap.size) HBk.out.size (fun i hi e => by have := HG.out; omega))
      have HF3 := Lib.hid hf3
      have HB3 := Lib.hid hb3
      clear hf3 ht3 hb3 hHeld
      go_wp2_with fail
      refine ⟨⟨k + q, by omega, by go_num, Lib.hid (fun _ => by omega), HF3, HB3⟩, by simp [intOf]; omega⟩
    · have hd1 : decide ((k : Int) < (n : Int)) = false := decide_eq_false (by omega)
      have hkn2 : k = n := by omega
      go_wp2_with fail
      go_ret
      subst hkn2
      refine ⟨rfl, ?_, by rw [HG.out]; exact HBk.out⟩
      obtain ⟨cur, hc, hs, hf⟩ := HFk.out
      refine ⟨by rw [mRow_flat, mRow_length, List.length_replicate], .inr ⟨G, k, cur, by rw [List.length_replicate], Nat.le_refl _, hc, by rw [List.length_replicate]; omega, by unfold maxLen; omega, hs, ?_⟩⟩
      rw [mRow_flat, List.length_replicate]
      apply List.ext_getElem?
      intro j
      by_cases hj : j < k * 2
      · rw [List.getElem?_take, if_pos hj, mRow_at hj, Array.getElem?_toList]
        exact hf j hj
      · rw [List.getElem?_eq_none (by rw [List.length_take]; omega), List.getElem?_eq_none (by rw [mRow_length]; omega)]
end Go.Proofs.YthelmclpmalofaaDoor

/-
  sighash.outputs at Single. Conditions: at most ten outputs ahead.
-/
namespace Go.Proofs.YthelmclpmalofaaDoor
open Go.RowKit

/-- The cells of a block, from its head. -/
structure Cl (w : World) (g : Nat) (cs : List Value) : Prop where
  lt : g < w.heap.size
  r : w.rangeAt g 0 cs
theorem Cl.below {w w' : World} {g : Nat} {cs : List Value} (h : Cl w g cs) (hb : Below w.heap.size w w') : Cl w' g cs :=
  ⟨Nat.lt_of_lt_of_le h.lt hb.size, fun j v hv => (hb.cell (p := ⟨g, _, none⟩) h.lt).trans (h.r j v hv)⟩
theorem Cl.new (w : World) (t : TypeId) (cs : List Value) : Cl (w.alloc (.cells cs.toArray t)) w.heap.size cs :=
  ⟨(VRow.new w t cs).lt, (VRow.new w t cs).range (fun j v hv => by rw [Nat.zero_add]; exact hv)⟩
theorem build_m1 (W : World) : (Instr.build 54 #[(0, .int .i64 (-1))]).run Tryd.prog W = .ok (.agg [Value.int .i64 (-1), Value.slice none 0 0].toArray) W := by kernel_rfl
set_option maxRecDepth 100000 in
set_option maxHeartbeats 6400000 in
theorem outputs3_any (B : Nat) (ov : Value) (Y : List OutV) (k : Int) (n : Nat) (y : OutV) (w : World) (hY : OutsR w B ov Y) (hB : B ≤ w.heap.size) (hy : Y[n]? = some y) (hn : n ≤ 10) (h0 : 0 ≤ k) (h1 : k < 256) (h3 : chosenF k = 3) :
    Calls Tryd.prog 28 #[ov, .int .i64 (n : Int), .int .u8 k] w fun e w' => ∃ v Y', e = .returned v ∧ (∀ W, Turns (fun q => B ≤ q ∧ q < w.heap.size) w' W → OutsR W W.heap.size v Y') ∧ Y'.map (·.p) = legOuts (Y.map (·.p)) n k ∧ Below w.heap.size w w' := by
  have hca := chosen_any k w h0 h1
  rw [h3] at hca
  obtain ⟨b, o, c, hf, hnc, hcm, hlt, hr, hi⟩ := hY.at hy
  subst hf
  have hl := (List.getElem?_eq_some_iff.1 hy).1
  have hiy := hY.each y (List.mem_of_getElem? hy)
  obtain ⟨C, hC⟩ : ∃ C, C = outC y := ⟨_, rfl⟩
  have hC1 : ∀ u ∈ C, u.oneCell' = true := by rw [hC]; exact hiy.one
  rw [← hC] at hr
  have HCL := Lib.hid (show C.length = 2 by rw [hC]; rfl)
  have HC1 := Lib.hid hC1
  have HCS := Lib.hid (show (Tryd.prog.info? 54).map (·.size) = some C.length by rw [HCL.out]; exact size_tout)
  obtain ⟨MM, hMM⟩ : ∃ M, M = [Value.int .i64 (-1), Value.slice none 0 0] := ⟨_, rfl⟩
  have HML := Lib.hid (show MM.length = 2 by rw [hMM]; rfl)
  have hbm := build_m1
  rw [← hMM] at hbm
  have HBM := Lib.hid hbm
  have hrep := fun (g : Nat) (W : World) (q1 : g < W.heap.size) (q2 : W.rangeAt g 0 MM) => repeat_any n g W hn q1 (by rw [← hMM]; exact q2)
  have HEND := Lib.hid (show ∀ (w9 : World) (v : Value), Below w.heap.size w w9 → w9.ownsRow w.heap.size 54 2 v (n + 1) ((List.replicate n mOut).flatMap outC ++ C) → ∃ v' Y', Ending.returned v = .returned v' ∧ (∀ W, Turns (fun q => B ≤ q ∧ q < w.heap.size) w9 W → OutsR W W.heap.size v' Y') ∧ Y'.map (·.p) = legOuts (Y.map (·.p)) n k ∧ Below w.heap.size w w9 from fun w9 v hb9 ho9 => by
    refine ⟨v, List.replicate n mOut ++ [y], rfl, fun W hW => ?_, ?_, hb9⟩
    · have h9 : OutsO w9 w.heap.size v (List.replicate n mOut ++ [y]) := by
        unfold OutsO
        rw [List.length_append, List.length_replicate, List.flatMap_append, List.flatMap_cons, List.flatMap_nil, List.append_nil, ← hC]
        exact ho9
      have hI2 : OutsO W w.heap.size v (List.replicate n mOut ++ [y]) := own_turns h9 hW (fun q hq q2 => by have := (h9.lt q hq).1; have := q2.2; omega)
      have b3 : Below B w9 W := hW.below_of (Nat.le_trans hB hb9.size) (fun q hq q2 => by have := q2.1; omega)
      refine OutsO.toR (B := B) hI2 (fun z hz => ?_) (Nat.le_trans hB (Nat.le_trans hb9.size hW.size))
      rcases List.mem_append.1 hz with hz | hz
      · obtain rfl := (List.mem_replicate.1 hz).2
        exact ⟨⟨by show (-9223372036854775808 : Int) ≤ -1; decide, by show (-1 : Int) ≤ 9223372036854775807; decide⟩, Byt.nil W B⟩
      · obtain rfl : z = y := by simpa using hz
        exact (hiy.below (hb9.mono hB)).below b3
    · unfold legOuts
      rw [h3, if_neg (by decide), if_pos rfl, List.map_append, List.map_replicate, List.getElem?_map, hy]
      rfl)
  have HSB := Lib.hid (show ∀ W', Below w.heap.size w W' → W'.rangeAt b (o + n * 2) C from fun W' h j v hv => (h.cell (p := ⟨b, _, none⟩) (Nat.lt_of_lt_of_le hlt hB)).trans (hr j v hv))
  have HS0 := Lib.hid (HSB.out _ (Below.refl _ w).drew)
  have HON := Lib.hid (show ∀ (W : World) (v : Value), OutsO W w.heap.size v (List.replicate n mOut) → W.ownsRow w.heap.size 54 2 v n ((List.replicate n mOut).flatMap outC) from fun W v h => by unfold OutsO at h; rw [List.length_replicate] at h; exact h)
  have HBD := Lib.hid (show (n + 1) * 32 ≤ 140737488355328 by omega)
  have BX := Lib.hid (show Below w.heap.size w w.drew from (Below.refl _ w).drew)
  obtain ⟨nY, hnY⟩ : ∃ z, z = Y.length := ⟨_, rfl⟩
  rw [← hnY] at hl hnc
  rw [← hnY]
  have hiX : (n : Int) < (nY : Int) := by omega
  have hnn : ¬ ((n : Int) < 0) := by omega
  have hrp := Lib.hid hrep
  have hcm' : nY ≤ c := hnc
  clear hY hi hiy hC hC1 hMM hbm hr hy h3 hrep hlt hnY
  go_enter Tryd.func28, Tryd.ntmps28
  go_wp2_with fail
  refine hca.mono ?_
  rintro e w2 ⟨rfl, rfl⟩
  clear hca
  go_upto_region 5 with go_big_skip
  refine wp_region_held_drew (S := (fun w' => w'.rangeAt b (o + n * 2) C)) (by kernel_rfl) ?_ (fun hHeld => ?_)
  · exact HS0.out
  refine wpAnyH_take (i := 0) (oi := { dst := some 13, op := Go.Op.build 54 #[(0, Go.Operand.const (Go.Value.int Go.IntKind.i64 (-1)))], type := 54, pos := "legacy.go:52", after := #[], guard := none }) (v := (.agg MM.toArray)) rfl (by kernel_rfl) (by kernel_rfl) (by kernel_rfl) (fun _ _ _ h => h) (yieldsIf_build (by rfl) 54 _ rfl (.agg MM.toArray) (fun W => by (simp only [List.map_toArray, List.map_cons, List.map_nil]; exact HBM.out W))) (by assumption) ?_
  try simp only [Act.put, List.setIfInBounds_toArray, List.set_cons_zero, List.set_cons_succ]
  refine wpAnyH_take (i := 2) (oi := { dst := some 15, op := Go.Op.move (Go.Operand.tmp 1), type := 3, pos := "legacy.go:52", after := #[], guard := none }) (v := ?av2) rfl (by kernel_rfl) (by kernel_rfl) (by kernel_rfl) (fun _ _ _ h => h) (Or.inl ⟨by rfl, ?ay2⟩) (by assumption) ?ar2
  case ay2 => (intro w hSw; (try dsimp only at hSw); go_simp; try (with_reducible rfl))
  case ar2 =>
  try simp only [Act.put, List.setIfInBounds_toArray, List.set_cons_zero, List.set_cons_succ]
  refine wpAnyH_take (i := 4) (oi := { dst := some 17, op := Go.Op.move (Go.Operand.tmp 0), type := 23, pos := "legacy.go:52", after := #[], guard := none }) (v := ?av4) rfl (by kernel_rfl) (by kernel_rfl) (by kernel_rfl) (fun _ _ _ h => h) (Or.inl ⟨by rfl, ?ay4⟩) (by assumption) ?ar4
  case ay4 => (intro w hSw; (try dsimp only at hSw); go_simp; try (with_reducible rfl))
  case ar4 =>
  try simp only [Act.put, List.setIfInBounds_toArray, List.set_cons_zero, List.set_cons_succ]
  refine wpAnyH_take (i := 5) (oi := { dst := some 18, op := Go.Op.move (Go.Operand.tmp 1), type := 3, pos := "legacy.go:52", after := #[], guard := none }) (v := ?av5) rfl (by kernel_rfl) (by kernel_rfl) (by kernel_rfl) (fun _ _ _ h => h) (Or.inl ⟨by rfl, ?ay5⟩) (by assumption) ?ar5
  case ay5 => (intro w hSw; (try dsimp only at hSw); go_simp; try (with_reducible rfl))
  case ar5 =>
  try simp only [Act.put, List.setIfInBounds_toArray, List.set_cons_zero, List.set_cons_succ]
  refine wpAnyH_take (i := 6) (oi := { dst := some 19, op := Go.Op.indexAddr 23 (Go.Operand.tmp 17) (Go.Operand.tmp 18), type := 0, pos := "legacy.go:52", after := #[{ on := 4, ground := Go.Ground.data }, { on := 5, ground := Go.Ground.data }], guard := none }) (v := (.pointer (some ⟨b, o + n * 2, none⟩))) rfl (by kernel_rfl) (by kernel_rfl) (by kernel_rfl) (fun _ _ _ h => h) (Or.inl ⟨by rfl, ?ay6⟩) (by assumption) ?ar6
  case ay6 => (intro w hSw; (try dsimp only at hSw); go_simp; try (with_reducible rfl))
  case ar6 =>
  try simp only [Act.put, List.setIfInBounds_toArray, List.set_cons_zero, List.set_cons_succ]
  refine wpAnyH_take (i := 7) (oi := { dst := some 20, op := Go.Op.load 54 (Go.Operand.tmp 19), type := 54, pos := "legacy.go:52", after := #[{ on := 6, ground := Go.Ground.data }], guard := none }) (v := (.agg C.toArray)) rfl (by kernel_rfl) (by kernel_rfl) (by kernel_rfl) (fun _ _ _ h => h) (yieldsIf_load_mid (by rfl) 54 (.tmp 19) rfl b (o + n * 2) rfl C _ (fun w' h => h) Tryd.underlying54 rfl HCS.out) (by assumption) ?_
  try simp only [Act.put, List.setIfInBounds_toArray, List.set_cons_zero, List.set_cons_succ]
  refine wpAnyH_ready (rs := [1, 8]) (by kernel_rfl) (by simp) ?_
  refine AllReadyH.cons (o := { dst := some 14, op := Go.Op.buildSlice 23 1 #[(0, Go.Operand.tmp 13)], type := 23, pos := "legacy.go:52", after := #[{ on := 0, ground := Go.Ground.data }], guard := none }) rfl (fun K hK => ?_) (AllReadyH.cons (o := { dst := some 21, op := Go.Op.buildSlice 23 1 #[(0, Go.Operand.tmp 20)], type := 23, pos := "legacy.go:52", after := #[{ on := 7, ground := Go.Ground.data }], guard := none }) rfl (fun K hK => ?_) (AllReadyH.nil))
  · as_aux_lemma =>
    refine op_one_tout (.tmp 13) rfl MM rfl HML.out ?_
    have hb : Below w.drew.heap.size w.drew (w.drew.alloc (.cells MM.toArray 54)) := (Below.refl _ w.drew).alloc (Nat.le_refl _) _
    have N1 := Lib.hid (Cl.new w.drew 54 MM)
    have BX := Lib.hid (BX.out.trans (hb.mono BX.out.size))
    obtain ⟨x1, hx1⟩ : ∃ z, z = w.drew.alloc (.cells MM.toArray 54) := ⟨_, rfl⟩
    obtain ⟨G1, hG1⟩ : ∃ z, z = w.drew.heap.size := ⟨_, rfl⟩
    rw [← hx1] at BX N1  ⊢
    rw [← hG1] at N1 ⊢
    clear hb hx1 hG1
    refine hK.out _ _ ?_ (fun hHeld => ?_)
    · exact HSB.out _ BX.out
    clear hK K
    try simp only [Act.put, List.setIfInBounds_toArray, List.set_cons_zero, List.set_cons_succ]
    refine wpAnyH_ready (rs := [3, 8]) (by kernel_rfl) (by simp) ?_
    refine AllReadyH.cons (o := { dst := some 16, op := Go.Op.call { callee := Go.Callee.value (Go.Operand.func 52), args := #[Go.Operand.tmp 14, Go.Operand.tmp 15], argTypes := #[23, 3] }, type := 23, pos := "legacy.go:52", after := #[{ on := 1, ground := Go.Ground.data }, { on := 2, ground := Go.Ground.data }], guard := none }) rfl (fun K hK => ?_) (AllReadyH.cons (o := { dst := some 21, op := Go.Op.buildSlice 23 1 #[(0, Go.Operand.tmp 20)], type := 23, pos := "legacy.go:52", after := #[{ on := 7, ground := Go.Ground.data }], guard := none }) rfl (fun K hK => ?_) (AllReadyH.nil))
    · as_aux_lemma =>
      go_simp
      refine (hrp.out G1 x1 N1.out.lt N1.out.r).mono ?_
      rintro e x2 ⟨rfl, ho, hb⟩
      have OO := Lib.hid (show OutsO x2 w.heap.size _ (List.replicate n mOut) from own_le ho BX.out.size)
      have N1 := Lib.hid (N1.out.below hb)
      have BX := Lib.hid (BX.out.trans (hb.mono BX.out.size))
      obtain ⟨GR, hGR⟩ : ∃ z, z = x1.heap.size := ⟨_, rfl⟩
      rw [← hGR] at OO ⊢
      clear ho hb hGR
      refine hK.out _ _ ?_ (fun hHeld => ?_)
      · exact HSB.out _ BX.out
      clear hK K
      try simp only [Act.put, List.setIfInBounds_toArray, List.set_cons_zero, List.set_cons_succ]
      refine wpAnyH_ready (rs := [8]) (by kernel_rfl) (by simp) ?_
      refine AllReadyH.cons (o := { dst := some 21, op := Go.Op.buildSlice 23 1 #[(0, Go.Operand.tmp 20)], type := 23, pos := "legacy.go:52", after := #[{ on := 7, ground := Go.Ground.data }], guard := none }) rfl (fun K hK => ?_) (AllReadyH.nil)
      refine op_one_tout (.tmp 20) rfl C rfl HCL.out ?_
      have hb : Below x2.heap.size x2 (x2.alloc (.cells C.toArray 54)) := (Below.refl _ x2).alloc (Nat.le_refl _) _
      have N8 := Lib.hid (Cl.new x2 54 C)
      have N1 := Lib.hid (N1.out.below hb)
      have OO := Lib.hid (OutsO.below OO.out hb)
      have BX := Lib.hid (BX.out.trans (hb.mono BX.out.size))
      obtain ⟨x3, hx3⟩ : ∃ z, z = x2.alloc (.cells C.toArray 54) := ⟨_, rfl⟩
      obtain ⟨G8, hG8⟩ : ∃ z, z = x2.heap.size := ⟨_, rfl⟩
      rw [← hx3] at BX N8 N1 OO ⊢
      rw [← hG8] at N8 ⊢
      clear hb hx3 hG8
      refine hK.out _ _ ?_ (fun hHeld => ?_)
      · exact HSB.out _ BX.out
      clear hK K
      try simp only [Act.put, List.setIfInBounds_toArray, List.set_cons_zero, List.set_cons_succ]
      refine wpAnyH_ready (rs := [9]) (by kernel_rfl) (by simp) ?_
      refine AllReadyH.cons (o := { dst := some 22, op := Go.Op.call { callee := Go.Callee.builtin Go.Builtin.append, args := #[Go.Operand.tmp 16, Go.Operand.tmp 21], argTypes := #[23, 23] }, type := 23, pos := "legacy.go:52", after := #[{ on := 3, ground := Go.Ground.data }, { on := 8, ground := Go.Ground.data }, { on := 3, ground := Go.Ground.chain }], guard := none }) rfl (fun K hK => ?_) (AllReadyH.nil)
      refine op_append_tout (.tmp 16) (.tmp 21) rfl w.heap.size _ n _ rfl (HON.out _ _ OO.out) G8 1 C rfl HCL.out N8.out.r HC1.out HBD.out BX.out.size ?_
      intro v1 w9 hown1 hg1 ho1
      obtain ⟨A1, c1, rfl⟩ := own_form hown1
      have hg9 := (Turns.refl (fun q => Value.ownBlock _ = some q) _).grown hg1 (fun q hq _ => hq)
      have BX := Lib.hid (BX.out.grown hg1 BX.out.size (fun q hq => (OO.out.lt q hq).1))
      refine hK.out _ _ ?_ (fun hHeld => ?_)
      · exact HSB.out _ BX.out
      clear hK K
      try simp only [Act.put, List.setIfInBounds_toArray, List.set_cons_zero, List.set_cons_succ]
      refine wpAnyH_take (i := 10) (oi := { dst := some 6, op := Go.Op.assign (Go.Operand.tmp 22), type := 23, pos := "legacy.go:52", after := #[{ on := 9, ground := Go.Ground.data }, { on := 9, ground := Go.Ground.chain }, { on := 0, ground := Go.Ground.phase }, { on := 1, ground := Go.Ground.phase }, { on := 2, ground := Go.Ground.phase }, { on := 3, ground := Go.Ground.phase }, { on := 4, ground := Go.Ground.phase }, { on := 5, ground := Go.Ground.phase }, { on := 6, ground := Go.Ground.phase }, { on := 7, ground := Go.Ground.phase }, { on := 8, ground := Go.Ground.phase }, { on := 9, ground := Go.Ground.phase }], guard := none }) (v := ?a_1_3_8_9v10) rfl (by kernel_rfl) (by kernel_rfl) (by kernel_rfl) (fun _ _ _ h => h) (Or.inl ⟨by rfl, ?a_1_3_8_9y10⟩) (by assumption) ?a_1_3_8_9r10
      case a_1_3_8_9y10 => (intro w hSw; (try dsimp only at hSw); go_simp; try (with_reducible rfl))
      case a_1_3_8_9r10 =>
      try simp only [Act.put, List.setIfInBounds_toArray, List.set_cons_zero, List.set_cons_succ]
      refine wpAnyH_done (by kernel_rfl) ?_ _
      go_wp2_with fail
      refine bodyPost_ret (results_tmp rfl _ _ _) rfl ?_
      exact HEND.out _ _ BX.out hown1
    · as_aux_lemma =>
      refine op_one_tout (.tmp 20) rfl C rfl HCL.out ?_
      have hb : Below x1.heap.size x1 (x1.alloc (.cells C.toArray 54)) := (Below.refl _ x1).alloc (Nat.le_refl _) _
      have N8 := Lib.hid (Cl.new x1 54 C)
      have N1 := Lib.hid (N1.out.below hb)
      have BX := Lib.hid (BX.out.trans (hb.mono BX.out.size))
      obtain ⟨x4, hx4⟩ : ∃ z, z = x1.alloc (.cells C.toArray 54) := ⟨_, rfl⟩
      obtain ⟨G8, hG8⟩ : ∃ z, z = x1.heap.size := ⟨_, rfl⟩
      rw [← hx4] at BX N8 N1 ⊢
      rw [← hG8] at N8 ⊢
      clear hb hx4 hG8
      refine hK.out _ _ ?_ (fun hHeld => ?_)
      · exact HSB.out _ BX.out
      clear hK K
      try simp only [Act.put, List.setIfInBounds_toArray, List.set_cons_zero, List.set_cons_succ]
      refine wpAnyH_ready (rs := [3]) (by kernel_rfl) (by simp) ?_
      refine AllReadyH.cons (o := { dst := some 16, op := Go.Op.call { callee := Go.Callee.value (Go.Operand.func 52), args := #[Go.Operand.tmp 14, Go.Operand.tmp 15], argTypes := #[23, 3] }, type := 23, pos := "legacy.go:52", after := #[{ on := 1, ground := Go.Ground.data }, { on := 2, ground := Go.Ground.data }], guard := none }) rfl (fun K hK => ?_) (AllReadyH.nil)
      go_simp
      refine (hrp.out G1 x4 N1.out.lt N1.out.r).mono ?_
      rintro e x5 ⟨rfl, ho, hb⟩
      have OO := Lib.hid (show OutsO x5 w.heap.size _ (List.replicate n mOut) from own_le ho BX.out.size)
      have N1 := Lib.hid (N1.out.below hb)
      have N8 := Lib.hid (N8.out.below hb)
      have BX := Lib.hid (BX.out.trans (hb.mono BX.out.size))
      obtain ⟨GR, hGR⟩ : ∃ z, z = x4.heap.size := ⟨_, rfl⟩
      rw [← hGR] at OO ⊢
      clear ho hb hGR
      refine hK.out _ _ ?_ (fun hHeld => ?_)
      · exact HSB.out _ BX.out
      clear hK K
      try simp only [Act.put, List.setIfInBounds_toArray, List.set_cons_zero, List.set_cons_succ]
      refine wpAnyH_ready (rs := [9]) (by kernel_rfl) (by simp) ?_
      refine AllReadyH.cons (o := { dst := some 22, op := Go.Op.call { callee := Go.Callee.builtin Go.Builtin.append, args := #[Go.Operand.tmp 16, Go.Operand.tmp 21], argTypes := #[23, 23] }, type := 23, pos := "legacy.go:52", after := #[{ on := 3, ground := Go.Ground.data }, { on := 8, ground := Go.Ground.data }, { on := 3, ground := Go.Ground.chain }], guard := none }) rfl (fun K hK => ?_) (AllReadyH.nil)
      refine op_append_tout (.tmp 16) (.tmp 21) rfl w.heap.size _ n _ rfl (HON.out _ _ OO.out) G8 1 C rfl HCL.out N8.out.r HC1.out HBD.out BX.out.size ?_
      intro v1 w9 hown1 hg1 ho1
      obtain ⟨A1, c1, rfl⟩ := own_form hown1
      have hg9 := (Turns.refl (fun q => Value.ownBlock _ = some q) _).grown hg1 (fun q hq _ => hq)
      have BX := Lib.hid (BX.out.grown hg1 BX.out.size (fun q hq => (OO.out.lt q hq).1))
      refine hK.out _ _ ?_ (fun hHeld => ?_)
      · exact HSB.out _ BX.out
      clear hK K
      try simp only [Act.put, List.setIfInBounds_toArray, List.set_cons_zero, List.set_cons_succ]
      refine wpAnyH_take (i := 10) (oi := { dst := some 6, op := Go.Op.assign (Go.Operand.tmp 22), type := 23, pos := "legacy.go:52", after := #[{ on := 9, ground := Go.Ground.data }, { on := 9, ground := Go.Ground.chain }, { on := 0, ground := Go.Ground.phase }, { on := 1, ground := Go.Ground.phase }, { on := 2, ground := Go.Ground.phase }, { on := 3, ground := Go.Ground.phase }, { on := 4, ground := Go.Ground.phase }, { on := 5, ground := Go.Ground.phase }, { on := 6, ground := Go.Ground.phase }, { on := 7, ground := Go.Ground.phase }, { on := 8, ground := Go.Ground.phase }, { on := 9, ground := Go.Ground.phase }], guard := none }) (v := ?a_1_8_3_9v10) rfl (by kernel_rfl) (by kernel_rfl) (by kernel_rfl) (fun _ _ _ h => h) (Or.inl ⟨by rfl, ?a_1_8_3_9y10⟩) (by assumption) ?a_1_8_3_9r10
      case a_1_8_3_9y10 => (intro w hSw; (try dsimp only at hSw); go_simp; try (with_reducible rfl))
      case a_1_8_3_9r10 =>
      try simp only [Act.put, List.setIfInBounds_toArray, List.set_cons_zero, List.set_cons_succ]
      refine wpAnyH_done (by kernel_rfl) ?_ _
      go_wp2_with fail
      refine bodyPost_ret (results_tmp rfl _ _ _) rfl ?_
      exact HEND.out _ _ BX.out hown1
  · as_aux_lemma =>
    refine op_one_tout (.tmp 20) rfl C rfl HCL.out ?_
    have hb : Below w.drew.heap.size w.drew (w.drew.alloc (.cells C.toArray 54)) := (Below.refl _ w.drew).alloc (Nat.le_refl _) _
    have N8 := Lib.hid (Cl.new w.drew 54 C)
    have BX := Lib.hid (BX.out.trans (hb.mono BX.out.size))
    obtain ⟨x6, hx6⟩ : ∃ z, z = w.drew.alloc (.cells C.toArray 54) := ⟨_, rfl⟩
    obtain ⟨G8, hG8⟩ : ∃ z, z = w.drew.heap.size := ⟨_, rfl⟩
    rw [← hx6] at BX N8  ⊢
    rw [← hG8] at N8 ⊢
    clear hb hx6 hG8
    refine hK.out _ _ ?_ (fun hHeld => ?_)
    · exact HSB.out _ BX.out
    clear hK K
    try simp only [Act.put, List.setIfInBounds_toArray, List.set_cons_zero, List.set_cons_succ]
    refine wpAnyH_ready (rs := [1]) (by kernel_rfl) (by simp) ?_
    refine AllReadyH.cons (o := { dst := some 14, op := Go.Op.buildSlice 23 1 #[(0, Go.Operand.tmp 13)], type := 23, pos := "legacy.go:52", after := #[{ on := 0, ground := Go.Ground.data }], guard := none }) rfl (fun K hK => ?_) (AllReadyH.nil)
    refine op_one_tout (.tmp 13) rfl MM rfl HML.out ?_
    have hb : Below x6.heap.size x6 (x6.alloc (.cells MM.toArray 54)) := (Below.refl _ x6).alloc (Nat.le_refl _) _
    have N1 := Lib.hid (Cl.new x6 54 MM)
    have N8 := Lib.hid (N8.out.below hb)
    have BX := Lib.hid (BX.out.trans (hb.mono BX.out.size))
    obtain ⟨x7, hx7⟩ : ∃ z, z = x6.alloc (.cells MM.toArray 54) := ⟨_, rfl⟩
    obtain ⟨G1, hG1⟩ : ∃ z, z = x6.heap.size := ⟨_, rfl⟩
    rw [← hx7] at BX N1 N8 ⊢
    rw [← hG1] at N1 ⊢
    clear hb hx7 hG1
    refine hK.out _ _ ?_ (fun hHeld => ?_)
    · exact HSB.out _ BX.out
    clear hK K
    try simp only [Act.put, List.setIfInBounds_toArray, List.set_cons_zero, List.set_cons_succ]
    refine wpAnyH_ready (rs := [3]) (by kernel_rfl) (by simp) ?_
    refine AllReadyH.cons (o := { dst := some 16, op := Go.Op.call { callee := Go.Callee.value (Go.Operand.func 52), args := #[Go.Operand.tmp 14, Go.Operand.tmp 15], argTypes := #[23, 3] }, type := 23, pos := "legacy.go:52", after := #[{ on := 1, ground := Go.Ground.data }, { on := 2, ground := Go.Ground.data }], guard := none }) rfl (fun K hK => ?_) (AllReadyH.nil)
    go_simp
    refine (hrp.out G1 x7 N1.out.lt N1.out.r).mono ?_
    rintro e x8 ⟨rfl, ho, hb⟩
    have OO := Lib.hid (show OutsO x8 w.heap.size _ (List.replicate n mOut) from own_le ho BX.out.size)
    have N1 := Lib.hid (N1.out.below hb)
    have N8 := Lib.hid (N8.out.below hb)
    have BX := Lib.hid (BX.out.trans (hb.mono BX.out.size))
    obtain ⟨GR, hGR⟩ : ∃ z, z = x7.heap.size := ⟨_, rfl⟩
    rw [← hGR] at OO ⊢
    clear ho hb hGR
    refine hK.out _ _ ?_ (fun hHeld => ?_)
    · exact HSB.out _ BX.out
    clear hK K
    try simp only [Act.put, List.setIfInBounds_toArray, List.set_cons_zero, List.set_cons_succ]
    refine wpAnyH_ready (rs := [9]) (by kernel_rfl) (by simp) ?_
    refine AllReadyH.cons (o := { dst := some 22, op := Go.Op.call { callee := Go.Callee.builtin Go.Builtin.append, args := #[Go.Operand.tmp 16, Go.Operand.tmp 21], argTypes := #[23, 23] }, type := 23, pos := "legacy.go:52", after := #[{ on := 3, ground := Go.Ground.data }, { on := 8, ground := Go.Ground.data }, { on := 3, ground := Go.Ground.chain }], guard := none }) rfl (fun K hK => ?_) (AllReadyH.nil)
    refine op_append_tout (.tmp 16) (.tmp 21) rfl w.heap.size _ n _ rfl (HON.out _ _ OO.out) G8 1 C rfl HCL.out N8.out.r HC1.out HBD.out BX.out.size ?_
    intro v1 w9 hown1 hg1 ho1
    obtain ⟨A1, c1, rfl⟩ := own_form hown1
    have hg9 := (Turns.refl (fun q => Value.ownBlock _ = some q) _).grown hg1 (fun q hq _ => hq)
    have BX := Lib.hid (BX.out.grown hg1 BX.out.size (fun q hq => (OO.out.lt q hq).1))
    refine hK.out _ _ ?_ (fun hHeld => ?_)
    · exact HSB.out _ BX.out
    clear hK K
    try simp only [Act.put, List.setIfInBounds_toArray, List.set_cons_zero, List.set_cons_succ]
    refine wpAnyH_take (i := 10) (oi := { dst := some 6, op := Go.Op.assign (Go.Operand.tmp 22), type := 23, pos := "legacy.go:52", after := #[{ on := 9, ground := Go.Ground.data }, { on := 9, ground := Go.Ground.chain }, { on := 0, ground := Go.Ground.phase }, { on := 1, ground := Go.Ground.phase }, { on := 2, ground := Go.Ground.phase }, { on := 3, ground := Go.Ground.phase }, { on := 4, ground := Go.Ground.phase }, { on := 5, ground := Go.Ground.phase }, { on := 6, ground := Go.Ground.phase }, { on := 7, ground := Go.Ground.phase }, { on := 8, ground := Go.Ground.phase }, { on := 9, ground := Go.Ground.phase }], guard := none }) (v := ?a_8_1_3_9v10) rfl (by kernel_rfl) (by kernel_rfl) (by kernel_rfl) (fun _ _ _ h => h) (Or.inl ⟨by rfl, ?a_8_1_3_9y10⟩) (by assumption) ?a_8_1_3_9r10
    case a_8_1_3_9y10 => (intro w hSw; (try dsimp only at hSw); go_simp; try (with_reducible rfl))
    case a_8_1_3_9r10 =>
    try simp only [Act.put, List.setIfInBounds_toArray, List.set_cons_zero, List.set_cons_succ]
    refine wpAnyH_done (by kernel_rfl) ?_ _
    go_wp2_with fail
    refine bodyPost_ret (results_tmp rfl _ _ _) rfl ?_
    exact HEND.out _ _ BX.out hown1
end Go.Proofs.YthelmclpmalofaaDoor

/-
  sighash.Legacy at every kind. Conditions: sizes within the reach; at most ten outputs.
-/
namespace Go.Proofs.YthelmclpmalofaaDoor
open Go.RowKit

set_option maxRecDepth 100000 in
set_option maxHeartbeats 6400000 in
theorem legacy3_any (B : Nat) (t : TxP) (iv ov sv : Value) (X : List InV) (Y : List OutV) (i : Int) (sc : List UInt8) (k : Int) (w : World) (ht : TxR w B t iv ov X Y) (hsv : Byt w B sv sc) (hB : B ≤ w.heap.size)
    (hf : t.fit) (hs : sc.length ≤ 1000) (h0 : 0 ≤ k) (h1 : k < 256) (h3 : chosenF k = 3) (hin0 : 0 ≤ i ∧ i < t.ins.length) (hn10 : t.outs.length ≤ 10) (hroots : Roots w) :
    Calls Tryd.prog 12 #[.agg (txC t iv ov).toArray, .int .i64 i, sv, .int .u8 k] w fun e w' => e = .returned (digV (legD t i sc k)) ∧ Below w.heap.size w w' := by
  obtain ⟨A1, cp1, hif, _, _⟩ := ht.ins.row.form
  obtain ⟨A2, cp2, hof, _, _⟩ := ht.outs.row.form
  subst hif hof
  have hnX := ht.nins
  have hnY0 := ht.nouts
  have hxc : (X.length : Int) ≤ 20 := by have := hf.ni; omega
  obtain ⟨TC, hTC⟩ : ∃ z, z = txC t (.slice A1 X.length cp1) (.slice A2 Y.length cp2) := ⟨_, rfl⟩
  have t1 : TC[1]? = some (.slice A1 X.length cp1) := by rw [hTC]; rfl
  have t2 : TC[2]? = some (.slice A2 Y.length cp2) := by rw [hTC]; rfl
  have hTCl : TC.length = 4 := by rw [hTC]; rfl
  rw [← hTC]
  have s1 : (w.alloc (.cells TC.toArray 26)).heap.size = w.heap.size + 1 := by simp
  have s2 : ((w.alloc (.cells TC.toArray 26)).alloc (.cells #[.int .u8 k] 5)).heap.size = w.heap.size + 2 := by simp
  have at1 : LegAt w (((w.alloc (.cells TC.toArray 26)).alloc (.cells #[.int .u8 k] 5)).alloc (.cells ((List.replicate 32 (0 : Int)).map (Value.int .u8)).toArray 36)) w.heap.size (w.heap.size + 1) (w.heap.size + 2) TC k := by
    have r1 := VRow.new w 26 TC
    have b1 : Below w.heap.size w (w.alloc (.cells TC.toArray 26)) := (Below.refl _ w).alloc (Nat.le_refl _) _
    have r2 := VRow.new (w.alloc (.cells TC.toArray 26)) 5 [.int .u8 k]
    rw [s1] at r2
    have r3 := IRow.new ((w.alloc (.cells TC.toArray 26)).alloc (.cells #[.int .u8 k] 5)) 36 .u8 (List.replicate 32 0)
    rw [s2] at r3
    have r1' := (r1.below ((Below.refl _ _).alloc (Nat.le_refl _) (.cells #[.int .u8 k] 5)) r1.lt)
    exact ⟨r1'.below ((Below.refl _ _).alloc (Nat.le_refl _) _) r1'.lt, r2.below ((Below.refl _ _).alloc (Nat.le_refl _) _) (by rw [s2]; omega), r3, (b1.alloc (by rw [s1]; omega) _).alloc (by rw [s2]; omega) _⟩
  obtain ⟨w1, hw1⟩ : ∃ z, z = (((w.alloc (.cells TC.toArray 26)).alloc (.cells #[.int .u8 k] 5)).alloc (.cells ((List.replicate 32 (0 : Int)).map (Value.int .u8)).toArray 36)) := ⟨_, rfl⟩
  obtain ⟨GT, hGT⟩ : ∃ z, z = w.heap.size := ⟨_, rfl⟩
  obtain ⟨GK, hGK⟩ : ∃ z, z = w.heap.size + 1 := ⟨_, rfl⟩
  obtain ⟨GH, hGH⟩ : ∃ z, z = w.heap.size + 2 := ⟨_, rfl⟩
  have n1 : GT ≠ GK := by omega
  have n2 : GT ≠ GH := by omega
  have at1' : LegAt w w1 GT GK GH TC k := by rw [hw1, hGT, hGK, hGH]; exact at1
  have A1' := Lib.hid at1'
  have HW1 := Lib.hid hw1
  have HGT := Lib.hid hGT
  have HGK := Lib.hid hGK
  have HGH := Lib.hid hGH
  have N1 := Lib.hid n1
  have N2 := Lib.hid n2
  have HT := Lib.hid ht
  have HS := Lib.hid hsv
  have HB := Lib.hid hB
  have HF := Lib.hid hf
  have HSL := Lib.hid hs
  have HRO := Lib.hid hroots
  have H3 := Lib.hid h3
  have T1 := Lib.hid t1
  have T2 := Lib.hid t2
  have HTC := Lib.hid hTC
  have HNX := Lib.hid hnX
  have HTL := Lib.hid hTCl
  obtain ⟨nX, hnX2⟩ : ∃ n, n = X.length := ⟨_, rfl⟩
  obtain ⟨nY, hnY2⟩ : ∃ n, n = Y.length := ⟨_, rfl⟩
  rw [← hnX2] at hxc T1 HT HTC HNX
  rw [← hnY2] at T2 HT HTC hnY0
  have HNY := Lib.hid hnY0
  have HNY2 := Lib.hid hnY2
  have HN10 := Lib.hid hn10
  have HNX2 := Lib.hid hnX2
  obtain ⟨As, cs, hsf⟩ := hsv.form
  have HSF := Lib.hid hsf
  clear hnY0 hn10 s1 s2 at1 at1' hw1 hGT hGK hGH n1 n2 ht hsv hB hf hs hroots h3 t1 t2 hTC hnX hnX2 hnY2 hTCl
  have hIB : ∀ DS : List UInt8, DS.length = 32 → (Tryd.prog.info? 36).map (·.size) = some (nums DS).length ∧ (List.replicate 32 (0 : Int)).length = (nums DS).length := fun DS h => ⟨by rw [nums_length, h]; exact info_h, by rw [nums_length, h]; rfl⟩
  have HIB := Lib.hid hIB
  clear hIB
  subst hsf
  have hin : 0 ≤ i ∧ i < (nX : Int) := by rw [HNX.out]; exact hin0
  clear hin0
  by_cases hio : i < (nY : Int)
  · as_aux_lemma =>
    obtain ⟨n, rfl⟩ : ∃ n : Nat, i = n := ⟨i.toNat, by omega⟩
    have hnl : n < nX := by omega
    obtain ⟨x, hx⟩ : ∃ x, X[n]? = some x := ⟨_, List.getElem?_eq_getElem (by rw [← HNX2.out]; exact hnl)⟩
    have hd : legD t (n : Int) sc k = sha256 (sha256 (legB t n sc k)) := by unfold legD; rw [if_pos ⟨by rw [← HNX.out]; exact hin, fun _ => by rw [← HNY.out]; exact hio⟩, Int.toNat_natCast]
    have hha := hasIn_any A1 nX cp1 (n : Int) w1
    rw [decide_eq_true hin] at hha
    have hca := chosen_any k w1 h0 h1
    rw [H3.out] at hca
    obtain ⟨y, hy⟩ : ∃ y, Y[n]? = some y := ⟨_, List.getElem?_eq_getElem (by rw [← HNY2.out]; omega)⟩
    have hho := hasOut_any A2 nY cp2 (n : Int) w1
    rw [decide_eq_true (show 0 ≤ (n : Int) ∧ (n : Int) < (nY : Int) from ⟨by omega, hio⟩)] at hho
    have HHO := Lib.hid hho
    have HYY := Lib.hid hy
    have hfit := legTx_fit (i := n) (k := k) HF.out HSL.out (by omega)
    have hinp := inputs_any B _ _ X sc n x k w1 (HT.out.ins.below (A1'.out.bel.mono HB.out)) (HS.out.below (A1'.out.bel.mono HB.out)) (Nat.le_trans HB.out A1'.out.bel.size) hx h0 h1 (by have := HNX2.out; omega)
    rw [hd]
    have HHA := Lib.hid hha
    have HCA := Lib.hid hca
    have HFIT := Lib.hid hfit
    have HINP := Lib.hid hinp
    clear hha hca hfit hinp hho hy hd hx hin
    go_enter Tryd.func12, Tryd.ntmps12
    go_upto_region 1 with fail
    change Code.wp _ _ _ _ (((w.alloc (.cells TC.toArray 26)).alloc (.cells #[.int .u8 k] 5)).alloc (.cells ((List.replicate 32 (0 : Int)).map (Value.int .u8)).toArray 36))
    rw [← HW1.out, show w.heap.size + 1 + 1 = GH from HGH.out.symm, show w.heap.size + 1 = GK from HGK.out.symm, show w.heap.size = GT from HGT.out.symm]
    clear HW1
    try dsimp only [Act.put]
    have c1 := A1'.out.t.cell T1.out
    have ck := A1'.out.k.cell (show [Value.int .u8 k][0]? = some (.int .u8 k) from rfl)
    have c2 := A1'.out.t.cell T2.out
    go_wp2_with fail
    refine HHA.out.mono ?_
    rintro e w2 ⟨rfl, rfl⟩
    go_wp2_with fail
    refine HCA.out.mono ?_
    rintro e w2 ⟨rfl, rfl⟩
    go_wp2_with fail
    refine HHO.out.mono ?_
    rintro e w2 ⟨rfl, rfl⟩
    go_wp2_with go_big_skip
    refine HINP.out.mono ?_
    rintro e w3 ⟨v, X', rfl, hR, hm, hb⟩
    have A3 := Lib.hid (A1'.out.below hb)
    have hR0 := hR w3 (Turns.refl _ _)
    obtain ⟨Av, cv, hvf, _, _⟩ := hR0.row.form
    subst hvf
    have HR := Lib.hid hR
    have HM := Lib.hid hm
    have HB3 := Lib.hid hb
    obtain ⟨nV, hnV⟩ : ∃ n, n = X'.length := ⟨_, rfl⟩
    rw [← hnV] at HR ⊢
    have d1 := A3.out.t.cell T1.out
    have f1 := A3.out.t.free 1
    clear hR hR0 hm hb c1 c2 ck hnV
    go_upto_region 4 with fail
    change Code.wp _ _ _ _ (w3.setCell ⟨GT, 1, none⟩ (.slice Av nV cv))
    have A4 := Lib.hid (A3.out.set (by have := HGT.out; omega) N1.out N2.out 1 (.slice Av nV cv))
    have tt4 : Turns (fun q => q = GT) w3 (w3.setCell ⟨GT, 1, none⟩ (.slice Av nV cv)) := Turns.setCell (S := fun q => q = GT) (Turns.refl _ w3) (p := ⟨GT, 1, none⟩) (fun _ => rfl) _
    have TT4 := Lib.hid tt4
    clear tt4 d1 f1
    obtain ⟨w4, hw4⟩ : ∃ z, z = w3.setCell ⟨GT, 1, none⟩ (.slice Av nV cv) := ⟨_, rfl⟩
    rw [← hw4] at A4 TT4 ⊢
    clear hw4
    have hT4 : (TC.set 1 (Value.slice Av nV cv))[2]? = some (.slice A2 nY cp2) := by rw [List.getElem?_set_ne (by decide)]; exact T2.out
    have e2 := A4.out.t.cell hT4
    have ek := A4.out.k.cell (show [Value.int .u8 k][0]? = some (.int .u8 k) from rfl)
    have HOUT := Lib.hid (outputs3_any B _ Y k n y w4 (HT.out.outs.below (A4.out.bel.mono HB.out)) (Nat.le_trans HB.out A4.out.bel.size) HYY.out (by have := HN10.out; have := HNY.out; omega) h0 h1 H3.out)
    go_wp2_with fail
    refine HOUT.out.mono ?_
    rintro e w5 ⟨u, Y', rfl, hQ, hq, hb5⟩
    have A5 := Lib.hid (A4.out.below hb5)
    have hQ0 := hQ w5 (Turns.refl _ _)
    obtain ⟨Au, cu, huf, _, _⟩ := hQ0.row.form
    subst huf
    have HQ := Lib.hid hQ
    have HQM := Lib.hid hq
    have HB5 := Lib.hid hb5
    obtain ⟨nU, hnU⟩ : ∃ n, n = Y'.length := ⟨_, rfl⟩
    rw [← hnU] at HQ ⊢
    have g2 := A5.out.t.cell hT4
    have f2 := A5.out.t.free 2
    clear hQ hQ0 hq hb5 e2 ek hnU HOUT hT4
    go_upto_region 5 with fail
    change Code.wp _ _ _ _ (w5.setCell ⟨GT, 2, none⟩ (.slice Au nU cu))
    have A6 := Lib.hid (A5.out.set (by have := HGT.out; omega) N1.out N2.out 2 (.slice Au nU cu))
    have tt6 : Turns (fun q => q = GT) w5 (w5.setCell ⟨GT, 2, none⟩ (.slice Au nU cu)) := Turns.setCell (S := fun q => q = GT) (Turns.refl _ w5) (p := ⟨GT, 2, none⟩) (fun _ => rfl) _
    have TT6 := Lib.hid tt6
    clear tt6 g2 f2
    obtain ⟨w6, hw6⟩ : ∃ z, z = w5.setCell ⟨GT, 2, none⟩ (.slice Au nU cu) := ⟨_, rfl⟩
    rw [← hw6] at A6 TT6 ⊢
    clear hw6
    have hBT : B ≤ GT := by have := HGT.out; have := HB.out; omega
    have hTC6 : (TC.set 1 (Value.slice Av nV cv)).set 2 (Value.slice Au nU cu) = txC (legTx t n sc k) (.slice Av nV cv) (.slice Au nU cu) := by rw [HTC.out]; rfl
    have hTX : TxR w6 w6.heap.size (legTx t n sc k) (.slice Av nV cv) (.slice Au nU cu) X' Y' := by
      refine ⟨⟨HT.out.ok.v0, HT.out.ok.v1, HT.out.ok.l0, HT.out.ok.l1⟩, HR.out w6 ?_, HQ.out w6 ?_, ?_, ?_⟩
      · have a1 : Turns (fun q => B ≤ q ∧ q < w1.heap.size) w3 w4 := TT4.out.mono (fun q _ e => by rw [e]; exact ⟨hBT, A1'.out.t.lt⟩)
        have a2 : Turns (fun q => B ≤ q ∧ q < w1.heap.size) w3 w5 := a1.trans (Turns.of_below (S := fun _ => False) HB5.out) (fun _ _ q => q.elim)
        exact a2.trans TT6.out (fun q _ e => by rw [e]; exact ⟨hBT, A1'.out.t.lt⟩)
      · exact TT6.out.mono (fun q _ e => by rw [e]; exact ⟨hBT, A4.out.t.lt⟩)
      · rw [HM.out, HT.out.ei]; rfl
      · rw [HQM.out, HT.out.eo]; rfl
    have hroot6 := HRO.out.below A6.out.bel
    have hcl : ∀ g W, WrT w6 W w6.heap.size g [] → Calls Tryd.prog 30 (#[.pointer (some ⟨g, 0, none⟩)] ++ #[.pointer (some ⟨GT, 0, none⟩), .pointer (some ⟨GK, 0, none⟩)]) W (WrD w6 w6.heap.size g W (legB t n sc k)) := fun g W h =>
      legClo_any GT GK (legTx t n sc k) _ _ X' Y' k W h hTX HFIT.out (by rw [← hTC6]; exact A6.out.t) A6.out.t.lt A6.out.k A6.out.k.lt h0 h1
    have hlb : (legB t n sc k).length ≤ 60000 := by have := encB_le HFIT.out; unfold legB; rw [List.length_append, low_length]; omega
    have HDG := Lib.hid (digest_any 30 #[.pointer (some ⟨GT, 0, none⟩), .pointer (some ⟨GK, 0, none⟩)] (legB t n sc k) w6 hroot6 hlb (fun args W => rfl) hcl)
    clear hBT hTC6 hTX hroot6 hcl hlb
    obtain ⟨DS, hDS⟩ : ∃ z, z = sha256 (sha256 (legB t n sc k)) := ⟨_, rfl⟩
    rw [← hDS] at HDG
    have HDS := Lib.hid hDS
    have hdl : DS.length = 32 := by rw [hDS, sha256_length]
    have HI := Lib.hid (HIB.out DS hdl)
    clear hDS hdl
    go_wp2_with fail
    refine HDG.out.mono ?_
    rintro e w7 ⟨rfl, hb7⟩
    have A7 := Lib.hid (A6.out.below hb7)
    clear hb7
    unfold digV
    obtain ⟨NS, hNS⟩ : ∃ z, z = nums DS := ⟨_, rfl⟩
    rw [← hNS] at HI ⊢
    have HNS := Lib.hid hNS
    clear hNS
    go_wp2_with (first
      | (refine wpList_store_irow rfl 36 (.tmp 8) (.tmp 41) rfl (g := GH) (t := 36) (k := .u8) (xs := List.replicate 32 0) (ys := NS) rfl rfl A7.out.h HI.out.1 HI.out.2 ?_))
    refine bodyPost_ret (v := digV DS) ?_ rfl ⟨by rw [HDS.out], below_setRow A7.out.bel (by have := HGH.out; omega) _⟩
    unfold digV
    rw [← HNS.out]
    obtain ⟨fr, hrw⟩ : ∃ fr, (w7.setRow GH (NS.map (Value.int .u8)).toArray).heap[GH]? = some (.cells (NS.map (Value.int .u8)).toArray 36 fr) := ⟨_, setRow_irow A7.out.h⟩
    exact results_cell_row Tryd.results12 _ _ GH 36 (NS.map (Value.int .u8)).toArray fr _ rfl hrw Tryd.underlying36 rfl (by rw [List.size_toArray, List.length_map]; exact HI.out.1)
  · as_aux_lemma =>
    have hd : legD t i sc k = oneB := by unfold legD; rw [if_neg (fun q => hio (by rw [HNY.out]; exact q.2 H3.out))]
    have hha := hasIn_any A1 nX cp1 i w1
    rw [decide_eq_true hin] at hha
    have hca := chosen_any k w1 h0 h1
    rw [H3.out] at hca
    have hho := hasOut_any A2 nY cp2 i w1
    rw [decide_eq_false (show ¬ (0 ≤ i ∧ i < (nY : Int)) from fun q => hio q.2)] at hho
    rw [hd]
    have HHA := Lib.hid hha
    have HCA := Lib.hid hca
    have HHO := Lib.hid hho
    clear hha hca hho hd hin H3
    go_enter Tryd.func12, Tryd.ntmps12
    go_upto_region 1 with fail
    change Code.wp _ _ _ _ (((w.alloc (.cells TC.toArray 26)).alloc (.cells #[.int .u8 k] 5)).alloc (.cells ((List.replicate 32 (0 : Int)).map (Value.int .u8)).toArray 36))
    rw [← HW1.out, show w.heap.size + 1 + 1 = GH from HGH.out.symm, show w.heap.size + 1 = GK from HGK.out.symm, show w.heap.size = GT from HGT.out.symm]
    clear HW1
    try dsimp only [Act.put]
    have c1 := A1'.out.t.cell T1.out
    have c2 := A1'.out.t.cell T2.out
    have ck := A1'.out.k.cell (show [Value.int .u8 k][0]? = some (.int .u8 k) from rfl)
    go_wp2_with fail
    refine HHA.out.mono ?_
    rintro e w2 ⟨rfl, rfl⟩
    go_wp2_with fail
    refine HCA.out.mono ?_
    rintro e w2 ⟨rfl, rfl⟩
    go_wp2_with fail
    refine HHO.out.mono ?_
    rintro e w2 ⟨rfl, rfl⟩
    go_wp2_with go_big_skip
    refine (nothing_any w1).mono ?_
    rintro e w3 ⟨rfl, hb3⟩
    have A3 := Lib.hid (A1'.out.below hb3)
    have HI := Lib.hid (HIB.out oneB rfl)
    clear hb3 c1 c2 ck
    unfold digV
    obtain ⟨NS, hNS⟩ : ∃ z, z = nums oneB := ⟨_, rfl⟩
    rw [← hNS] at HI ⊢
    have HNS := Lib.hid hNS
    clear hNS
    go_wp2_with (first
      | (refine wpList_store_irow rfl 36 (.tmp 8) (.tmp 26) rfl (g := GH) (t := 36) (k := .u8) (xs := List.replicate 32 0) (ys := NS) rfl rfl A3.out.h HI.out.1 HI.out.2 ?_))
    refine bodyPost_ret (v := digV oneB) ?_ rfl ⟨rfl, below_setRow A3.out.bel (by have := HGH.out; omega) _⟩
    unfold digV
    rw [← HNS.out]
    obtain ⟨fr, hrw⟩ : ∃ fr, (w3.setRow GH (NS.map (Value.int .u8)).toArray).heap[GH]? = some (.cells (NS.map (Value.int .u8)).toArray 36 fr) := ⟨_, setRow_irow A3.out.h⟩
    exact results_cell_row Tryd.results12 _ _ GH 36 (NS.map (Value.int .u8)).toArray fr _ rfl hrw Tryd.underlying36 rfl (by rw [List.size_toArray, List.length_map]; exact HI.out.1)
theorem legacyA_any (B : Nat) (t : TxP) (iv ov sv : Value) (X : List InV) (Y : List OutV) (i : Int) (sc : List UInt8) (k : Int) (w : World) (ht : TxR w B t iv ov X Y) (hsv : Byt w B sv sc) (hB : B ≤ w.heap.size)
    (hf : t.fit) (hs : sc.length ≤ 1000) (h0 : 0 ≤ k) (h1 : k < 256) (hn10 : t.outs.length ≤ 10) (hroots : Roots w) :
    Calls Tryd.prog 12 #[.agg (txC t iv ov).toArray, .int .i64 i, sv, .int .u8 k] w fun e w' => e = .returned (digV (legD t i sc k)) ∧ Below w.heap.size w w' := by
  by_cases h3 : chosenF k = 3
  · by_cases hin : 0 ≤ i ∧ i < t.ins.length
    · exact legacy3_any B t iv ov sv X Y i sc k w ht hsv hB hf hs h0 h1 h3 hin hn10 hroots
    · exact legacy_any B t iv ov sv X Y i sc k w ht hsv hB hf hs h0 h1 (.inr hin) hroots
  · exact legacy_any B t iv ov sv X Y i sc k w ht hsv hB hf hs h0 h1 (.inl h3) hroots
end Go.Proofs.YthelmclpmalofaaDoor
