/-
  block.greatest: 32 bytes of 255, by bytes.Repeat. Conditions: none.
-/
import Derived.Test.YtgkocmljnoambaaDoorNAdd
import Derived.Lib.MakeNoZero
import Derived.Laws.CopyRow
import Derived.Deep.CutBlock
namespace Go.Proofs.YtgkocmljnoambaaDoor
open Go.RowKit

set_option maxHeartbeats 800000 in
theorem mul64_any (w : World) : Calls Tryd.prog 55 #[.int .u64 1, .int .u64 32] w fun e w' => e = .returned (.tuple #[.int .u64 0, .int .u64 32]) ∧ w = w' := by
  go_enter Tryd.func55, Tryd.ntmps55
  go_wp2
  go_ret2
  exact ⟨rfl, rfl⟩
set_option maxHeartbeats 800000 in
theorem mul_any (w : World) : Calls Tryd.prog 51 #[.int .u64 1, .int .u64 32] w fun e w' => e = .returned (.tuple #[.int .u64 0, .int .u64 32]) ∧ w = w' := by
  go_enter Tryd.func51, Tryd.ntmps51
  go_wp2_with (go_at_call 55; refine (mul64_any _).mono ?_; rintro e w' ⟨rfl, rfl⟩)
  go_ret2
  exact ⟨rfl, rfl⟩

/-- Block g is a row of bytes, of which the first k are 255. -/
def FillR (w : World) (g k : Nat) : Prop := ∃ cur : Array Value, w.heap[g]? = some (.cells cur 5 (0, 0)) ∧ 32 ≤ cur.size ∧ ∀ i, i < k → cur[i]? = some (.int .u8 255)
theorem FillR.cell {w : World} {g k i : Nat} (h : FillR w g k) (hi : i < k) : w.cell? ⟨g, i, none⟩ = some (.int .u8 255) := by
  obtain ⟨cur, hc, _, hf⟩ := h
  rw [cell_of_row w g i _ _ _ hc]
  exact hf i hi
theorem FillR.drew {w : World} {g k : Nat} (h : FillR w g k) : FillR w.drew g k := h
theorem fill_copy {w : World} {g k m c1 c2 n : Nat} {a : Addr} {ty : TypeId} (hn : n = Nat.min m (32 - k)) (hsrc : ∀ j, j < n → w.cell? (a.add j) = some (.int .u8 255)) (hk : k ≤ 32) (h : FillR w g k) :
    ∃ w', (Builtin.copy_ #[44, 44] ty #[.slice (some ⟨g, k, none⟩) (32 - k) c1, .slice (some a) m c2]).run Tryd.prog w = .ok (goInt n) w' ∧ FillR w' g (k + n) ∧ Turns (fun b => b = g) w w' := by
  obtain ⟨i0, hi, hz0, hz1, hz2⟩ := info_parts info_u8
  obtain ⟨cur, hc, hs, hf⟩ := h
  have hnl : n ≤ 32 - k := by rw [hn]; exact Nat.min_le_right _ _
  have hr := run_copy_row (P := Tryd.prog) w 44 44 ty 5 g k (32 - k) c1 a m c2 cur 5 (List.replicate n (.int .u8 255)) slice_u8 (by rw [hi]; simp [hz1]) hc (by rw [List.length_replicate]; exact hn) (fun j v hv => by
    have hj : j < n := by have := (List.getElem?_eq_some_iff.1 hv).1; rwa [List.length_replicate] at this
    rw [List.getElem?_replicate, if_pos hj] at hv
    rw [← Option.some.inj hv]
    exact hsrc j hj) (by rw [List.length_replicate]; omega) (fun v hv => by rw [(List.mem_replicate.1 hv).2]; rfl)
  rw [List.length_replicate] at hr
  refine ⟨_, hr, ⟨_, setRow_heap w g cur _ _ _ hc, ?_, fun i hi => ?_⟩, ?_⟩
  · simp
    omega
  · have e : (cur.toList.take k).length = k := by rw [List.length_take, Array.length_toList]; omega
    rw [List.getElem?_toArray, List.append_assoc]
    by_cases h1 : i < k
    · rw [List.getElem?_append_left (by omega), List.getElem?_take, if_pos h1, Array.getElem?_toList]
      exact hf i h1
    · rw [List.getElem?_append_right (by omega), e, List.getElem?_append_left (by rw [List.length_replicate]; omega), List.getElem?_replicate, if_pos (by omega)]
  · refine ⟨rfl, rfl, rfl, by simp [World.setRow], fun b hb hne => ?_⟩
    simp only [World.setRow, Array.getElem?_modify]
    rw [if_neg (fun e => hne e.symm)]

theorem op_copy_fill {w : World} {o : Oper} {a : Act} {K : Act → World → Prop} {Q : Exit → Act → World → Prop} (s x : Operand)
    (ho : o.op = .call { callee := .builtin .copy, args := #[s, x], argTypes := #[44, 44] })
    {g k m c1 c2 n : Nat} {ad : Addr} (hd : a.eval s = .slice (some ⟨g, k, none⟩) (32 - k) c1) (hx : a.eval x = .slice (some ad) m c2) (hn : n = Nat.min m (32 - k)) (hsrc : ∀ j, j < n → w.cell? (ad.add j) = some (.int .u8 255)) (hk : k ≤ 32) (h : FillR w g k)
    (hK : ∀ w', FillR w' g (k + n) → Turns (fun b => b = g) w w' → K (a.put o.dst (.int .i64 n)) w') : o.wp Tryd.prog a w K Q := by
  obtain ⟨w', hrun, h1, h2⟩ := fill_copy (ty := o.type) (c1 := c1) (c2 := c2) hn hsrc hk h
  unfold Oper.wp execOp
  simp only [ho, resolve, invoke, builtin, Sem.run_bind, Sem.run_pure, Result.andThen_ok, List.map_toArray, List.map_cons, List.map_nil, hd, hx, hrun]
  exact hK _ h1 h2
theorem wpList_copy_fill {w : World} {ops : Array Oper} {rest : List Oper} {o : Oper} {a : Act} {Q : Exit → Act → World → Prop} (hgd : o.guard = none) (s x : Operand)
    (ho : o.op = .call { callee := .builtin .copy, args := #[s, x], argTypes := #[44, 44] })
    {g k m c1 c2 n : Nat} {ad : Addr} (hd : a.eval s = .slice (some ⟨g, k, none⟩) (32 - k) c1) (hx : a.eval x = .slice (some ad) m c2) (hn : n = Nat.min m (32 - k)) (hsrc : ∀ j, j < n → w.cell? (ad.add j) = some (.int .u8 255)) (hk : k ≤ 32) (h : FillR w g k)
    (hK : ∀ w', FillR w' g (k + n) → Turns (fun b => b = g) w w' → wpList Tryd.prog ops Q rest (a.put o.dst (.int .i64 n)) w') : wpList Tryd.prog ops Q (o :: rest) a w :=
  wpList_plain hgd fun _ hk' => op_copy_fill s x ho hd hx hn hsrc hk h fun w' h1 h2 => hk' _ _ (hK w' h1 h2)

set_option maxRecDepth 100000 in
set_option maxHeartbeats 3200000 in
theorem repeat_any (g : Nat) (w : World) (hg : g < w.heap.size) (hc : w.cell? ⟨g, 0, none⟩ = some (.int .u8 255)) :
    Calls Tryd.prog 46 #[.slice (some ⟨g, 0, none⟩) 1 1, .int .i64 32] w fun e w' => e = .returned (.slice (some ⟨w.heap.size, 0, none⟩) 32 32) ∧ FillR w' w.heap.size 32 ∧ Below w.heap.size w w' := by
  have HC := Lib.hid hc
  have HG := Lib.hid hg
  clear hc hg
  go_enter Tryd.func46, Tryd.ntmps46
  go_wp2_with (go_at_call 51; refine (mul_any _).mono ?_; rintro e w' ⟨rfl, rfl⟩)
  obtain ⟨cs, hrunM, hle, hmax⟩ := Lib.run_makeNoZero (P := Tryd.prog) w #[3] 44 5 slice_u8 32 (by omega)
  have hcm := hmax (by unfold maxLen; omega)
  unfold maxLen at hcm
  rw [run_callFunc_extern Tryd.func52 (by kernel_rfl) (by kernel_rfl) (by kernel_rfl) (e := Extern.BytealgMakeNoZero.makeNoZero #[3] #[44]) (by kernel_rfl)]
  rw [show (Value.int .i64 32) = .int .i64 ((32 : Nat) : Int) from rfl, hrunM]
  simp only [Result.andThen]
  rw [Oper.upon_value]
  have F0 : FillR (w.drew.drew.alloc (.cells cs 5)) w.heap.size 0 := ⟨cs, heap_alloc_new w.drew.drew _, hle, fun i hi => absurd hi (by omega)⟩
  have B0 : Below w.heap.size w (w.drew.drew.alloc (.cells cs 5)) := ((Below.refl _ w).drew.drew).alloc (by simp) _
  obtain ⟨W, hW⟩ : ∃ W, W = w.drew.drew.alloc (.cells cs 5) := ⟨_, rfl⟩
  rw [← hW] at F0 B0 ⊢
  have C0 := (B0.cell (p := ⟨g, 0, none⟩) HG.out).trans HC.out
  obtain ⟨h, hh⟩ : ∃ h, h = w.heap.size := ⟨_, rfl⟩
  obtain ⟨cp, hcp⟩ : ∃ cp, cp = cs.size := ⟨_, rfl⟩
  rw [← hcp] at hle hcm ⊢
  rw [← hh] at F0
  have HF := Lib.hid F0
  have HB := Lib.hid B0
  have HC0 := Lib.hid C0
  have HH := Lib.hid hh
  clear F0 B0 C0 hW hrunM hmax hcp
  have HS1 : Hid (∀ j, j < 1 → W.cell? (Addr.add ⟨g, 0, none⟩ j) = some (.int .u8 255)) := Lib.hid (fun j hj => by
    obtain rfl : j = 0 := by omega
    exact HC0.out)
  have HF0 : Hid (FillR W w.heap.size 0) := Lib.hid (by rw [← HH.out]; exact HF.out)
  clear hh
  go_upto_block 0 with (refine wpList_copy_fill rfl (.tmp 58) (.tmp 59) rfl (g := w.heap.size) (k := 0) (m := 1) (c1 := 32) (c2 := 1) (n := 1) (ad := ⟨g, 0, none⟩) rfl rfl rfl HS1.out (by omega) HF0.out ?_; intro w2 hf2 ht2)
  rw [Nat.zero_add] at hf2
  have hb2 : Below w.heap.size w w2 := HB.out.trans (ht2.below_of (B := w.heap.size) HB.out.size (fun i hi e => by omega))
  have HF2 := Lib.hid hf2
  have HB2 := Lib.hid hb2
  clear hf2 hb2 ht2
  refine wp_block ?_
  go_loopw [10] (fun bv wr => ∃ k : Nat, 1 ≤ k ∧ k ≤ 32 ∧ bv = .int .i64 k ∧ FillR wr w.heap.size k ∧ Below w.heap.size w wr) (fun bv _ => 32 - (intOf bv).toNat)
  case atStart => exact ⟨1, by omega, by omega, rfl, HF2.out, HB2.out⟩
  case round =>
    obtain ⟨k, h1, h32, rfl, hf, hb⟩ := hrel
    by_cases hlt : k < 32
    · have HFk := Lib.hid hf
      have HBk := Lib.hid hb
      have hd1 : decide ((k : Int) < 32) = true := decide_eq_true (by omega)
      have hmin : min (k : Int) 32 = k := by omega
      clear hf hb
      go_upto_region 20 with fail
      have e0 : 32 - k ≠ 0 := by omega
      have ek : (32 : Nat) ≠ k := by omega
      have k0 : (0 : Int) ≤ (k : Int) := by omega
      have k1 : (k : Int) ≤ 32 := by omega
      have ks : Nat.min k (32 - k) ≤ 32 - k := Nat.min_le_right _ _
      have ks2 : 1 ≤ Nat.min k (32 - k) := Nat.le_min.2 ⟨h1, by omega⟩
      obtain ⟨q, hq⟩ : ∃ q, q = Nat.min k (32 - k) := ⟨_, rfl⟩
      have HQ := Lib.hid hq
      rw [← hq] at ks ks2
      clear hq
      have HSR : Hid (∀ j, j < q → wr.drew.cell? (Addr.add ⟨w.heap.size, 0, none⟩ j) = some (.int .u8 255)) := Lib.hid (fun j hj => by
        have hadd : (⟨w.heap.size, 0, none⟩ : Addr).add j = ⟨w.heap.size, 0 + j, none⟩ := by unfold Addr.add; split <;> simp_all
        rw [hadd, Nat.zero_add]
        exact HFk.out.cell (by have h := HQ.out; rw [h] at hj; exact Nat.lt_of_lt_of_le hj (Nat.min_le_left _ _)))
      have w1 : IntKind.i64.wrap ((k : Int) + q) = (k : Int) + q := i64_cast (by omega) (by omega)
      refine wp_region_held_drew (S := AnyW) (by kernel_rfl) ?_ (fun hHeld => ?_)
      · exact anyW _
      refine wpAnyH_take (i := 0) (oi := { dst := some 67, op := Go.Op.move (Go.Operand.tmp 10), type := 3, pos := "bytes.go:672", after := #[], guard := none }) (v := ?av0) rfl (by kernel_rfl) (by kernel_rfl) (by kernel_rfl) (fun _ _ _ h => h) (Or.inl ⟨by rfl, ?ay0⟩) (by assumption) ?ar0
      case ay0 => (intro w hSw; (try dsimp only at hSw); go_simp; try (with_reducible rfl))
      case ar0 =>
      try simp only [Act.put, List.setIfInBounds_toArray, List.set_cons_zero, List.set_cons_succ]
      refine wpAnyH_take (i := 1) (oi := { dst := some 68, op := Go.Op.move (Go.Operand.tmp 9), type := 44, pos := "bytes.go:672", after := #[], guard := none }) (v := ?av1) rfl (by kernel_rfl) (by kernel_rfl) (by kernel_rfl) (fun _ _ _ h => h) (Or.inl ⟨by rfl, ?ay1⟩) (by assumption) ?ar1
      case ay1 => (intro w hSw; (try dsimp only at hSw); go_simp; try (with_reducible rfl))
      case ar1 =>
      try simp only [Act.put, List.setIfInBounds_toArray, List.set_cons_zero, List.set_cons_succ]
      refine wpAnyH_take (i := 2) (oi := { dst := some 69, op := Go.Op.move (Go.Operand.tmp 10), type := 3, pos := "bytes.go:672", after := #[], guard := none }) (v := ?av2) rfl (by kernel_rfl) (by kernel_rfl) (by kernel_rfl) (fun _ _ _ h => h) (Or.inl ⟨by rfl, ?ay2⟩) (by assumption) ?ar2
      case ay2 => (intro w hSw; (try dsimp only at hSw); go_simp; try (with_reducible rfl))
      case ar2 =>
      try simp only [Act.put, List.setIfInBounds_toArray, List.set_cons_zero, List.set_cons_succ]
      refine wpAnyH_take (i := 3) (oi := { dst := some 70, op := Go.Op.slice 44 (Go.Operand.tmp 68) (some (Go.Operand.tmp 69)) none none, type := 44, pos := "bytes.go:672", after := #[{ on := 1, ground := Go.Ground.data }, { on := 2, ground := Go.Ground.data }], guard := none }) (v := (.slice (some ⟨w.heap.size, k, none⟩) (32 - k) (32 - k))) rfl (by kernel_rfl) (by kernel_rfl) (by kernel_rfl) (fun _ _ _ h => h) (Or.inl ⟨by rfl, ?ay3⟩) (by assumption) ?ar3
      case ay3 => (intro w hSw; (try dsimp only at hSw); go_simp; try (with_reducible rfl))
      case ar3 =>
      try simp only [Act.put, List.setIfInBounds_toArray, List.set_cons_zero, List.set_cons_succ]
      refine wpAnyH_take (i := 4) (oi := { dst := some 71, op := Go.Op.move (Go.Operand.tmp 9), type := 44, pos := "bytes.go:672", after := #[], guard := none }) (v := ?av4) rfl (by kernel_rfl) (by kernel_rfl) (by kernel_rfl) (fun _ _ _ h => h) (Or.inl ⟨by rfl, ?ay4⟩) (by assumption) ?ar4
      case ay4 => (intro w hSw; (try dsimp only at hSw); go_simp; try (with_reducible rfl))
      case ar4 =>
      try simp only [Act.put, List.setIfInBounds_toArray, List.set_cons_zero, List.set_cons_succ]
      refine wpAnyH_take (i := 5) (oi := { dst := some 72, op := Go.Op.move (Go.Operand.tmp 11), type := 3, pos := "bytes.go:672", after := #[], guard := none }) (v := ?av5) rfl (by kernel_rfl) (by kernel_rfl) (by kernel_rfl) (fun _ _ _ h => h) (Or.inl ⟨by rfl, ?ay5⟩) (by assumption) ?ar5
      case ay5 => (intro w hSw; (try dsimp only at hSw); go_simp; try (with_reducible rfl))
      case ar5 =>
      try simp only [Act.put, List.setIfInBounds_toArray, List.set_cons_zero, List.set_cons_succ]
      refine wpAnyH_take (i := 6) (oi := { dst := some 73, op := Go.Op.slice 44 (Go.Operand.tmp 71) none (some (Go.Operand.tmp 72)) none, type := 44, pos := "bytes.go:672", after := #[{ on := 4, ground := Go.Ground.data }, { on := 5, ground := Go.Ground.data }], guard := none }) (v := (.slice (some ⟨w.heap.size, 0, none⟩) k 32)) rfl (by kernel_rfl) (by kernel_rfl) (by kernel_rfl) (fun _ _ _ h => h) (Or.inl ⟨by rfl, ?ay6⟩) (by assumption) ?ar6
      case ay6 => (intro w hSw; (try dsimp only at hSw); go_simp; try (with_reducible rfl))
      case ar6 =>
      try simp only [Act.put, List.setIfInBounds_toArray, List.set_cons_zero, List.set_cons_succ]
      refine wpAnyH_ready (rs := [7]) (by kernel_rfl) (by simp) ?_
      refine AllReadyH.cons (o := { dst := some 74, op := Go.Op.call { callee := Go.Callee.builtin Go.Builtin.copy, args := #[Go.Operand.tmp 70, Go.Operand.tmp 73], argTypes := #[44, 44] }, type := 3, pos := "bytes.go:672", after := #[{ on := 3, ground := Go.Ground.data }, { on := 6, ground := Go.Ground.data }], guard := none }) rfl (fun K hK => ?_) (AllReadyH.nil)
      simp only [Region.wanted, if_true]
      refine op_copy_fill (.tmp 70) (.tmp 73) rfl (g := w.heap.size) (k := k) (m := k) (c1 := 32 - k) (c2 := 32) (n := q) (ad := ⟨w.heap.size, 0, none⟩) rfl rfl HQ.out HSR.out (by omega) HFk.out.drew ?_
      intro w3 hf3 ht3
      refine hK.out _ _ ?_ (fun hHeld => ?_)
      · exact anyW _
      clear hK K
      try simp only [Act.put, List.setIfInBounds_toArray, List.set_cons_zero, List.set_cons_succ]
      refine wpAnyH_take (i := 8) (oi := { dst := some 75, op := Go.Op.binOp Go.BinOp.add 3 (Go.Operand.tmp 67) (Go.Operand.tmp 74) 3, type := 3, pos := "bytes.go:672", after := #[{ on := 0, ground := Go.Ground.data }, { on := 7, ground := Go.Ground.data }], guard := none }) (v := ?a_7v8) rfl (by kernel_rfl) (by kernel_rfl) (by kernel_rfl) (fun _ _ _ h => h) (Or.inl ⟨by rfl, ?a_7y8⟩) (by assumption) ?a_7r8
      case a_7y8 => (intro w hSw; (try dsimp only at hSw); go_simp; try (with_reducible rfl))
      case a_7r8 =>
      try simp only [Act.put, List.setIfInBounds_toArray, List.set_cons_zero, List.set_cons_succ]
      refine wpAnyH_take (i := 9) (oi := { dst := some 10, op := Go.Op.assign (Go.Operand.tmp 75), type := 3, pos := "bytes.go:672", after := #[{ on := 8, ground := Go.Ground.data }, { on := 7, ground := Go.Ground.chain }, { on := 0, ground := Go.Ground.phase }, { on := 1, ground := Go.Ground.phase }, { on := 2, ground := Go.Ground.phase }, { on := 3, ground := Go.Ground.phase }, { on := 4, ground := Go.Ground.phase }, { on := 5, ground := Go.Ground.phase }, { on := 6, ground := Go.Ground.phase }, { on := 7, ground := Go.Ground.phase }, { on := 8, ground := Go.Ground.phase }], guard := none }) (v := ?a_7v9) rfl (by kernel_rfl) (by kernel_rfl) (by kernel_rfl) (fun _ _ _ h => h) (Or.inl ⟨by rfl, ?a_7y9⟩) (by assumption) ?a_7r9
      case a_7y9 => (intro w hSw; (try dsimp only at hSw); go_simp; try (with_reducible rfl))
      case a_7r9 =>
      try simp only [Act.put, List.setIfInBounds_toArray, List.set_cons_zero, List.set_cons_succ]
      refine wpAnyH_done (by kernel_rfl) ?_ _
      have hb3 : Below w.heap.size w w3 := (below_drewN HBk.out 1).trans (ht3.below_of (B := w.heap.size) HBk.out.size (fun i hi e => by omega))
      have HF3 := Lib.hid hf3
      have HB3 := Lib.hid hb3
      clear hf3 ht3 hb3 hHeld
      go_wp2_with fail
      refine ⟨⟨k + q, by omega, by omega, by go_num, HF3.out, HB3.out⟩, by simp [intOf]; omega⟩
    · obtain rfl : k = 32 := by omega
      have HFk := Lib.hid hf
      have HBk := Lib.hid hb
      clear hf hb
      go_wp2_with fail
      go_ret
      exact ⟨rfl, HFk.out, HBk.out⟩

theorem num_max : num (top - 1) = List.replicate 32 255 := by
  apply List.ext_getElem?
  intro i
  by_cases hi : i < 32
  · rw [num_at _ hi, dg_max i hi, List.getElem?_replicate, if_pos hi]
    rfl
  · rw [List.getElem?_eq_none (by rw [num_length]; omega), List.getElem?_eq_none (by rw [List.length_replicate]; omega)]
set_option maxRecDepth 100000 in
set_option maxHeartbeats 3200000 in
theorem great_any (w : World) : Calls Tryd.prog 32 #[] w fun e w' => e = .returned (numV (top - 1)) ∧ Below w.heap.size w w' := by
  have hZ := zero_row w 24
  have hm : ((w.alloc (.cells zeroA 24)).alloc (.cells #[.int .u8 255] 5)).cell? ⟨w.heap.size + 1, 0, none⟩ = some (.int .u8 255) := by
    have h := Boxed.new (w.alloc (.cells zeroA 24)) 5 (.int .u8 255)
    rw [World.size_alloc] at h
    exact h.cell
  obtain ⟨W, hW⟩ : ∃ W, W = (w.alloc (.cells zeroA 24)).alloc (.cells #[.int .u8 255] 5) := ⟨_, rfl⟩
  have hB : Below w.heap.size w W := by rw [hW]; exact ((Below.refl _ w).alloc (Nat.le_refl _) _).alloc (by simp) _
  have hZ2 : IRow W w.heap.size 24 .u8 (num 0) := by rw [hW]; exact hZ.alloc _
  have hs : W.heap.size = w.heap.size + 2 := by rw [hW]; simp
  rw [← hW] at hm
  have C := Lib.hid (repeat_any (w.heap.size + 1) W (by omega) hm)
  have HZ := Lib.hid hZ2
  have HB := Lib.hid hB
  have HW := Lib.hid hW
  have HS := Lib.hid hs
  unfold numV
  clear hZ hm hW hB hZ2 hs
  go_enter Tryd.func32, Tryd.ntmps32
  go_wp2_with fail
  have C2 := C.out
  rw [HW.out] at C2
  refine C2.mono ?_
  rw [← HW.out]
  rintro e w2 ⟨rfl, hf2, hb2⟩
  have hq : IRow w2 w.heap.size 24 .u8 (num 0) := HZ.out.below hb2 (by have := HS.out; omega)
  have hrg : w2.rangeAt W.heap.size 0 ((num (top - 1)).map (Value.int .u8)) := fun j v hv => by
    have hj : j < 32 := by have := (List.getElem?_eq_some_iff.1 hv).1; rwa [List.length_map, num_length] at this
    rw [num_max, List.getElem?_map, List.getElem?_replicate, if_pos hj] at hv
    rw [← Option.some.inj hv, Nat.zero_add]
    exact hf2.cell hj
  have Q := Lib.hid hq
  have QR := Lib.hid hrg
  have QF := Lib.hid (setRow_irow (ys := num (top - 1)) hq)
  have HB3 := Lib.hid (below_setRow (g := w.heap.size) (HB.out.trans (hb2.mono HB.out.size)) (Nat.le_refl _) (numA (top - 1)))
  have hab : ∀ (U : World) (g : Nat), (Instr.arrayAt 24 (.slice (some ⟨g, 0, none⟩) 32 32)).run Tryd.prog U = .ok (.pointer (some ⟨g, 0, none⟩)) U := fun U g => by kernel_rfl
  clear hq hrg hf2 hb2 C2
  go_wp2_with (first
    | (refine wpList_load_mid rfl 24 (.tmp 3) rfl W.heap.size 0 rfl ((num (top - 1)).map (Value.int .u8)) _ QR.out Tryd.underlying24 rfl (by rw [List.length_map]; exact size_numN _) ?_)
    | (refine wpList_store_irow rfl 24 (.tmp 0) (.tmp 4) rfl (g := w.heap.size) (t := 24) (k := .u8) (xs := num 0) (ys := num (top - 1)) rfl rfl Q.out (size_numN _) (same_length _ _) ?_))
  refine bodyPost_ret (v := numV (top - 1)) ?_ rfl ⟨rfl, HB3.out⟩
  exact results_cell_row Tryd.results32 _ _ w.heap.size 24 (numA (top - 1)) (0, 0) _ rfl QF.out Tryd.underlying24 rfl (size_numNA _)
theorem add_any (a b : Nat) (w : World) (ha : a < top) (hb : b < top) :
    Calls Tryd.prog 15 #[numV a, numV b] w fun e w' => e = .returned (numV (sumN a b)) ∧ Below w.heap.size w w' :=
  (callsIn_wide (n := 3)).1 (add_in great_any a b w ha hb)
end Go.Proofs.YtgkocmljnoambaaDoor
