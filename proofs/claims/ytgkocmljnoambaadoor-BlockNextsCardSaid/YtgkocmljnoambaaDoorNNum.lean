/-
  The law on numbers. Conditions: none.
-/
import Derived.Test.YtgkocmljnoambaaDoorNAwk
namespace Go.Proofs.YtgkocmljnoambaaDoor
open Go.RowKit

set_option maxRecDepth 100000 in
set_option maxHeartbeats 6400000 in
theorem numbers_law (a b : Nat) (w : World) (ha : a < top) (hb : b < top) :
    Calls Tryd.prog 4 #[numV a, numV b] w fun e w' => e = .returned (.bool true) ∧ Below w.heap.size w w' := by
  obtain ⟨W, hW, qa, qb, bA, hs⟩ := boxes2n w 24 a b
  obtain ⟨B, hB⟩ : ∃ B, B = w.heap.size := ⟨_, rfl⟩
  rw [← hB] at qa qb
  obtain ⟨n, hn⟩ : ∃ n, n = sumN a b := ⟨_, rfl⟩
  have HA := Lib.hid (fun W => add_any a b W ha hb)
  have HS := Lib.hid (fun W => sum_any a b W ha hb)
  have HAB := Lib.hid (fun W => add_any b a W hb ha)
  rw [sumN_comm b a, ← hn] at HAB
  rw [← hn] at HA HS
  have hnt : n < top := by rw [hn]; exact sumN_lt a b
  have heq : ∀ U, (Op.equalIn 10000 24 (.agg (numA n)) (.agg (numA n))).run Tryd.prog U = .ok true U := fun U => by
    have h := eq_num_at 24 Tryd.underlying24 hnt hnt U
    rw [decide_eq_true rfl] at h
    exact h
  have HAT := Lib.hid ha
  have HBT := Lib.hid hb
  have HW := Lib.hid hW
  have CA := Lib.hid (awake_any W)
  have QA := Lib.hid qa
  have QB := Lib.hid qb
  have HB := Lib.hid bA
  have HBB := Lib.hid hB
  clear hW qa qb bA hs hB hn ha hb hnt
  unfold numV at HA HS HAB ⊢
  go_enter Tryd.func4, Tryd.ntmps4
  go_wp2_with fail
  rw [HW.out, ← HBB.out]
  refine CA.out.mono ?_
  rintro e w1 ⟨rfl, hb⟩
  have qa := QA.out.below hb QA.out.lt
  have qb := QB.out.below hb QB.out.lt
  have bb := HB.out.trans (hb.mono HB.out.size)
  clear QA QB HB hb CA HW
  have QA := Lib.hid qa
  have QB := Lib.hid qb
  have HB := Lib.hid bb
  clear qa qb bb
  by_cases hlt : a < b
  · have L1 := Lib.hid (fun W => less_any a b W HAT.out HBT.out)
    rw [show decide (a < b) = true from decide_eq_true hlt] at L1
    have L2 := Lib.hid (fun W => less_any b a W HBT.out HAT.out)
    rw [show decide (b < a) = false from decide_eq_false (by omega)] at L2
    have HC := Lib.hid (fun W => cmp_any a b W HAT.out HBT.out)
    rw [show cmpN a b = -1 by unfold cmpN; rw [if_pos hlt]] at HC
    clear hlt
    unfold numV at L1 L2 HC
    go_wp2_with (first
      | (refine wpList_load_irow rfl 24 (.tmp 2) rfl (g := B) (t := 24) (k := .u8) (xs := num a) rfl QA.out Tryd.underlying24 (size_numN a) ?_)
      | (refine wpList_load_irow rfl 24 (.tmp 3) rfl (g := B + 1) (t := 24) (k := .u8) (xs := num b) rfl QB.out Tryd.underlying24 (size_numN b) ?_))
    refine (L1.out _).mono ?_
    rintro e w2 ⟨rfl, hb⟩
    have qa := QA.out.below hb QA.out.lt
    have qb := QB.out.below hb QB.out.lt
    have bb := HB.out.trans (hb.mono HB.out.size)
    clear QA QB HB hb
    have QA := Lib.hid qa
    have QB := Lib.hid qb
    have HB := Lib.hid bb
    clear qa qb bb
    go_wp2_with (first
      | (refine wpList_load_irow rfl 24 (.tmp 2) rfl (g := B) (t := 24) (k := .u8) (xs := num a) rfl QA.out Tryd.underlying24 (size_numN a) ?_)
      | (refine wpList_load_irow rfl 24 (.tmp 3) rfl (g := B + 1) (t := 24) (k := .u8) (xs := num b) rfl QB.out Tryd.underlying24 (size_numN b) ?_))
    refine (L2.out _).mono ?_
    rintro e w3 ⟨rfl, hb⟩
    have qa := QA.out.below hb QA.out.lt
    have qb := QB.out.below hb QB.out.lt
    have bb := HB.out.trans (hb.mono HB.out.size)
    clear QA QB HB hb
    have QA := Lib.hid qa
    have QB := Lib.hid qb
    have HB := Lib.hid bb
    clear qa qb bb
    go_upto_region 8 with fail
    refine wp_region_held_drew (S := (fun w' => IRow w' B 24 .u8 (num a) ∧ IRow w' (B + 1) 24 .u8 (num b) ∧ Below w.heap.size w w')) (by kernel_rfl) ?_ (fun hHeld => ?_)
    · exact ⟨QA.out.drew, QB.out.drew, below_drewN HB.out 1⟩
    refine wpAnyH_take (i := 0) (oi := { dst := some 14, op := Go.Op.load 24 (Go.Operand.tmp 2), type := 24, pos := "law.go:131", after := #[], guard := none }) (v := (.agg ((num a).map (Value.int .u8)).toArray)) rfl (by kernel_rfl) (by kernel_rfl) (by kernel_rfl) (fun _ _ _ h => h) (yieldsIf_load_mid (by rfl) 24 (.tmp 2) rfl B 0 rfl ((num a).map (Value.int .u8)) _ (fun w' h => h.1.range) Tryd.underlying24 rfl (by rw [List.length_map]; exact size_numN a)) (by assumption) ?_
    try simp only [Act.put, List.setIfInBounds_toArray, List.set_cons_zero, List.set_cons_succ]
    refine wpAnyH_take (i := 1) (oi := { dst := some 15, op := Go.Op.load 24 (Go.Operand.tmp 3), type := 24, pos := "law.go:131", after := #[], guard := none }) (v := (.agg ((num b).map (Value.int .u8)).toArray)) rfl (by kernel_rfl) (by kernel_rfl) (by kernel_rfl) (fun _ _ _ h => h) (yieldsIf_load_mid (by rfl) 24 (.tmp 3) rfl (B + 1) 0 rfl ((num b).map (Value.int .u8)) _ (fun w' h => h.2.1.range) Tryd.underlying24 rfl (by rw [List.length_map]; exact size_numN b)) (by assumption) ?_
    try simp only [Act.put, List.setIfInBounds_toArray, List.set_cons_zero, List.set_cons_succ]
    refine wpAnyH_take (i := 3) (oi := { dst := some 17, op := Go.Op.move (Go.Operand.tmp 5), type := 3, pos := "law.go:131", after := #[], guard := none }) (v := ?av3) rfl (by kernel_rfl) (by kernel_rfl) (by kernel_rfl) (fun _ _ _ h => h) (Or.inl ⟨by rfl, ?ay3⟩) (by assumption) ?ar3
    case ay3 => (intro w hSw; (try dsimp only at hSw); go_simp; try (with_reducible rfl))
    case ar3 =>
    try simp only [Act.put, List.setIfInBounds_toArray, List.set_cons_zero, List.set_cons_succ]
    refine wpAnyH_ready (rs := [2]) (by kernel_rfl) (by simp) ?_
    refine AllReadyH.cons (o := { dst := some 16, op := Go.Op.call { callee := Go.Callee.value (Go.Operand.func 13), args := #[Go.Operand.tmp 14, Go.Operand.tmp 15], argTypes := #[24, 24] }, type := 3, pos := "law.go:131", after := #[{ on := 0, ground := Go.Ground.data }, { on := 1, ground := Go.Ground.data }], guard := none }) rfl (fun K hK => ?_) (AllReadyH.nil)
    go_simp
    refine (HC.out _).mono ?_
    rintro e w4 ⟨rfl, hb4⟩
    go_simp
    refine hK.out _ _ ?_ (fun hHeld => ?_)
    · exact ⟨hHeld.1.below hb4 hHeld.1.lt, hHeld.2.1.below hb4 hHeld.2.1.lt, hHeld.2.2.trans (hb4.mono hHeld.2.2.size)⟩
    clear hK K
    try simp only [Act.put, List.setIfInBounds_toArray, List.set_cons_zero, List.set_cons_succ]
    refine wpAnyH_take (i := 4) (oi := { dst := some 18, op := Go.Op.binOp Go.BinOp.eql 3 (Go.Operand.tmp 16) (Go.Operand.tmp 17) 3, type := 4, pos := "law.go:131", after := #[{ on := 2, ground := Go.Ground.data }, { on := 3, ground := Go.Ground.data }], guard := none }) (v := ?a_2v4) rfl (by kernel_rfl) (by kernel_rfl) (by kernel_rfl) (fun _ _ _ h => h) (Or.inl ⟨by rfl, ?a_2y4⟩) (by assumption) ?a_2r4
    case a_2y4 => (intro w hSw; (try dsimp only at hSw); go_simp; try (with_reducible rfl))
    case a_2r4 =>
    try simp only [Act.put, List.setIfInBounds_toArray, List.set_cons_zero, List.set_cons_succ]
    refine wpAnyH_take (i := 5) (oi := { dst := some 19, op := Go.Op.move (Go.Operand.tmp 18), type := 4, pos := "law.go:131", after := #[{ on := 4, ground := Go.Ground.data }, { on := 2, ground := Go.Ground.chain }], guard := none }) (v := ?a_2v5) rfl (by kernel_rfl) (by kernel_rfl) (by kernel_rfl) (fun _ _ _ h => h) (Or.inl ⟨by rfl, ?a_2y5⟩) (by assumption) ?a_2r5
    case a_2y5 => (intro w hSw; (try dsimp only at hSw); go_simp; try (with_reducible rfl))
    case a_2r5 =>
    try simp only [Act.put, List.setIfInBounds_toArray, List.set_cons_zero, List.set_cons_succ]
    refine wpAnyH_take (i := 6) (oi := { dst := some 20, op := Go.Op.load 24 (Go.Operand.tmp 2), type := 24, pos := "law.go:131", after := #[{ on := 5, ground := Go.Ground.guard }], guard := some (5, true) }) (v := (.agg ((num a).map (Value.int .u8)).toArray)) rfl (by kernel_rfl) (by kernel_rfl) (by kernel_rfl) (fun _ _ _ h => h) (yieldsIf_load_mid (by rfl) 24 (.tmp 2) rfl B 0 rfl ((num a).map (Value.int .u8)) _ (fun w' h => h.1.range) Tryd.underlying24 rfl (by rw [List.length_map]; exact size_numN a)) (by assumption) ?_
    try simp only [Act.put, List.setIfInBounds_toArray, List.set_cons_zero, List.set_cons_succ]
    refine wpAnyH_take (i := 7) (oi := { dst := some 21, op := Go.Op.load 24 (Go.Operand.tmp 3), type := 24, pos := "law.go:131", after := #[{ on := 5, ground := Go.Ground.guard }], guard := some (5, true) }) (v := (.agg ((num b).map (Value.int .u8)).toArray)) rfl (by kernel_rfl) (by kernel_rfl) (by kernel_rfl) (fun _ _ _ h => h) (yieldsIf_load_mid (by rfl) 24 (.tmp 3) rfl (B + 1) 0 rfl ((num b).map (Value.int .u8)) _ (fun w' h => h.2.1.range) Tryd.underlying24 rfl (by rw [List.length_map]; exact size_numN b)) (by assumption) ?_
    try simp only [Act.put, List.setIfInBounds_toArray, List.set_cons_zero, List.set_cons_succ]
    refine wpAnyH_take (i := 9) (oi := { dst := some 23, op := Go.Op.load 24 (Go.Operand.tmp 2), type := 24, pos := "law.go:131", after := #[{ on := 5, ground := Go.Ground.guard }], guard := some (5, true) }) (v := (.agg ((num a).map (Value.int .u8)).toArray)) rfl (by kernel_rfl) (by kernel_rfl) (by kernel_rfl) (fun _ _ _ h => h) (yieldsIf_load_mid (by rfl) 24 (.tmp 2) rfl B 0 rfl ((num a).map (Value.int .u8)) _ (fun w' h => h.1.range) Tryd.underlying24 rfl (by rw [List.length_map]; exact size_numN a)) (by assumption) ?_
    try simp only [Act.put, List.setIfInBounds_toArray, List.set_cons_zero, List.set_cons_succ]
    refine wpAnyH_take (i := 10) (oi := { dst := some 24, op := Go.Op.load 24 (Go.Operand.tmp 3), type := 24, pos := "law.go:131", after := #[{ on := 5, ground := Go.Ground.guard }], guard := some (5, true) }) (v := (.agg ((num b).map (Value.int .u8)).toArray)) rfl (by kernel_rfl) (by kernel_rfl) (by kernel_rfl) (fun _ _ _ h => h) (yieldsIf_load_mid (by rfl) 24 (.tmp 3) rfl (B + 1) 0 rfl ((num b).map (Value.int .u8)) _ (fun w' h => h.2.1.range) Tryd.underlying24 rfl (by rw [List.length_map]; exact size_numN b)) (by assumption) ?_
    try simp only [Act.put, List.setIfInBounds_toArray, List.set_cons_zero, List.set_cons_succ]
    refine wpAnyH_ready (rs := [8]) (by kernel_rfl) (by simp) ?_
    refine AllReadyH.cons (o := { dst := some 22, op := Go.Op.call { callee := Go.Callee.value (Go.Operand.func 15), args := #[Go.Operand.tmp 20, Go.Operand.tmp 21], argTypes := #[24, 24] }, type := 24, pos := "law.go:131", after := #[{ on := 6, ground := Go.Ground.data }, { on := 7, ground := Go.Ground.data }, { on := 5, ground := Go.Ground.chain }, { on := 5, ground := Go.Ground.guard }], guard := some (5, true) }) rfl (fun K hK => ?_) (AllReadyH.nil)
    go_simp
    refine (HA.out _).mono ?_
    rintro e w4 ⟨rfl, hb4⟩
    go_simp
    refine hK.out _ _ ?_ (fun hHeld => ?_)
    · exact ⟨hHeld.1.below hb4 hHeld.1.lt, hHeld.2.1.below hb4 hHeld.2.1.lt, hHeld.2.2.trans (hb4.mono hHeld.2.2.size)⟩
    clear hK K
    try simp only [Act.put, List.setIfInBounds_toArray, List.set_cons_zero, List.set_cons_succ]
    refine wpAnyH_ready (rs := [11]) (by kernel_rfl) (by simp) ?_
    refine AllReadyH.cons (o := { dst := some 25, op := Go.Op.call { callee := Go.Callee.value (Go.Operand.func 16), args := #[Go.Operand.tmp 23, Go.Operand.tmp 24], argTypes := #[23, 23] }, type := 23, pos := "law.go:131", after := #[{ on := 9, ground := Go.Ground.data }, { on := 10, ground := Go.Ground.data }, { on := 8, ground := Go.Ground.chain }, { on := 5, ground := Go.Ground.guard }], guard := some (5, true) }) rfl (fun K hK => ?_) (AllReadyH.nil)
    go_simp
    refine (HS.out _).mono ?_
    rintro e w4 ⟨rfl, hb4⟩
    go_simp
    refine hK.out _ _ ?_ (fun hHeld => ?_)
    · exact ⟨hHeld.1.below hb4 hHeld.1.lt, hHeld.2.1.below hb4 hHeld.2.1.lt, hHeld.2.2.trans (hb4.mono hHeld.2.2.size)⟩
    clear hK K
    try simp only [Act.put, List.setIfInBounds_toArray, List.set_cons_zero, List.set_cons_succ]
    refine wpAnyH_take (i := 12) (oi := { dst := some 26, op := Go.Op.binOp Go.BinOp.eql 24 (Go.Operand.tmp 22) (Go.Operand.tmp 25) 24, type := 4, pos := "law.go:131", after := #[{ on := 8, ground := Go.Ground.data }, { on := 11, ground := Go.Ground.data }, { on := 5, ground := Go.Ground.guard }], guard := some (5, true) }) (v := ?a_2_8_11v12) rfl (by kernel_rfl) (by kernel_rfl) (by kernel_rfl) (fun _ _ _ h => h) (Or.inl ⟨by rfl, ?a_2_8_11y12⟩) (by assumption) ?a_2_8_11r12
    case a_2_8_11y12 => (intro w hSw; (try dsimp only at hSw); go_simp; try (with_reducible rfl))
    case a_2_8_11r12 =>
    try simp only [Act.put, List.setIfInBounds_toArray, List.set_cons_zero, List.set_cons_succ]
    refine wpAnyH_take (i := 13) (oi := { dst := some 27, op := Go.Op.pick (Go.Operand.tmp 19) (Go.Operand.tmp 26) (Go.Operand.const (Go.Value.bool false)), type := 4, pos := "law.go:131", after := #[{ on := 5, ground := Go.Ground.data }, { on := 12, ground := Go.Ground.data }], guard := none }) (v := ?a_2_8_11v13) rfl (by kernel_rfl) (by kernel_rfl) (by kernel_rfl) (fun _ _ _ h => h) (Or.inl ⟨by rfl, ?a_2_8_11y13⟩) (by assumption) ?a_2_8_11r13
    case a_2_8_11y13 => (intro w hSw; (try dsimp only at hSw); go_simp; try (with_reducible rfl))
    case a_2_8_11r13 =>
    try simp only [Act.put, List.setIfInBounds_toArray, List.set_cons_zero, List.set_cons_succ]
    refine wpAnyH_take (i := 14) (oi := { dst := some 28, op := Go.Op.move (Go.Operand.tmp 27), type := 4, pos := "law.go:131", after := #[{ on := 13, ground := Go.Ground.data }, { on := 11, ground := Go.Ground.chain }], guard := none }) (v := ?a_2_8_11v14) rfl (by kernel_rfl) (by kernel_rfl) (by kernel_rfl) (fun _ _ _ h => h) (Or.inl ⟨by rfl, ?a_2_8_11y14⟩) (by assumption) ?a_2_8_11r14
    case a_2_8_11y14 => (intro w hSw; (try dsimp only at hSw); go_simp; try (with_reducible rfl))
    case a_2_8_11r14 =>
    try simp only [Act.put, List.setIfInBounds_toArray, List.set_cons_zero, List.set_cons_succ]
    refine wpAnyH_take (i := 15) (oi := { dst := some 29, op := Go.Op.load 24 (Go.Operand.tmp 3), type := 24, pos := "law.go:131", after := #[{ on := 14, ground := Go.Ground.guard }], guard := some (14, true) }) (v := (.agg ((num b).map (Value.int .u8)).toArray)) rfl (by kernel_rfl) (by kernel_rfl) (by kernel_rfl) (fun _ _ _ h => h) (yieldsIf_load_mid (by rfl) 24 (.tmp 3) rfl (B + 1) 0 rfl ((num b).map (Value.int .u8)) _ (fun w' h => h.2.1.range) Tryd.underlying24 rfl (by rw [List.length_map]; exact size_numN b)) (by assumption) ?_
    try simp only [Act.put, List.setIfInBounds_toArray, List.set_cons_zero, List.set_cons_succ]
    refine wpAnyH_take (i := 16) (oi := { dst := some 30, op := Go.Op.load 24 (Go.Operand.tmp 2), type := 24, pos := "law.go:131", after := #[{ on := 14, ground := Go.Ground.guard }], guard := some (14, true) }) (v := (.agg ((num a).map (Value.int .u8)).toArray)) rfl (by kernel_rfl) (by kernel_rfl) (by kernel_rfl) (fun _ _ _ h => h) (yieldsIf_load_mid (by rfl) 24 (.tmp 2) rfl B 0 rfl ((num a).map (Value.int .u8)) _ (fun w' h => h.1.range) Tryd.underlying24 rfl (by rw [List.length_map]; exact size_numN a)) (by assumption) ?_
    try simp only [Act.put, List.setIfInBounds_toArray, List.set_cons_zero, List.set_cons_succ]
    refine wpAnyH_take (i := 18) (oi := { dst := some 32, op := Go.Op.load 24 (Go.Operand.tmp 2), type := 24, pos := "law.go:131", after := #[{ on := 14, ground := Go.Ground.guard }], guard := some (14, true) }) (v := (.agg ((num a).map (Value.int .u8)).toArray)) rfl (by kernel_rfl) (by kernel_rfl) (by kernel_rfl) (fun _ _ _ h => h) (yieldsIf_load_mid (by rfl) 24 (.tmp 2) rfl B 0 rfl ((num a).map (Value.int .u8)) _ (fun w' h => h.1.range) Tryd.underlying24 rfl (by rw [List.length_map]; exact size_numN a)) (by assumption) ?_
    try simp only [Act.put, List.setIfInBounds_toArray, List.set_cons_zero, List.set_cons_succ]
    refine wpAnyH_take (i := 19) (oi := { dst := some 33, op := Go.Op.load 24 (Go.Operand.tmp 3), type := 24, pos := "law.go:131", after := #[{ on := 14, ground := Go.Ground.guard }], guard := some (14, true) }) (v := (.agg ((num b).map (Value.int .u8)).toArray)) rfl (by kernel_rfl) (by kernel_rfl) (by kernel_rfl) (fun _ _ _ h => h) (yieldsIf_load_mid (by rfl) 24 (.tmp 3) rfl (B + 1) 0 rfl ((num b).map (Value.int .u8)) _ (fun w' h => h.2.1.range) Tryd.underlying24 rfl (by rw [List.length_map]; exact size_numN b)) (by assumption) ?_
    try simp only [Act.put, List.setIfInBounds_toArray, List.set_cons_zero, List.set_cons_succ]
    refine wpAnyH_ready (rs := [17]) (by kernel_rfl) (by simp) ?_
    refine AllReadyH.cons (o := { dst := some 31, op := Go.Op.call { callee := Go.Callee.value (Go.Operand.func 15), args := #[Go.Operand.tmp 29, Go.Operand.tmp 30], argTypes := #[24, 24] }, type := 24, pos := "law.go:131", after := #[{ on := 15, ground := Go.Ground.data }, { on := 16, ground := Go.Ground.data }, { on := 14, ground := Go.Ground.chain }, { on := 14, ground := Go.Ground.guard }], guard := some (14, true) }) rfl (fun K hK => ?_) (AllReadyH.nil)
    go_simp
    refine (HAB.out _).mono ?_
    rintro e w4 ⟨rfl, hb4⟩
    go_simp
    refine hK.out _ _ ?_ (fun hHeld => ?_)
    · exact ⟨hHeld.1.below hb4 hHeld.1.lt, hHeld.2.1.below hb4 hHeld.2.1.lt, hHeld.2.2.trans (hb4.mono hHeld.2.2.size)⟩
    clear hK K
    try simp only [Act.put, List.setIfInBounds_toArray, List.set_cons_zero, List.set_cons_succ]
    refine wpAnyH_ready (rs := [20]) (by kernel_rfl) (by simp) ?_
    refine AllReadyH.cons (o := { dst := some 34, op := Go.Op.call { callee := Go.Callee.value (Go.Operand.func 15), args := #[Go.Operand.tmp 32, Go.Operand.tmp 33], argTypes := #[24, 24] }, type := 24, pos := "law.go:131", after := #[{ on := 18, ground := Go.Ground.data }, { on := 19, ground := Go.Ground.data }, { on := 17, ground := Go.Ground.chain }, { on := 14, ground := Go.Ground.guard }], guard := some (14, true) }) rfl (fun K hK => ?_) (AllReadyH.nil)
    go_simp
    refine (HA.out _).mono ?_
    rintro e w4 ⟨rfl, hb4⟩
    go_simp
    refine hK.out _ _ ?_ (fun hHeld => ?_)
    · exact ⟨hHeld.1.below hb4 hHeld.1.lt, hHeld.2.1.below hb4 hHeld.2.1.lt, hHeld.2.2.trans (hb4.mono hHeld.2.2.size)⟩
    clear hK K
    try simp only [Act.put, List.setIfInBounds_toArray, List.set_cons_zero, List.set_cons_succ]
    refine wpAnyH_take (i := 21) (oi := { dst := some 35, op := Go.Op.binOp Go.BinOp.eql 24 (Go.Operand.tmp 31) (Go.Operand.tmp 34) 24, type := 4, pos := "law.go:131", after := #[{ on := 17, ground := Go.Ground.data }, { on := 20, ground := Go.Ground.data }, { on := 14, ground := Go.Ground.guard }], guard := some (14, true) }) (v := ?a_2_8_11_17_20v21) rfl (by kernel_rfl) (by kernel_rfl) (by kernel_rfl) (fun _ _ _ h => h) (Or.inl ⟨by rfl, ?a_2_8_11_17_20y21⟩) (by assumption) ?a_2_8_11_17_20r21
    case a_2_8_11_17_20y21 => (intro w hSw; (try dsimp only at hSw); go_simp; try (with_reducible rfl))
    case a_2_8_11_17_20r21 =>
    try simp only [Act.put, List.setIfInBounds_toArray, List.set_cons_zero, List.set_cons_succ]
    refine wpAnyH_take (i := 22) (oi := { dst := some 36, op := Go.Op.pick (Go.Operand.tmp 28) (Go.Operand.tmp 35) (Go.Operand.const (Go.Value.bool false)), type := 4, pos := "law.go:131", after := #[{ on := 14, ground := Go.Ground.data }, { on := 21, ground := Go.Ground.data }], guard := none }) (v := ?a_2_8_11_17_20v22) rfl (by kernel_rfl) (by kernel_rfl) (by kernel_rfl) (fun _ _ _ h => h) (Or.inl ⟨by rfl, ?a_2_8_11_17_20y22⟩) (by assumption) ?a_2_8_11_17_20r22
    case a_2_8_11_17_20y22 => (intro w hSw; (try dsimp only at hSw); go_simp; try (with_reducible rfl))
    case a_2_8_11_17_20r22 =>
    try simp only [Act.put, List.setIfInBounds_toArray, List.set_cons_zero, List.set_cons_succ]
    refine wpAnyH_take (i := 23) (oi := { dst := some 4, op := Go.Op.assign (Go.Operand.tmp 36), type := 4, pos := "law.go:131", after := #[{ on := 22, ground := Go.Ground.data }, { on := 20, ground := Go.Ground.chain }, { on := 0, ground := Go.Ground.phase }, { on := 1, ground := Go.Ground.phase }, { on := 2, ground := Go.Ground.phase }, { on := 3, ground := Go.Ground.phase }, { on := 4, ground := Go.Ground.phase }, { on := 5, ground := Go.Ground.phase }, { on := 6, ground := Go.Ground.phase }, { on := 7, ground := Go.Ground.phase }, { on := 8, ground := Go.Ground.phase }, { on := 9, ground := Go.Ground.phase }, { on := 10, ground := Go.Ground.phase }, { on := 11, ground := Go.Ground.phase }, { on := 12, ground := Go.Ground.phase }, { on := 13, ground := Go.Ground.phase }, { on := 14, ground := Go.Ground.phase }, { on := 15, ground := Go.Ground.phase }, { on := 16, ground := Go.Ground.phase }, { on := 17, ground := Go.Ground.phase }, { on := 18, ground := Go.Ground.phase }, { on := 19, ground := Go.Ground.phase }, { on := 20, ground := Go.Ground.phase }, { on := 21, ground := Go.Ground.phase }, { on := 22, ground := Go.Ground.phase }], guard := none }) (v := ?a_2_8_11_17_20v23) rfl (by kernel_rfl) (by kernel_rfl) (by kernel_rfl) (fun _ _ _ h => h) (Or.inl ⟨by rfl, ?a_2_8_11_17_20y23⟩) (by assumption) ?a_2_8_11_17_20r23
    case a_2_8_11_17_20y23 => (intro w hSw; (try dsimp only at hSw); go_simp; try (with_reducible rfl))
    case a_2_8_11_17_20r23 =>
    try simp only [Act.put, List.setIfInBounds_toArray, List.set_cons_zero, List.set_cons_succ]
    refine wpAnyH_done (by kernel_rfl) ?_ _
    have HF := Lib.hid hHeld.2.2
    clear hHeld
    go_wp2_with fail
    go_ret
    exact ⟨rfl, HF.out⟩
  · by_cases hgt : b < a
    · have L1 := Lib.hid (fun W => less_any a b W HAT.out HBT.out)
      rw [show decide (a < b) = false from decide_eq_false (by omega)] at L1
      have L2 := Lib.hid (fun W => less_any b a W HBT.out HAT.out)
      rw [show decide (b < a) = true from decide_eq_true hgt] at L2
      have HC := Lib.hid (fun W => cmp_any a b W HAT.out HBT.out)
      rw [show cmpN a b = 1 by unfold cmpN; rw [if_neg (by omega), if_pos hgt]] at HC
      clear hgt hlt
      unfold numV at L1 L2 HC
      go_wp2_with (first
        | (refine wpList_load_irow rfl 24 (.tmp 2) rfl (g := B) (t := 24) (k := .u8) (xs := num a) rfl QA.out Tryd.underlying24 (size_numN a) ?_)
        | (refine wpList_load_irow rfl 24 (.tmp 3) rfl (g := B + 1) (t := 24) (k := .u8) (xs := num b) rfl QB.out Tryd.underlying24 (size_numN b) ?_))
      refine (L1.out _).mono ?_
      rintro e w2 ⟨rfl, hb⟩
      have qa := QA.out.below hb QA.out.lt
      have qb := QB.out.below hb QB.out.lt
      have bb := HB.out.trans (hb.mono HB.out.size)
      clear QA QB HB hb
      have QA := Lib.hid qa
      have QB := Lib.hid qb
      have HB := Lib.hid bb
      clear qa qb bb
      go_wp2_with (first
        | (refine wpList_load_irow rfl 24 (.tmp 2) rfl (g := B) (t := 24) (k := .u8) (xs := num a) rfl QA.out Tryd.underlying24 (size_numN a) ?_)
        | (refine wpList_load_irow rfl 24 (.tmp 3) rfl (g := B + 1) (t := 24) (k := .u8) (xs := num b) rfl QB.out Tryd.underlying24 (size_numN b) ?_))
      refine (L2.out _).mono ?_
      rintro e w3 ⟨rfl, hb⟩
      have qa := QA.out.below hb QA.out.lt
      have qb := QB.out.below hb QB.out.lt
      have bb := HB.out.trans (hb.mono HB.out.size)
      clear QA QB HB hb
      have QA := Lib.hid qa
      have QB := Lib.hid qb
      have HB := Lib.hid bb
      clear qa qb bb
      go_upto_region 8 with fail
      refine wp_region_held_drew (S := (fun w' => IRow w' B 24 .u8 (num a) ∧ IRow w' (B + 1) 24 .u8 (num b) ∧ Below w.heap.size w w')) (by kernel_rfl) ?_ (fun hHeld => ?_)
      · exact ⟨QA.out.drew, QB.out.drew, below_drewN HB.out 1⟩
      refine wpAnyH_take (i := 0) (oi := { dst := some 14, op := Go.Op.load 24 (Go.Operand.tmp 2), type := 24, pos := "law.go:131", after := #[], guard := none }) (v := (.agg ((num a).map (Value.int .u8)).toArray)) rfl (by kernel_rfl) (by kernel_rfl) (by kernel_rfl) (fun _ _ _ h => h) (yieldsIf_load_mid (by rfl) 24 (.tmp 2) rfl B 0 rfl ((num a).map (Value.int .u8)) _ (fun w' h => h.1.range) Tryd.underlying24 rfl (by rw [List.length_map]; exact size_numN a)) (by assumption) ?_
      try simp only [Act.put, List.setIfInBounds_toArray, List.set_cons_zero, List.set_cons_succ]
      refine wpAnyH_take (i := 1) (oi := { dst := some 15, op := Go.Op.load 24 (Go.Operand.tmp 3), type := 24, pos := "law.go:131", after := #[], guard := none }) (v := (.agg ((num b).map (Value.int .u8)).toArray)) rfl (by kernel_rfl) (by kernel_rfl) (by kernel_rfl) (fun _ _ _ h => h) (yieldsIf_load_mid (by rfl) 24 (.tmp 3) rfl (B + 1) 0 rfl ((num b).map (Value.int .u8)) _ (fun w' h => h.2.1.range) Tryd.underlying24 rfl (by rw [List.length_map]; exact size_numN b)) (by assumption) ?_
      try simp only [Act.put, List.setIfInBounds_toArray, List.set_cons_zero, List.set_cons_succ]
      refine wpAnyH_take (i := 3) (oi := { dst := some 17, op := Go.Op.move (Go.Operand.tmp 5), type := 3, pos := "law.go:131", after := #[], guard := none }) (v := ?bv3) rfl (by kernel_rfl) (by kernel_rfl) (by kernel_rfl) (fun _ _ _ h => h) (Or.inl ⟨by rfl, ?by3⟩) (by assumption) ?br3
      case by3 => (intro w hSw; (try dsimp only at hSw); go_simp; try (with_reducible rfl))
      case br3 =>
      try simp only [Act.put, List.setIfInBounds_toArray, List.set_cons_zero, List.set_cons_succ]
      refine wpAnyH_ready (rs := [2]) (by kernel_rfl) (by simp) ?_
      refine AllReadyH.cons (o := { dst := some 16, op := Go.Op.call { callee := Go.Callee.value (Go.Operand.func 13), args := #[Go.Operand.tmp 14, Go.Operand.tmp 15], argTypes := #[24, 24] }, type := 3, pos := "law.go:131", after := #[{ on := 0, ground := Go.Ground.data }, { on := 1, ground := Go.Ground.data }], guard := none }) rfl (fun K hK => ?_) (AllReadyH.nil)
      go_simp
      refine (HC.out _).mono ?_
      rintro e w4 ⟨rfl, hb4⟩
      go_simp
      refine hK.out _ _ ?_ (fun hHeld => ?_)
      · exact ⟨hHeld.1.below hb4 hHeld.1.lt, hHeld.2.1.below hb4 hHeld.2.1.lt, hHeld.2.2.trans (hb4.mono hHeld.2.2.size)⟩
      clear hK K
      try simp only [Act.put, List.setIfInBounds_toArray, List.set_cons_zero, List.set_cons_succ]
      refine wpAnyH_take (i := 4) (oi := { dst := some 18, op := Go.Op.binOp Go.BinOp.eql 3 (Go.Operand.tmp 16) (Go.Operand.tmp 17) 3, type := 4, pos := "law.go:131", after := #[{ on := 2, ground := Go.Ground.data }, { on := 3, ground := Go.Ground.data }], guard := none }) (v := ?b_2v4) rfl (by kernel_rfl) (by kernel_rfl) (by kernel_rfl) (fun _ _ _ h => h) (Or.inl ⟨by rfl, ?b_2y4⟩) (by assumption) ?b_2r4
      case b_2y4 => (intro w hSw; (try dsimp only at hSw); go_simp; try (with_reducible rfl))
      case b_2r4 =>
      try simp only [Act.put, List.setIfInBounds_toArray, List.set_cons_zero, List.set_cons_succ]
      refine wpAnyH_take (i := 5) (oi := { dst := some 19, op := Go.Op.move (Go.Operand.tmp 18), type := 4, pos := "law.go:131", after := #[{ on := 4, ground := Go.Ground.data }, { on := 2, ground := Go.Ground.chain }], guard := none }) (v := ?b_2v5) rfl (by kernel_rfl) (by kernel_rfl) (by kernel_rfl) (fun _ _ _ h => h) (Or.inl ⟨by rfl, ?b_2y5⟩) (by assumption) ?b_2r5
      case b_2y5 => (intro w hSw; (try dsimp only at hSw); go_simp; try (with_reducible rfl))
      case b_2r5 =>
      try simp only [Act.put, List.setIfInBounds_toArray, List.set_cons_zero, List.set_cons_succ]
      refine wpAnyH_take (i := 6) (oi := { dst := some 20, op := Go.Op.load 24 (Go.Operand.tmp 2), type := 24, pos := "law.go:131", after := #[{ on := 5, ground := Go.Ground.guard }], guard := some (5, true) }) (v := (.agg ((num a).map (Value.int .u8)).toArray)) rfl (by kernel_rfl) (by kernel_rfl) (by kernel_rfl) (fun _ _ _ h => h) (yieldsIf_load_mid (by rfl) 24 (.tmp 2) rfl B 0 rfl ((num a).map (Value.int .u8)) _ (fun w' h => h.1.range) Tryd.underlying24 rfl (by rw [List.length_map]; exact size_numN a)) (by assumption) ?_
      try simp only [Act.put, List.setIfInBounds_toArray, List.set_cons_zero, List.set_cons_succ]
      refine wpAnyH_take (i := 7) (oi := { dst := some 21, op := Go.Op.load 24 (Go.Operand.tmp 3), type := 24, pos := "law.go:131", after := #[{ on := 5, ground := Go.Ground.guard }], guard := some (5, true) }) (v := (.agg ((num b).map (Value.int .u8)).toArray)) rfl (by kernel_rfl) (by kernel_rfl) (by kernel_rfl) (fun _ _ _ h => h) (yieldsIf_load_mid (by rfl) 24 (.tmp 3) rfl (B + 1) 0 rfl ((num b).map (Value.int .u8)) _ (fun w' h => h.2.1.range) Tryd.underlying24 rfl (by rw [List.length_map]; exact size_numN b)) (by assumption) ?_
      try simp only [Act.put, List.setIfInBounds_toArray, List.set_cons_zero, List.set_cons_succ]
      refine wpAnyH_take (i := 9) (oi := { dst := some 23, op := Go.Op.load 24 (Go.Operand.tmp 2), type := 24, pos := "law.go:131", after := #[{ on := 5, ground := Go.Ground.guard }], guard := some (5, true) }) (v := (.agg ((num a).map (Value.int .u8)).toArray)) rfl (by kernel_rfl) (by kernel_rfl) (by kernel_rfl) (fun _ _ _ h => h) (yieldsIf_load_mid (by rfl) 24 (.tmp 2) rfl B 0 rfl ((num a).map (Value.int .u8)) _ (fun w' h => h.1.range) Tryd.underlying24 rfl (by rw [List.length_map]; exact size_numN a)) (by assumption) ?_
      try simp only [Act.put, List.setIfInBounds_toArray, List.set_cons_zero, List.set_cons_succ]
      refine wpAnyH_take (i := 10) (oi := { dst := some 24, op := Go.Op.load 24 (Go.Operand.tmp 3), type := 24, pos := "law.go:131", after := #[{ on := 5, ground := Go.Ground.guard }], guard := some (5, true) }) (v := (.agg ((num b).map (Value.int .u8)).toArray)) rfl (by kernel_rfl) (by kernel_rfl) (by kernel_rfl) (fun _ _ _ h => h) (yieldsIf_load_mid (by rfl) 24 (.tmp 3) rfl (B + 1) 0 rfl ((num b).map (Value.int .u8)) _ (fun w' h => h.2.1.range) Tryd.underlying24 rfl (by rw [List.length_map]; exact size_numN b)) (by assumption) ?_
      try simp only [Act.put, List.setIfInBounds_toArray, List.set_cons_zero, List.set_cons_succ]
      refine wpAnyH_ready (rs := [8]) (by kernel_rfl) (by simp) ?_
      refine AllReadyH.cons (o := { dst := some 22, op := Go.Op.call { callee := Go.Callee.value (Go.Operand.func 15), args := #[Go.Operand.tmp 20, Go.Operand.tmp 21], argTypes := #[24, 24] }, type := 24, pos := "law.go:131", after := #[{ on := 6, ground := Go.Ground.data }, { on := 7, ground := Go.Ground.data }, { on := 5, ground := Go.Ground.chain }, { on := 5, ground := Go.Ground.guard }], guard := some (5, true) }) rfl (fun K hK => ?_) (AllReadyH.nil)
      go_simp
      refine (HA.out _).mono ?_
      rintro e w4 ⟨rfl, hb4⟩
      go_simp
      refine hK.out _ _ ?_ (fun hHeld => ?_)
      · exact ⟨hHeld.1.below hb4 hHeld.1.lt, hHeld.2.1.below hb4 hHeld.2.1.lt, hHeld.2.2.trans (hb4.mono hHeld.2.2.size)⟩
      clear hK K
      try simp only [Act.put, List.setIfInBounds_toArray, List.set_cons_zero, List.set_cons_succ]
      refine wpAnyH_ready (rs := [11]) (by kernel_rfl) (by simp) ?_
      refine AllReadyH.cons (o := { dst := some 25, op := Go.Op.call { callee := Go.Callee.value (Go.Operand.func 16), args := #[Go.Operand.tmp 23, Go.Operand.tmp 24], argTypes := #[23, 23] }, type := 23, pos := "law.go:131", after := #[{ on := 9, ground := Go.Ground.data }, { on := 10, ground := Go.Ground.data }, { on := 8, ground := Go.Ground.chain }, { on := 5, ground := Go.Ground.guard }], guard := some (5, true) }) rfl (fun K hK => ?_) (AllReadyH.nil)
      go_simp
      refine (HS.out _).mono ?_
      rintro e w4 ⟨rfl, hb4⟩
      go_simp
      refine hK.out _ _ ?_ (fun hHeld => ?_)
      · exact ⟨hHeld.1.below hb4 hHeld.1.lt, hHeld.2.1.below hb4 hHeld.2.1.lt, hHeld.2.2.trans (hb4.mono hHeld.2.2.size)⟩
      clear hK K
      try simp only [Act.put, List.setIfInBounds_toArray, List.set_cons_zero, List.set_cons_succ]
      refine wpAnyH_take (i := 12) (oi := { dst := some 26, op := Go.Op.binOp Go.BinOp.eql 24 (Go.Operand.tmp 22) (Go.Operand.tmp 25) 24, type := 4, pos := "law.go:131", after := #[{ on := 8, ground := Go.Ground.data }, { on := 11, ground := Go.Ground.data }, { on := 5, ground := Go.Ground.guard }], guard := some (5, true) }) (v := ?b_2_8_11v12) rfl (by kernel_rfl) (by kernel_rfl) (by kernel_rfl) (fun _ _ _ h => h) (Or.inl ⟨by rfl, ?b_2_8_11y12⟩) (by assumption) ?b_2_8_11r12
      case b_2_8_11y12 => (intro w hSw; (try dsimp only at hSw); go_simp; try (with_reducible rfl))
      case b_2_8_11r12 =>
      try simp only [Act.put, List.setIfInBounds_toArray, List.set_cons_zero, List.set_cons_succ]
      refine wpAnyH_take (i := 13) (oi := { dst := some 27, op := Go.Op.pick (Go.Operand.tmp 19) (Go.Operand.tmp 26) (Go.Operand.const (Go.Value.bool false)), type := 4, pos := "law.go:131", after := #[{ on := 5, ground := Go.Ground.data }, { on := 12, ground := Go.Ground.data }], guard := none }) (v := ?b_2_8_11v13) rfl (by kernel_rfl) (by kernel_rfl) (by kernel_rfl) (fun _ _ _ h => h) (Or.inl ⟨by rfl, ?b_2_8_11y13⟩) (by assumption) ?b_2_8_11r13
      case b_2_8_11y13 => (intro w hSw; (try dsimp only at hSw); go_simp; try (with_reducible rfl))
      case b_2_8_11r13 =>
      try simp only [Act.put, List.setIfInBounds_toArray, List.set_cons_zero, List.set_cons_succ]
      refine wpAnyH_take (i := 14) (oi := { dst := some 28, op := Go.Op.move (Go.Operand.tmp 27), type := 4, pos := "law.go:131", after := #[{ on := 13, ground := Go.Ground.data }, { on := 11, ground := Go.Ground.chain }], guard := none }) (v := ?b_2_8_11v14) rfl (by kernel_rfl) (by kernel_rfl) (by kernel_rfl) (fun _ _ _ h => h) (Or.inl ⟨by rfl, ?b_2_8_11y14⟩) (by assumption) ?b_2_8_11r14
      case b_2_8_11y14 => (intro w hSw; (try dsimp only at hSw); go_simp; try (with_reducible rfl))
      case b_2_8_11r14 =>
      try simp only [Act.put, List.setIfInBounds_toArray, List.set_cons_zero, List.set_cons_succ]
      refine wpAnyH_take (i := 15) (oi := { dst := some 29, op := Go.Op.load 24 (Go.Operand.tmp 3), type := 24, pos := "law.go:131", after := #[{ on := 14, ground := Go.Ground.guard }], guard := some (14, true) }) (v := (.agg ((num b).map (Value.int .u8)).toArray)) rfl (by kernel_rfl) (by kernel_rfl) (by kernel_rfl) (fun _ _ _ h => h) (yieldsIf_load_mid (by rfl) 24 (.tmp 3) rfl (B + 1) 0 rfl ((num b).map (Value.int .u8)) _ (fun w' h => h.2.1.range) Tryd.underlying24 rfl (by rw [List.length_map]; exact size_numN b)) (by assumption) ?_
      try simp only [Act.put, List.setIfInBounds_toArray, List.set_cons_zero, List.set_cons_succ]
      refine wpAnyH_take (i := 16) (oi := { dst := some 30, op := Go.Op.load 24 (Go.Operand.tmp 2), type := 24, pos := "law.go:131", after := #[{ on := 14, ground := Go.Ground.guard }], guard := some (14, true) }) (v := (.agg ((num a).map (Value.int .u8)).toArray)) rfl (by kernel_rfl) (by kernel_rfl) (by kernel_rfl) (fun _ _ _ h => h) (yieldsIf_load_mid (by rfl) 24 (.tmp 2) rfl B 0 rfl ((num a).map (Value.int .u8)) _ (fun w' h => h.1.range) Tryd.underlying24 rfl (by rw [List.length_map]; exact size_numN a)) (by assumption) ?_
      try simp only [Act.put, List.setIfInBounds_toArray, List.set_cons_zero, List.set_cons_succ]
      refine wpAnyH_take (i := 18) (oi := { dst := some 32, op := Go.Op.load 24 (Go.Operand.tmp 2), type := 24, pos := "law.go:131", after := #[{ on := 14, ground := Go.Ground.guard }], guard := some (14, true) }) (v := (.agg ((num a).map (Value.int .u8)).toArray)) rfl (by kernel_rfl) (by kernel_rfl) (by kernel_rfl) (fun _ _ _ h => h) (yieldsIf_load_mid (by rfl) 24 (.tmp 2) rfl B 0 rfl ((num a).map (Value.int .u8)) _ (fun w' h => h.1.range) Tryd.underlying24 rfl (by rw [List.length_map]; exact size_numN a)) (by assumption) ?_
      try simp only [Act.put, List.setIfInBounds_toArray, List.set_cons_zero, List.set_cons_succ]
      refine wpAnyH_take (i := 19) (oi := { dst := some 33, op := Go.Op.load 24 (Go.Operand.tmp 3), type := 24, pos := "law.go:131", after := #[{ on := 14, ground := Go.Ground.guard }], guard := some (14, true) }) (v := (.agg ((num b).map (Value.int .u8)).toArray)) rfl (by kernel_rfl) (by kernel_rfl) (by kernel_rfl) (fun _ _ _ h => h) (yieldsIf_load_mid (by rfl) 24 (.tmp 3) rfl (B + 1) 0 rfl ((num b).map (Value.int .u8)) _ (fun w' h => h.2.1.range) Tryd.underlying24 rfl (by rw [List.length_map]; exact size_numN b)) (by assumption) ?_
      try simp only [Act.put, List.setIfInBounds_toArray, List.set_cons_zero, List.set_cons_succ]
      refine wpAnyH_ready (rs := [17]) (by kernel_rfl) (by simp) ?_
      refine AllReadyH.cons (o := { dst := some 31, op := Go.Op.call { callee := Go.Callee.value (Go.Operand.func 15), args := #[Go.Operand.tmp 29, Go.Operand.tmp 30], argTypes := #[24, 24] }, type := 24, pos := "law.go:131", after := #[{ on := 15, ground := Go.Ground.data }, { on := 16, ground := Go.Ground.data }, { on := 14, ground := Go.Ground.chain }, { on := 14, ground := Go.Ground.guard }], guard := some (14, true) }) rfl (fun K hK => ?_) (AllReadyH.nil)
      go_simp
      refine (HAB.out _).mono ?_
      rintro e w4 ⟨rfl, hb4⟩
      go_simp
      refine hK.out _ _ ?_ (fun hHeld => ?_)
      · exact ⟨hHeld.1.below hb4 hHeld.1.lt, hHeld.2.1.below hb4 hHeld.2.1.lt, hHeld.2.2.trans (hb4.mono hHeld.2.2.size)⟩
      clear hK K
      try simp only [Act.put, List.setIfInBounds_toArray, List.set_cons_zero, List.set_cons_succ]
      refine wpAnyH_ready (rs := [20]) (by kernel_rfl) (by simp) ?_
      refine AllReadyH.cons (o := { dst := some 34, op := Go.Op.call { callee := Go.Callee.value (Go.Operand.func 15), args := #[Go.Operand.tmp 32, Go.Operand.tmp 33], argTypes := #[24, 24] }, type := 24, pos := "law.go:131", after := #[{ on := 18, ground := Go.Ground.data }, { on := 19, ground := Go.Ground.data }, { on := 17, ground := Go.Ground.chain }, { on := 14, ground := Go.Ground.guard }], guard := some (14, true) }) rfl (fun K hK => ?_) (AllReadyH.nil)
      go_simp
      refine (HA.out _).mono ?_
      rintro e w4 ⟨rfl, hb4⟩
      go_simp
      refine hK.out _ _ ?_ (fun hHeld => ?_)
      · exact ⟨hHeld.1.below hb4 hHeld.1.lt, hHeld.2.1.below hb4 hHeld.2.1.lt, hHeld.2.2.trans (hb4.mono hHeld.2.2.size)⟩
      clear hK K
      try simp only [Act.put, List.setIfInBounds_toArray, List.set_cons_zero, List.set_cons_succ]
      refine wpAnyH_take (i := 21) (oi := { dst := some 35, op := Go.Op.binOp Go.BinOp.eql 24 (Go.Operand.tmp 31) (Go.Operand.tmp 34) 24, type := 4, pos := "law.go:131", after := #[{ on := 17, ground := Go.Ground.data }, { on := 20, ground := Go.Ground.data }, { on := 14, ground := Go.Ground.guard }], guard := some (14, true) }) (v := ?b_2_8_11_17_20v21) rfl (by kernel_rfl) (by kernel_rfl) (by kernel_rfl) (fun _ _ _ h => h) (Or.inl ⟨by rfl, ?b_2_8_11_17_20y21⟩) (by assumption) ?b_2_8_11_17_20r21
      case b_2_8_11_17_20y21 => (intro w hSw; (try dsimp only at hSw); go_simp; try (with_reducible rfl))
      case b_2_8_11_17_20r21 =>
      try simp only [Act.put, List.setIfInBounds_toArray, List.set_cons_zero, List.set_cons_succ]
      refine wpAnyH_take (i := 22) (oi := { dst := some 36, op := Go.Op.pick (Go.Operand.tmp 28) (Go.Operand.tmp 35) (Go.Operand.const (Go.Value.bool false)), type := 4, pos := "law.go:131", after := #[{ on := 14, ground := Go.Ground.data }, { on := 21, ground := Go.Ground.data }], guard := none }) (v := ?b_2_8_11_17_20v22) rfl (by kernel_rfl) (by kernel_rfl) (by kernel_rfl) (fun _ _ _ h => h) (Or.inl ⟨by rfl, ?b_2_8_11_17_20y22⟩) (by assumption) ?b_2_8_11_17_20r22
      case b_2_8_11_17_20y22 => (intro w hSw; (try dsimp only at hSw); go_simp; try (with_reducible rfl))
      case b_2_8_11_17_20r22 =>
      try simp only [Act.put, List.setIfInBounds_toArray, List.set_cons_zero, List.set_cons_succ]
      refine wpAnyH_take (i := 23) (oi := { dst := some 4, op := Go.Op.assign (Go.Operand.tmp 36), type := 4, pos := "law.go:131", after := #[{ on := 22, ground := Go.Ground.data }, { on := 20, ground := Go.Ground.chain }, { on := 0, ground := Go.Ground.phase }, { on := 1, ground := Go.Ground.phase }, { on := 2, ground := Go.Ground.phase }, { on := 3, ground := Go.Ground.phase }, { on := 4, ground := Go.Ground.phase }, { on := 5, ground := Go.Ground.phase }, { on := 6, ground := Go.Ground.phase }, { on := 7, ground := Go.Ground.phase }, { on := 8, ground := Go.Ground.phase }, { on := 9, ground := Go.Ground.phase }, { on := 10, ground := Go.Ground.phase }, { on := 11, ground := Go.Ground.phase }, { on := 12, ground := Go.Ground.phase }, { on := 13, ground := Go.Ground.phase }, { on := 14, ground := Go.Ground.phase }, { on := 15, ground := Go.Ground.phase }, { on := 16, ground := Go.Ground.phase }, { on := 17, ground := Go.Ground.phase }, { on := 18, ground := Go.Ground.phase }, { on := 19, ground := Go.Ground.phase }, { on := 20, ground := Go.Ground.phase }, { on := 21, ground := Go.Ground.phase }, { on := 22, ground := Go.Ground.phase }], guard := none }) (v := ?b_2_8_11_17_20v23) rfl (by kernel_rfl) (by kernel_rfl) (by kernel_rfl) (fun _ _ _ h => h) (Or.inl ⟨by rfl, ?b_2_8_11_17_20y23⟩) (by assumption) ?b_2_8_11_17_20r23
      case b_2_8_11_17_20y23 => (intro w hSw; (try dsimp only at hSw); go_simp; try (with_reducible rfl))
      case b_2_8_11_17_20r23 =>
      try simp only [Act.put, List.setIfInBounds_toArray, List.set_cons_zero, List.set_cons_succ]
      refine wpAnyH_done (by kernel_rfl) ?_ _
      have HF := Lib.hid hHeld.2.2
      clear hHeld
      go_wp2_with fail
      go_ret
      exact ⟨rfl, HF.out⟩
    · have L1 := Lib.hid (fun W => less_any a b W HAT.out HBT.out)
      rw [show decide (a < b) = false from decide_eq_false (by omega)] at L1
      have L2 := Lib.hid (fun W => less_any b a W HBT.out HAT.out)
      rw [show decide (b < a) = false from decide_eq_false (by omega)] at L2
      have HC := Lib.hid (fun W => cmp_any a b W HAT.out HBT.out)
      rw [show cmpN a b = 0 by unfold cmpN; rw [if_neg (by omega), if_neg (by omega)]] at HC
      clear hlt hgt
      unfold numV at L1 L2 HC
      go_wp2_with (first
        | (refine wpList_load_irow rfl 24 (.tmp 2) rfl (g := B) (t := 24) (k := .u8) (xs := num a) rfl QA.out Tryd.underlying24 (size_numN a) ?_)
        | (refine wpList_load_irow rfl 24 (.tmp 3) rfl (g := B + 1) (t := 24) (k := .u8) (xs := num b) rfl QB.out Tryd.underlying24 (size_numN b) ?_))
      refine (L1.out _).mono ?_
      rintro e w2 ⟨rfl, hb⟩
      have qa := QA.out.below hb QA.out.lt
      have qb := QB.out.below hb QB.out.lt
      have bb := HB.out.trans (hb.mono HB.out.size)
      clear QA QB HB hb
      have QA := Lib.hid qa
      have QB := Lib.hid qb
      have HB := Lib.hid bb
      clear qa qb bb
      go_wp2_with (first
        | (refine wpList_load_irow rfl 24 (.tmp 2) rfl (g := B) (t := 24) (k := .u8) (xs := num a) rfl QA.out Tryd.underlying24 (size_numN a) ?_)
        | (refine wpList_load_irow rfl 24 (.tmp 3) rfl (g := B + 1) (t := 24) (k := .u8) (xs := num b) rfl QB.out Tryd.underlying24 (size_numN b) ?_))
      refine (L2.out _).mono ?_
      rintro e w3 ⟨rfl, hb⟩
      have qa := QA.out.below hb QA.out.lt
      have qb := QB.out.below hb QB.out.lt
      have bb := HB.out.trans (hb.mono HB.out.size)
      clear QA QB HB hb
      have QA := Lib.hid qa
      have QB := Lib.hid qb
      have HB := Lib.hid bb
      clear qa qb bb
      go_upto_region 8 with fail
      refine wp_region_held_drew (S := (fun w' => IRow w' B 24 .u8 (num a) ∧ IRow w' (B + 1) 24 .u8 (num b) ∧ Below w.heap.size w w')) (by kernel_rfl) ?_ (fun hHeld => ?_)
      · exact ⟨QA.out.drew, QB.out.drew, below_drewN HB.out 1⟩
      refine wpAnyH_take (i := 0) (oi := { dst := some 14, op := Go.Op.load 24 (Go.Operand.tmp 2), type := 24, pos := "law.go:131", after := #[], guard := none }) (v := (.agg ((num a).map (Value.int .u8)).toArray)) rfl (by kernel_rfl) (by kernel_rfl) (by kernel_rfl) (fun _ _ _ h => h) (yieldsIf_load_mid (by rfl) 24 (.tmp 2) rfl B 0 rfl ((num a).map (Value.int .u8)) _ (fun w' h => h.1.range) Tryd.underlying24 rfl (by rw [List.length_map]; exact size_numN a)) (by assumption) ?_
      try simp only [Act.put, List.setIfInBounds_toArray, List.set_cons_zero, List.set_cons_succ]
      refine wpAnyH_take (i := 1) (oi := { dst := some 15, op := Go.Op.load 24 (Go.Operand.tmp 3), type := 24, pos := "law.go:131", after := #[], guard := none }) (v := (.agg ((num b).map (Value.int .u8)).toArray)) rfl (by kernel_rfl) (by kernel_rfl) (by kernel_rfl) (fun _ _ _ h => h) (yieldsIf_load_mid (by rfl) 24 (.tmp 3) rfl (B + 1) 0 rfl ((num b).map (Value.int .u8)) _ (fun w' h => h.2.1.range) Tryd.underlying24 rfl (by rw [List.length_map]; exact size_numN b)) (by assumption) ?_
      try simp only [Act.put, List.setIfInBounds_toArray, List.set_cons_zero, List.set_cons_succ]
      refine wpAnyH_take (i := 3) (oi := { dst := some 17, op := Go.Op.move (Go.Operand.tmp 5), type := 3, pos := "law.go:131", after := #[], guard := none }) (v := ?cv3) rfl (by kernel_rfl) (by kernel_rfl) (by kernel_rfl) (fun _ _ _ h => h) (Or.inl ⟨by rfl, ?cy3⟩) (by assumption) ?cr3
      case cy3 => (intro w hSw; (try dsimp only at hSw); go_simp; try (with_reducible rfl))
      case cr3 =>
      try simp only [Act.put, List.setIfInBounds_toArray, List.set_cons_zero, List.set_cons_succ]
      refine wpAnyH_ready (rs := [2]) (by kernel_rfl) (by simp) ?_
      refine AllReadyH.cons (o := { dst := some 16, op := Go.Op.call { callee := Go.Callee.value (Go.Operand.func 13), args := #[Go.Operand.tmp 14, Go.Operand.tmp 15], argTypes := #[24, 24] }, type := 3, pos := "law.go:131", after := #[{ on := 0, ground := Go.Ground.data }, { on := 1, ground := Go.Ground.data }], guard := none }) rfl (fun K hK => ?_) (AllReadyH.nil)
      go_simp
      refine (HC.out _).mono ?_
      rintro e w4 ⟨rfl, hb4⟩
      go_simp
      refine hK.out _ _ ?_ (fun hHeld => ?_)
      · exact ⟨hHeld.1.below hb4 hHeld.1.lt, hHeld.2.1.below hb4 hHeld.2.1.lt, hHeld.2.2.trans (hb4.mono hHeld.2.2.size)⟩
      clear hK K
      try simp only [Act.put, List.setIfInBounds_toArray, List.set_cons_zero, List.set_cons_succ]
      refine wpAnyH_take (i := 4) (oi := { dst := some 18, op := Go.Op.binOp Go.BinOp.eql 3 (Go.Operand.tmp 16) (Go.Operand.tmp 17) 3, type := 4, pos := "law.go:131", after := #[{ on := 2, ground := Go.Ground.data }, { on := 3, ground := Go.Ground.data }], guard := none }) (v := ?c_2v4) rfl (by kernel_rfl) (by kernel_rfl) (by kernel_rfl) (fun _ _ _ h => h) (Or.inl ⟨by rfl, ?c_2y4⟩) (by assumption) ?c_2r4
      case c_2y4 => (intro w hSw; (try dsimp only at hSw); go_simp; try (with_reducible rfl))
      case c_2r4 =>
      try simp only [Act.put, List.setIfInBounds_toArray, List.set_cons_zero, List.set_cons_succ]
      refine wpAnyH_take (i := 5) (oi := { dst := some 19, op := Go.Op.move (Go.Operand.tmp 18), type := 4, pos := "law.go:131", after := #[{ on := 4, ground := Go.Ground.data }, { on := 2, ground := Go.Ground.chain }], guard := none }) (v := ?c_2v5) rfl (by kernel_rfl) (by kernel_rfl) (by kernel_rfl) (fun _ _ _ h => h) (Or.inl ⟨by rfl, ?c_2y5⟩) (by assumption) ?c_2r5
      case c_2y5 => (intro w hSw; (try dsimp only at hSw); go_simp; try (with_reducible rfl))
      case c_2r5 =>
      try simp only [Act.put, List.setIfInBounds_toArray, List.set_cons_zero, List.set_cons_succ]
      refine wpAnyH_take (i := 6) (oi := { dst := some 20, op := Go.Op.load 24 (Go.Operand.tmp 2), type := 24, pos := "law.go:131", after := #[{ on := 5, ground := Go.Ground.guard }], guard := some (5, true) }) (v := (.agg ((num a).map (Value.int .u8)).toArray)) rfl (by kernel_rfl) (by kernel_rfl) (by kernel_rfl) (fun _ _ _ h => h) (yieldsIf_load_mid (by rfl) 24 (.tmp 2) rfl B 0 rfl ((num a).map (Value.int .u8)) _ (fun w' h => h.1.range) Tryd.underlying24 rfl (by rw [List.length_map]; exact size_numN a)) (by assumption) ?_
      try simp only [Act.put, List.setIfInBounds_toArray, List.set_cons_zero, List.set_cons_succ]
      refine wpAnyH_take (i := 7) (oi := { dst := some 21, op := Go.Op.load 24 (Go.Operand.tmp 3), type := 24, pos := "law.go:131", after := #[{ on := 5, ground := Go.Ground.guard }], guard := some (5, true) }) (v := (.agg ((num b).map (Value.int .u8)).toArray)) rfl (by kernel_rfl) (by kernel_rfl) (by kernel_rfl) (fun _ _ _ h => h) (yieldsIf_load_mid (by rfl) 24 (.tmp 3) rfl (B + 1) 0 rfl ((num b).map (Value.int .u8)) _ (fun w' h => h.2.1.range) Tryd.underlying24 rfl (by rw [List.length_map]; exact size_numN b)) (by assumption) ?_
      try simp only [Act.put, List.setIfInBounds_toArray, List.set_cons_zero, List.set_cons_succ]
      refine wpAnyH_take (i := 9) (oi := { dst := some 23, op := Go.Op.load 24 (Go.Operand.tmp 2), type := 24, pos := "law.go:131", after := #[{ on := 5, ground := Go.Ground.guard }], guard := some (5, true) }) (v := (.agg ((num a).map (Value.int .u8)).toArray)) rfl (by kernel_rfl) (by kernel_rfl) (by kernel_rfl) (fun _ _ _ h => h) (yieldsIf_load_mid (by rfl) 24 (.tmp 2) rfl B 0 rfl ((num a).map (Value.int .u8)) _ (fun w' h => h.1.range) Tryd.underlying24 rfl (by rw [List.length_map]; exact size_numN a)) (by assumption) ?_
      try simp only [Act.put, List.setIfInBounds_toArray, List.set_cons_zero, List.set_cons_succ]
      refine wpAnyH_take (i := 10) (oi := { dst := some 24, op := Go.Op.load 24 (Go.Operand.tmp 3), type := 24, pos := "law.go:131", after := #[{ on := 5, ground := Go.Ground.guard }], guard := some (5, true) }) (v := (.agg ((num b).map (Value.int .u8)).toArray)) rfl (by kernel_rfl) (by kernel_rfl) (by kernel_rfl) (fun _ _ _ h => h) (yieldsIf_load_mid (by rfl) 24 (.tmp 3) rfl (B + 1) 0 rfl ((num b).map (Value.int .u8)) _ (fun w' h => h.2.1.range) Tryd.underlying24 rfl (by rw [List.length_map]; exact size_numN b)) (by assumption) ?_
      try simp only [Act.put, List.setIfInBounds_toArray, List.set_cons_zero, List.set_cons_succ]
      refine wpAnyH_ready (rs := [8]) (by kernel_rfl) (by simp) ?_
      refine AllReadyH.cons (o := { dst := some 22, op := Go.Op.call { callee := Go.Callee.value (Go.Operand.func 15), args := #[Go.Operand.tmp 20, Go.Operand.tmp 21], argTypes := #[24, 24] }, type := 24, pos := "law.go:131", after := #[{ on := 6, ground := Go.Ground.data }, { on := 7, ground := Go.Ground.data }, { on := 5, ground := Go.Ground.chain }, { on := 5, ground := Go.Ground.guard }], guard := some (5, true) }) rfl (fun K hK => ?_) (AllReadyH.nil)
      go_simp
      refine (HA.out _).mono ?_
      rintro e w4 ⟨rfl, hb4⟩
      go_simp
      refine hK.out _ _ ?_ (fun hHeld => ?_)
      · exact ⟨hHeld.1.below hb4 hHeld.1.lt, hHeld.2.1.below hb4 hHeld.2.1.lt, hHeld.2.2.trans (hb4.mono hHeld.2.2.size)⟩
      clear hK K
      try simp only [Act.put, List.setIfInBounds_toArray, List.set_cons_zero, List.set_cons_succ]
      refine wpAnyH_ready (rs := [11]) (by kernel_rfl) (by simp) ?_
      refine AllReadyH.cons (o := { dst := some 25, op := Go.Op.call { callee := Go.Callee.value (Go.Operand.func 16), args := #[Go.Operand.tmp 23, Go.Operand.tmp 24], argTypes := #[23, 23] }, type := 23, pos := "law.go:131", after := #[{ on := 9, ground := Go.Ground.data }, { on := 10, ground := Go.Ground.data }, { on := 8, ground := Go.Ground.chain }, { on := 5, ground := Go.Ground.guard }], guard := some (5, true) }) rfl (fun K hK => ?_) (AllReadyH.nil)
      go_simp
      refine (HS.out _).mono ?_
      rintro e w4 ⟨rfl, hb4⟩
      go_simp
      refine hK.out _ _ ?_ (fun hHeld => ?_)
      · exact ⟨hHeld.1.below hb4 hHeld.1.lt, hHeld.2.1.below hb4 hHeld.2.1.lt, hHeld.2.2.trans (hb4.mono hHeld.2.2.size)⟩
      clear hK K
      try simp only [Act.put, List.setIfInBounds_toArray, List.set_cons_zero, List.set_cons_succ]
      refine wpAnyH_take (i := 12) (oi := { dst := some 26, op := Go.Op.binOp Go.BinOp.eql 24 (Go.Operand.tmp 22) (Go.Operand.tmp 25) 24, type := 4, pos := "law.go:131", after := #[{ on := 8, ground := Go.Ground.data }, { on := 11, ground := Go.Ground.data }, { on := 5, ground := Go.Ground.guard }], guard := some (5, true) }) (v := ?c_2_8_11v12) rfl (by kernel_rfl) (by kernel_rfl) (by kernel_rfl) (fun _ _ _ h => h) (Or.inl ⟨by rfl, ?c_2_8_11y12⟩) (by assumption) ?c_2_8_11r12
      case c_2_8_11y12 => (intro w hSw; (try dsimp only at hSw); go_simp; try (with_reducible rfl))
      case c_2_8_11r12 =>
      try simp only [Act.put, List.setIfInBounds_toArray, List.set_cons_zero, List.set_cons_succ]
      refine wpAnyH_take (i := 13) (oi := { dst := some 27, op := Go.Op.pick (Go.Operand.tmp 19) (Go.Operand.tmp 26) (Go.Operand.const (Go.Value.bool false)), type := 4, pos := "law.go:131", after := #[{ on := 5, ground := Go.Ground.data }, { on := 12, ground := Go.Ground.data }], guard := none }) (v := ?c_2_8_11v13) rfl (by kernel_rfl) (by kernel_rfl) (by kernel_rfl) (fun _ _ _ h => h) (Or.inl ⟨by rfl, ?c_2_8_11y13⟩) (by assumption) ?c_2_8_11r13
      case c_2_8_11y13 => (intro w hSw; (try dsimp only at hSw); go_simp; try (with_reducible rfl))
      case c_2_8_11r13 =>
      try simp only [Act.put, List.setIfInBounds_toArray, List.set_cons_zero, List.set_cons_succ]
      refine wpAnyH_take (i := 14) (oi := { dst := some 28, op := Go.Op.move (Go.Operand.tmp 27), type := 4, pos := "law.go:131", after := #[{ on := 13, ground := Go.Ground.data }, { on := 11, ground := Go.Ground.chain }], guard := none }) (v := ?c_2_8_11v14) rfl (by kernel_rfl) (by kernel_rfl) (by kernel_rfl) (fun _ _ _ h => h) (Or.inl ⟨by rfl, ?c_2_8_11y14⟩) (by assumption) ?c_2_8_11r14
      case c_2_8_11y14 => (intro w hSw; (try dsimp only at hSw); go_simp; try (with_reducible rfl))
      case c_2_8_11r14 =>
      try simp only [Act.put, List.setIfInBounds_toArray, List.set_cons_zero, List.set_cons_succ]
      refine wpAnyH_take (i := 15) (oi := { dst := some 29, op := Go.Op.load 24 (Go.Operand.tmp 3), type := 24, pos := "law.go:131", after := #[{ on := 14, ground := Go.Ground.guard }], guard := some (14, true) }) (v := (.agg ((num b).map (Value.int .u8)).toArray)) rfl (by kernel_rfl) (by kernel_rfl) (by kernel_rfl) (fun _ _ _ h => h) (yieldsIf_load_mid (by rfl) 24 (.tmp 3) rfl (B + 1) 0 rfl ((num b).map (Value.int .u8)) _ (fun w' h => h.2.1.range) Tryd.underlying24 rfl (by rw [List.length_map]; exact size_numN b)) (by assumption) ?_
      try simp only [Act.put, List.setIfInBounds_toArray, List.set_cons_zero, List.set_cons_succ]
      refine wpAnyH_take (i := 16) (oi := { dst := some 30, op := Go.Op.load 24 (Go.Operand.tmp 2), type := 24, pos := "law.go:131", after := #[{ on := 14, ground := Go.Ground.guard }], guard := some (14, true) }) (v := (.agg ((num a).map (Value.int .u8)).toArray)) rfl (by kernel_rfl) (by kernel_rfl) (by kernel_rfl) (fun _ _ _ h => h) (yieldsIf_load_mid (by rfl) 24 (.tmp 2) rfl B 0 rfl ((num a).map (Value.int .u8)) _ (fun w' h => h.1.range) Tryd.underlying24 rfl (by rw [List.length_map]; exact size_numN a)) (by assumption) ?_
      try simp only [Act.put, List.setIfInBounds_toArray, List.set_cons_zero, List.set_cons_succ]
      refine wpAnyH_take (i := 18) (oi := { dst := some 32, op := Go.Op.load 24 (Go.Operand.tmp 2), type := 24, pos := "law.go:131", after := #[{ on := 14, ground := Go.Ground.guard }], guard := some (14, true) }) (v := (.agg ((num a).map (Value.int .u8)).toArray)) rfl (by kernel_rfl) (by kernel_rfl) (by kernel_rfl) (fun _ _ _ h => h) (yieldsIf_load_mid (by rfl) 24 (.tmp 2) rfl B 0 rfl ((num a).map (Value.int .u8)) _ (fun w' h => h.1.range) Tryd.underlying24 rfl (by rw [List.length_map]; exact size_numN a)) (by assumption) ?_
      try simp only [Act.put, List.setIfInBounds_toArray, List.set_cons_zero, List.set_cons_succ]
      refine wpAnyH_take (i := 19) (oi := { dst := some 33, op := Go.Op.load 24 (Go.Operand.tmp 3), type := 24, pos := "law.go:131", after := #[{ on := 14, ground := Go.Ground.guard }], guard := some (14, true) }) (v := (.agg ((num b).map (Value.int .u8)).toArray)) rfl (by kernel_rfl) (by kernel_rfl) (by kernel_rfl) (fun _ _ _ h => h) (yieldsIf_load_mid (by rfl) 24 (.tmp 3) rfl (B + 1) 0 rfl ((num b).map (Value.int .u8)) _ (fun w' h => h.2.1.range) Tryd.underlying24 rfl (by rw [List.length_map]; exact size_numN b)) (by assumption) ?_
      try simp only [Act.put, List.setIfInBounds_toArray, List.set_cons_zero, List.set_cons_succ]
      refine wpAnyH_ready (rs := [17]) (by kernel_rfl) (by simp) ?_
      refine AllReadyH.cons (o := { dst := some 31, op := Go.Op.call { callee := Go.Callee.value (Go.Operand.func 15), args := #[Go.Operand.tmp 29, Go.Operand.tmp 30], argTypes := #[24, 24] }, type := 24, pos := "law.go:131", after := #[{ on := 15, ground := Go.Ground.data }, { on := 16, ground := Go.Ground.data }, { on := 14, ground := Go.Ground.chain }, { on := 14, ground := Go.Ground.guard }], guard := some (14, true) }) rfl (fun K hK => ?_) (AllReadyH.nil)
      go_simp
      refine (HAB.out _).mono ?_
      rintro e w4 ⟨rfl, hb4⟩
      go_simp
      refine hK.out _ _ ?_ (fun hHeld => ?_)
      · exact ⟨hHeld.1.below hb4 hHeld.1.lt, hHeld.2.1.below hb4 hHeld.2.1.lt, hHeld.2.2.trans (hb4.mono hHeld.2.2.size)⟩
      clear hK K
      try simp only [Act.put, List.setIfInBounds_toArray, List.set_cons_zero, List.set_cons_succ]
      refine wpAnyH_ready (rs := [20]) (by kernel_rfl) (by simp) ?_
      refine AllReadyH.cons (o := { dst := some 34, op := Go.Op.call { callee := Go.Callee.value (Go.Operand.func 15), args := #[Go.Operand.tmp 32, Go.Operand.tmp 33], argTypes := #[24, 24] }, type := 24, pos := "law.go:131", after := #[{ on := 18, ground := Go.Ground.data }, { on := 19, ground := Go.Ground.data }, { on := 17, ground := Go.Ground.chain }, { on := 14, ground := Go.Ground.guard }], guard := some (14, true) }) rfl (fun K hK => ?_) (AllReadyH.nil)
      go_simp
      refine (HA.out _).mono ?_
      rintro e w4 ⟨rfl, hb4⟩
      go_simp
      refine hK.out _ _ ?_ (fun hHeld => ?_)
      · exact ⟨hHeld.1.below hb4 hHeld.1.lt, hHeld.2.1.below hb4 hHeld.2.1.lt, hHeld.2.2.trans (hb4.mono hHeld.2.2.size)⟩
      clear hK K
      try simp only [Act.put, List.setIfInBounds_toArray, List.set_cons_zero, List.set_cons_succ]
      refine wpAnyH_take (i := 21) (oi := { dst := some 35, op := Go.Op.binOp Go.BinOp.eql 24 (Go.Operand.tmp 31) (Go.Operand.tmp 34) 24, type := 4, pos := "law.go:131", after := #[{ on := 17, ground := Go.Ground.data }, { on := 20, ground := Go.Ground.data }, { on := 14, ground := Go.Ground.guard }], guard := some (14, true) }) (v := ?c_2_8_11_17_20v21) rfl (by kernel_rfl) (by kernel_rfl) (by kernel_rfl) (fun _ _ _ h => h) (Or.inl ⟨by rfl, ?c_2_8_11_17_20y21⟩) (by assumption) ?c_2_8_11_17_20r21
      case c_2_8_11_17_20y21 => (intro w hSw; (try dsimp only at hSw); go_simp; try (with_reducible rfl))
      case c_2_8_11_17_20r21 =>
      try simp only [Act.put, List.setIfInBounds_toArray, List.set_cons_zero, List.set_cons_succ]
      refine wpAnyH_take (i := 22) (oi := { dst := some 36, op := Go.Op.pick (Go.Operand.tmp 28) (Go.Operand.tmp 35) (Go.Operand.const (Go.Value.bool false)), type := 4, pos := "law.go:131", after := #[{ on := 14, ground := Go.Ground.data }, { on := 21, ground := Go.Ground.data }], guard := none }) (v := ?c_2_8_11_17_20v22) rfl (by kernel_rfl) (by kernel_rfl) (by kernel_rfl) (fun _ _ _ h => h) (Or.inl ⟨by rfl, ?c_2_8_11_17_20y22⟩) (by assumption) ?c_2_8_11_17_20r22
      case c_2_8_11_17_20y22 => (intro w hSw; (try dsimp only at hSw); go_simp; try (with_reducible rfl))
      case c_2_8_11_17_20r22 =>
      try simp only [Act.put, List.setIfInBounds_toArray, List.set_cons_zero, List.set_cons_succ]
      refine wpAnyH_take (i := 23) (oi := { dst := some 4, op := Go.Op.assign (Go.Operand.tmp 36), type := 4, pos := "law.go:131", after := #[{ on := 22, ground := Go.Ground.data }, { on := 20, ground := Go.Ground.chain }, { on := 0, ground := Go.Ground.phase }, { on := 1, ground := Go.Ground.phase }, { on := 2, ground := Go.Ground.phase }, { on := 3, ground := Go.Ground.phase }, { on := 4, ground := Go.Ground.phase }, { on := 5, ground := Go.Ground.phase }, { on := 6, ground := Go.Ground.phase }, { on := 7, ground := Go.Ground.phase }, { on := 8, ground := Go.Ground.phase }, { on := 9, ground := Go.Ground.phase }, { on := 10, ground := Go.Ground.phase }, { on := 11, ground := Go.Ground.phase }, { on := 12, ground := Go.Ground.phase }, { on := 13, ground := Go.Ground.phase }, { on := 14, ground := Go.Ground.phase }, { on := 15, ground := Go.Ground.phase }, { on := 16, ground := Go.Ground.phase }, { on := 17, ground := Go.Ground.phase }, { on := 18, ground := Go.Ground.phase }, { on := 19, ground := Go.Ground.phase }, { on := 20, ground := Go.Ground.phase }, { on := 21, ground := Go.Ground.phase }, { on := 22, ground := Go.Ground.phase }], guard := none }) (v := ?c_2_8_11_17_20v23) rfl (by kernel_rfl) (by kernel_rfl) (by kernel_rfl) (fun _ _ _ h => h) (Or.inl ⟨by rfl, ?c_2_8_11_17_20y23⟩) (by assumption) ?c_2_8_11_17_20r23
      case c_2_8_11_17_20y23 => (intro w hSw; (try dsimp only at hSw); go_simp; try (with_reducible rfl))
      case c_2_8_11_17_20r23 =>
      try simp only [Act.put, List.setIfInBounds_toArray, List.set_cons_zero, List.set_cons_succ]
      refine wpAnyH_done (by kernel_rfl) ?_ _
      have HF := Lib.hid hHeld.2.2
      clear hHeld
      go_wp2_with fail
      go_ret
      exact ⟨rfl, HF.out⟩
end Go.Proofs.YtgkocmljnoambaaDoor
