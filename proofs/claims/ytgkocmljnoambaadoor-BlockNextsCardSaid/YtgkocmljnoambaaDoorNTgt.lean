/-
  block.limit, block.one and block.Target. Conditions: none.
-/
import Derived.Test.YtgkocmljnoambaaDoorNExp
import Derived.Laws.BitsAllLaws
namespace Go.Proofs.YtgkocmljnoambaaDoor
open Go.RowKit

theorem results_row_tmp {P : Program} {fn : Func} {p u : Tmp} {ty : TypeId} (h : fn.results = #[.cell p ty, .tmp u]) (tmps : Array Value) (w : World) (g : Nat) (t : TypeId) (cs : Array Value) (fr : Nat × Nat) (d : TypeDesc) (x : Value)
    (hp : tmps.getD p undef = .pointer (some ⟨g, 0, none⟩)) (hx : tmps.getD u undef = x) (hg : w.heap[g]? = some (.cells cs t fr))
    (hu : P.underlying ty = some d) (hd : (match d with | .struct _ | .array _ _ => true | _ => false) = true) (hi : (P.info? ty).map (·.size) = some cs.size) :
    (results fn tmps).run P w = .ok (.tuple #[.agg cs, x]) w := by
  have hp' : tmps[p]?.getD undef = .pointer (some ⟨g, 0, none⟩) := by simpa using hp
  have hx' : tmps[u]?.getD undef = x := by simpa using hx
  simp [results, h, hp', hx', asAddr, run_loadVar_row w g t ty cs fr d hg hu hd hi]
theorem IRow.range {w : World} {g : Nat} {t : TypeId} {k : IntKind} {xs : List Int} (h : IRow w g t k xs) : w.rangeAt g 0 (xs.map (Value.int k)) := fun j v hv => by
  rw [List.getElem?_map] at hv
  obtain ⟨z, hz, rfl⟩ := Option.map_eq_some_iff.1 hv
  rw [Nat.zero_add]
  exact h.cell hz

theorem irow_as {W : World} {g : Nat} {t : TypeId} {k : IntKind} {xs ys : List Int} (h : IRow W g t k xs) (e : ys = xs) : IRow W g t k ys := e ▸ h
set_option maxRecDepth 100000 in
set_option maxHeartbeats 1600000 in
theorem limit_any (w : World) : Calls Tryd.prog 23 #[] w fun e w' => e = .returned (numV limitN) ∧ Below w.heap.size w w' := by
  have hZ := zero_row w 24
  obtain ⟨W, hW⟩ : ∃ W, w.alloc (.cells zeroA 24) = W := ⟨_, rfl⟩
  have hB : Below w.heap.size w W := by rw [← hW]; exact (Below.refl _ w).alloc (Nat.le_refl _) _
  rw [hW] at hZ
  have HC := Lib.hid (expand_any 545259519 W (by omega))
  rw [exp_limit] at HC
  have HW := Lib.hid hW
  have HZ := Lib.hid hZ
  have HB := Lib.hid hB
  clear hW hZ hB
  unfold numV at HC ⊢
  obtain ⟨n, hn⟩ : ∃ n, n = limitN := ⟨_, rfl⟩
  rw [← hn] at HC ⊢
  clear hn
  go_enter Tryd.func23, Tryd.ntmps23
  go_wp2_with fail
  have C2 := HC.out
  rw [← HW.out] at C2
  refine C2.mono ?_
  rw [HW.out]
  rintro e w2 ⟨rfl, hb2⟩
  have hq := HZ.out.below hb2 HZ.out.lt
  have QZ := Lib.hid hq
  have QF := Lib.hid (setRow_irow (ys := num n) hq)
  have HBF := Lib.hid (below_setRow (g := w.heap.size) (HB.out.trans (hb2.mono HB.out.size)) (Nat.le_refl _) (numA n))
  clear C2 hb2 hq
  go_wp2_with (refine wpList_store_irow rfl 24 (.tmp 0) (.tmp 1) rfl (g := w.heap.size) (t := 24) (k := .u8) (xs := num 0) (ys := num n) rfl rfl QZ.out (size_numN n) (same_length _ _) ?_)
  refine bodyPost_ret (v := numV n) ?_ rfl ⟨rfl, HBF.out⟩
  exact results_cell_row Tryd.results23 _ _ w.heap.size 24 (numA n) (0, 0) _ rfl QF.out Tryd.underlying24 rfl (size_numNA n)

theorem num_one : num 1 = List.replicate 31 0 ++ [1] := by decide +kernel
set_option maxRecDepth 100000 in
set_option maxHeartbeats 1600000 in
theorem one_any (w : World) : Calls Tryd.prog 27 #[] w fun e w' => e = .returned (numV 1) ∧ Below w.heap.size w w' := by
  have hZ := zero_row w 24
  obtain ⟨W, hW⟩ : ∃ W, w.alloc (.cells zeroA 24) = W := ⟨_, rfl⟩
  have hB : Below w.heap.size w W := by rw [← hW]; exact (Below.refl _ w).alloc (Nat.le_refl _) _
  rw [hW] at hZ
  have HW := Lib.hid hW
  have QZ := Lib.hid hZ
  have QF := Lib.hid (setRow_irow (ys := num 1) hZ)
  have HBF := Lib.hid (below_setRow (g := w.heap.size) hB (Nat.le_refl _) (numA 1))
  clear hW hZ hB
  have e1 : numA 1 = (((List.replicate 31 (0 : Int)) ++ [1]).map (Value.int .u8)).toArray := by unfold numA; rw [num_one]
  have E1 := Lib.hid e1
  have hs1 : (Tryd.prog.info? 24).map (·.size) = some (List.replicate 31 (0 : Int) ++ [1]).length := info_num
  have HS1 := Lib.hid hs1
  clear e1 hs1
  go_enter Tryd.func27, Tryd.ntmps27
  go_upto_region 1 with fail
  change Code.wp _ _ _ _ (w.alloc (.cells zeroA 24))
  rw [HW.out]
  go_wp2_with (refine wpList_store_irow rfl 24 (.tmp 0) (.tmp 1) rfl (g := w.heap.size) (t := 24) (k := .u8) (xs := num 0) (ys := List.replicate 31 0 ++ [1]) rfl rfl QZ.out HS1.out (by rw [num_length]; rfl) ?_)
  refine bodyPost_ret (v := numV 1) ?_ rfl ⟨rfl, HBF.out⟩
  exact results_cell_row Tryd.results27 _ _ w.heap.size 24 (numA 1) (0, 0) _ rfl QF.out Tryd.underlying24 rfl (size_numNA 1)

theorem cmp_gt (a b : Nat) : decide (0 < cmpN a b) = decide (b < a) := by
  unfold cmpN
  rw [decide_eq_decide]
  split
  · constructor <;> omega
  · split <;> constructor <;> omega

/-- What Target answers. -/
def tgtErr (bs : Nat) : Value := .int .i64 (if tgtB bs then 0 else 3)
set_option maxRecDepth 100000 in
set_option maxHeartbeats 6400000 in
theorem target_any (bs : Nat) (w : World) (hb : bs < 4294967296) :
    Calls Tryd.prog 7 #[.int .u32 (bs : Int)] w fun e w' => e = .returned (.tuple #[numV (tgtN bs), tgtErr bs]) ∧ Below w.heap.size w w' := by
  have hZ := zero_row w 24
  obtain ⟨W, hW⟩ : ∃ W, w.alloc (.cells zeroA 24) = W := ⟨_, rfl⟩
  have hB : Below w.heap.size w W := by rw [← hW]; exact (Below.refl _ w).alloc (Nat.le_refl _) _
  have hs : W.heap.size = w.heap.size + 1 := by rw [← hW]; simp
  rw [hW] at hZ
  obtain ⟨v, hv⟩ : ∃ v, v = expN bs := ⟨_, rfl⟩
  have HVL := Lib.hid (show v < top by rw [hv]; exact expN_lt bs)
  have HC := Lib.hid (expand_any bs W hb)
  rw [← hv] at HC
  obtain ⟨n, hn⟩ : ∃ n, n = tgtN bs := ⟨_, rfl⟩
  obtain ⟨er, her⟩ : ∃ er, er = tgtErr bs := ⟨_, rfl⟩
  rw [← hn, ← her]
  have HN := Lib.hid hn
  have HER := Lib.hid her
  have HV := Lib.hid hv
  have HW := Lib.hid hW
  have HS := Lib.hid hs
  have HZ := Lib.hid hZ
  have HB := Lib.hid hB
  clear hW hZ hB hs hv hn her
  have HAND := Lib.hid (u32_and_nat bs 8388608 hb (by omega))
  rw [sign_bit] at HAND
  unfold numV at HC ⊢
  go_enter Tryd.func7, Tryd.ntmps7
  go_wp2_with fail
  have C2 := HC.out
  rw [← HW.out] at C2
  refine C2.mono ?_
  rw [HW.out]
  rintro e w2 ⟨rfl, hb2⟩
  obtain ⟨G, hG⟩ : ∃ G, G = w2.heap.size := ⟨_, rfl⟩
  have hv0 := zero_row w2 24
  rw [← hG] at hv0
  have hqz : IRow (w2.alloc (.cells zeroA 24)) w.heap.size 24 .u8 (num 0) := (HZ.out.below hb2 HZ.out.lt).alloc _
  have hbz : Below w.heap.size w (w2.alloc (.cells zeroA 24)) := (HB.out.trans (hb2.mono HB.out.size)).alloc (by have := hb2.size; have := HS.out; omega) _
  have hgw : w.heap.size < G := by have := hb2.size; have := HS.out; omega
  have HZ0 := Lib.hid hv0
  have HQZ := Lib.hid hqz
  have HBZ := Lib.hid hbz
  have HG := Lib.hid hG
  have HGW := Lib.hid hgw
  clear hv0 hqz hbz hb2 C2 hgw
  go_upto_region 2 with (rw [← HG.out]; (refine wpList_store_irow rfl 24 (.tmp 4) (.tmp 6) rfl (g := G) (t := 24) (k := .u8) (xs := num 0) (ys := num v) rfl rfl HZ0.out (size_numN v) (same_length _ _) ?_))
  change Code.wp _ _ _ _ ((w2.alloc (.cells zeroA 24)).setRow G (numA v))
  obtain ⟨w3, hw3⟩ : ∃ w3, w3 = (w2.alloc (.cells zeroA 24)).setRow G (numA v) := ⟨_, rfl⟩
  have qv : IRow w3 G 24 .u8 (num v) := by rw [hw3]; exact setRow_irow HZ0.out
  have qz : IRow w3 w.heap.size 24 .u8 (num 0) := by rw [hw3]; exact HQZ.out.setRow (by have := HGW.out; omega) _
  have bz : Below w.heap.size w w3 := by rw [hw3]; exact below_setRow HBZ.out (by have := HGW.out; omega) _
  rw [← hw3]
  have QV := Lib.hid qv
  have QZ := Lib.hid qz
  have HB2 := Lib.hid bz
  clear hw3 qv qz bz
  try dsimp only [Act.put]
  have HND := Lib.hid (show numV (tgtN bs) = numV n by rw [HN.out])
  by_cases hsg : bs / 8388608 % 2 = 0
  · have hand : bits .and .u32 (bs : Int) 8388608 = 0 := by have h := HAND.out; rw [hsg] at h; exact h
    by_cases hv0 : v = 0
    · have hbad : tgtB bs = false := by unfold tgtB; rw [decide_eq_false_iff_not, ← HV.out]; intro h; exact h.2.1 hv0
      have heq : ∀ U, (Op.equalIn 10000 24 (.agg ((num v).map (Value.int .u8)).toArray) (.agg #[.int .u8 0, .int .u8 0, .int .u8 0, .int .u8 0, .int .u8 0, .int .u8 0, .int .u8 0, .int .u8 0, .int .u8 0, .int .u8 0, .int .u8 0, .int .u8 0, .int .u8 0, .int .u8 0, .int .u8 0, .int .u8 0, .int .u8 0, .int .u8 0, .int .u8 0, .int .u8 0, .int .u8 0, .int .u8 0, .int .u8 0, .int .u8 0, .int .u8 0, .int .u8 0, .int .u8 0, .int .u8 0, .int .u8 0, .int .u8 0, .int .u8 0, .int .u8 0])).run Tryd.prog U = .ok true U := fun U => by
        have h := eq_num_at 24 Tryd.underlying24 HVL.out top_pos U
        rw [decide_eq_true hv0] at h
        have e : numV 0 = (.agg #[.int .u8 0, .int .u8 0, .int .u8 0, .int .u8 0, .int .u8 0, .int .u8 0, .int .u8 0, .int .u8 0, .int .u8 0, .int .u8 0, .int .u8 0, .int .u8 0, .int .u8 0, .int .u8 0, .int .u8 0, .int .u8 0, .int .u8 0, .int .u8 0, .int .u8 0, .int .u8 0, .int .u8 0, .int .u8 0, .int .u8 0, .int .u8 0, .int .u8 0, .int .u8 0, .int .u8 0, .int .u8 0, .int .u8 0, .int .u8 0, .int .u8 0, .int .u8 0]) := by unfold numV; rw [numA_zero]; rfl
        rw [e] at h
        exact h
      clear hsg hv0
      refine wp_region_held_drew (S := (fun w' => IRow w' (G) 24 .u8 (num v) ∧ IRow w' w.heap.size 24 .u8 (num 0) ∧ Below w.heap.size w w')) (by kernel_rfl) ?_ (fun hHeld => ?_)
      · exact ⟨QV.out.drew, QZ.out.drew, below_drewN HB2.out 1⟩
      refine wpAnyH_take (i := 0) (oi := { dst := some 7, op := Go.Op.move (Go.Operand.tmp 0), type := 22, pos := "work.go:32", after := #[], guard := none }) (v := ?bv0) rfl (by kernel_rfl) (by kernel_rfl) (by kernel_rfl) (fun _ _ _ h => h) (Or.inl ⟨by rfl, ?by0⟩) (by assumption) ?br0
      case by0 => (intro w hSw; (try dsimp only at hSw); go_simp; try (with_reducible rfl))
      case br0 =>
      try simp only [Act.put, List.setIfInBounds_toArray, List.set_cons_zero, List.set_cons_succ]
      refine wpAnyH_take (i := 1) (oi := { dst := some 8, op := Go.Op.binOp Go.BinOp.and 22 (Go.Operand.tmp 7) (Go.Operand.const (Go.Value.int Go.IntKind.u32 8388608)) 22, type := 22, pos := "work.go:32", after := #[{ on := 0, ground := Go.Ground.data }], guard := none }) (v := ?bv1) rfl (by kernel_rfl) (by kernel_rfl) (by kernel_rfl) (fun _ _ _ h => h) (Or.inl ⟨by rfl, ?by1⟩) (by assumption) ?br1
      case by1 => (intro w hSw; (try dsimp only at hSw); go_simp; try (with_reducible rfl))
      case br1 =>
      try simp only [Act.put, List.setIfInBounds_toArray, List.set_cons_zero, List.set_cons_succ]
      refine wpAnyH_take (i := 2) (oi := { dst := some 9, op := Go.Op.binOp Go.BinOp.neq 22 (Go.Operand.tmp 8) (Go.Operand.const (Go.Value.int Go.IntKind.u32 0)) 22, type := 4, pos := "work.go:32", after := #[{ on := 1, ground := Go.Ground.data }], guard := none }) (v := ?bv2) rfl (by kernel_rfl) (by kernel_rfl) (by kernel_rfl) (fun _ _ _ h => h) (Or.inl ⟨by rfl, ?by2⟩) (by assumption) ?br2
      case by2 => (intro w hSw; (try dsimp only at hSw); go_simp; try (with_reducible rfl))
      case br2 =>
      try simp only [Act.put, List.setIfInBounds_toArray, List.set_cons_zero, List.set_cons_succ]
      refine wpAnyH_take (i := 3) (oi := { dst := some 10, op := Go.Op.move (Go.Operand.tmp 9), type := 4, pos := "work.go:32", after := #[{ on := 2, ground := Go.Ground.data }], guard := none }) (v := ?bv3) rfl (by kernel_rfl) (by kernel_rfl) (by kernel_rfl) (fun _ _ _ h => h) (Or.inl ⟨by rfl, ?by3⟩) (by assumption) ?br3
      case by3 => (intro w hSw; (try dsimp only at hSw); go_simp; try (with_reducible rfl))
      case br3 =>
      try simp only [Act.put, List.setIfInBounds_toArray, List.set_cons_zero, List.set_cons_succ]
      refine wpAnyH_take (i := 4) (oi := { dst := some 11, op := Go.Op.load 24 (Go.Operand.tmp 4), type := 24, pos := "work.go:32", after := #[{ on := 3, ground := Go.Ground.guard }], guard := some (3, false) }) (v := (.agg ((num v).map (Value.int .u8)).toArray)) rfl (by kernel_rfl) (by kernel_rfl) (by kernel_rfl) (fun _ _ _ h => h) (yieldsIf_load_mid (by rfl) 24 (.tmp 4) rfl (G) 0 rfl ((num v).map (Value.int .u8)) _ (fun w' h => h.1.range) Tryd.underlying24 rfl (by rw [List.length_map]; exact size_numN v)) (by assumption) ?_
      try simp only [Act.put, List.setIfInBounds_toArray, List.set_cons_zero, List.set_cons_succ]
      refine wpAnyH_take (i := 5) (oi := { dst := some 12, op := Go.Op.build 24 #[], type := 24, pos := "work.go:32", after := #[{ on := 3, ground := Go.Ground.guard }], guard := some (3, false) }) (v := ?bv5) rfl (by kernel_rfl) (by kernel_rfl) (by kernel_rfl) (fun _ _ _ h => h) (Or.inl ⟨by rfl, ?by5⟩) (by assumption) ?br5
      case by5 => (intro w hSw; (try dsimp only at hSw); go_simp; try (with_reducible rfl))
      case br5 =>
      try simp only [Act.put, List.setIfInBounds_toArray, List.set_cons_zero, List.set_cons_succ]
      refine wpAnyH_take (i := 6) (oi := { dst := some 13, op := Go.Op.binOp Go.BinOp.eql 24 (Go.Operand.tmp 11) (Go.Operand.tmp 12) 24, type := 4, pos := "work.go:32", after := #[{ on := 4, ground := Go.Ground.data }, { on := 5, ground := Go.Ground.data }, { on := 3, ground := Go.Ground.guard }], guard := some (3, false) }) (v := ?bv6) rfl (by kernel_rfl) (by kernel_rfl) (by kernel_rfl) (fun _ _ _ h => h) (Or.inl ⟨by rfl, ?by6⟩) (by assumption) ?br6
      case by6 => (intro w hSw; (try dsimp only at hSw); go_simp; try (with_reducible rfl))
      case br6 =>
      try simp only [Act.put, List.setIfInBounds_toArray, List.set_cons_zero, List.set_cons_succ]
      refine wpAnyH_take (i := 7) (oi := { dst := some 14, op := Go.Op.pick (Go.Operand.tmp 10) (Go.Operand.const (Go.Value.bool true)) (Go.Operand.tmp 13), type := 4, pos := "work.go:32", after := #[{ on := 3, ground := Go.Ground.data }, { on := 6, ground := Go.Ground.data }], guard := none }) (v := ?bv7) rfl (by kernel_rfl) (by kernel_rfl) (by kernel_rfl) (fun _ _ _ h => h) (Or.inl ⟨by rfl, ?by7⟩) (by assumption) ?br7
      case by7 => (intro w hSw; (try dsimp only at hSw); go_simp; try (with_reducible rfl))
      case br7 =>
      try simp only [Act.put, List.setIfInBounds_toArray, List.set_cons_zero, List.set_cons_succ]
      refine wpAnyH_take (i := 8) (oi := { dst := some 15, op := Go.Op.move (Go.Operand.tmp 14), type := 4, pos := "work.go:32", after := #[{ on := 7, ground := Go.Ground.data }, { on := 3, ground := Go.Ground.chain }], guard := none }) (v := ?bv8) rfl (by kernel_rfl) (by kernel_rfl) (by kernel_rfl) (fun _ _ _ h => h) (Or.inl ⟨by rfl, ?by8⟩) (by assumption) ?br8
      case by8 => (intro w hSw; (try dsimp only at hSw); go_simp; try (with_reducible rfl))
      case br8 =>
      try simp only [Act.put, List.setIfInBounds_toArray, List.set_cons_zero, List.set_cons_succ]
      refine wpAnyH_take (i := 9) (oi := { dst := some 16, op := Go.Op.load 24 (Go.Operand.tmp 4), type := 24, pos := "work.go:32", after := #[{ on := 8, ground := Go.Ground.guard }], guard := some (8, false) }) (v := undef) rfl (by kernel_rfl) (by kernel_rfl) (by kernel_rfl) (fun _ _ _ h => h) (Or.inr ⟨by rfl, rfl⟩) (by assumption) ?_
      try simp only [Act.put, List.setIfInBounds_toArray, List.set_cons_zero, List.set_cons_succ]
      refine wpAnyH_take (i := 10) (oi := { dst := some 17, op := Go.Op.call { callee := Go.Callee.value (Go.Operand.func 23), args := #[], argTypes := #[] }, type := 24, pos := "work.go:32", after := #[{ on := 8, ground := Go.Ground.chain }, { on := 8, ground := Go.Ground.guard }], guard := some (8, false) }) (v := undef) rfl (by kernel_rfl) (by kernel_rfl) (by kernel_rfl) (fun _ _ _ h => h) (Or.inr ⟨by rfl, rfl⟩) (by assumption) ?_
      try simp only [Act.put, List.setIfInBounds_toArray, List.set_cons_zero, List.set_cons_succ]
      refine wpAnyH_take (i := 11) (oi := { dst := some 18, op := Go.Op.call { callee := Go.Callee.value (Go.Operand.func 13), args := #[Go.Operand.tmp 16, Go.Operand.tmp 17], argTypes := #[24, 24] }, type := 3, pos := "work.go:32", after := #[{ on := 9, ground := Go.Ground.data }, { on := 10, ground := Go.Ground.data }, { on := 10, ground := Go.Ground.chain }, { on := 8, ground := Go.Ground.guard }], guard := some (8, false) }) (v := undef) rfl (by kernel_rfl) (by kernel_rfl) (by kernel_rfl) (fun _ _ _ h => h) (Or.inr ⟨by rfl, rfl⟩) (by assumption) ?_
      try simp only [Act.put, List.setIfInBounds_toArray, List.set_cons_zero, List.set_cons_succ]
      refine wpAnyH_take (i := 12) (oi := { dst := some 19, op := Go.Op.binOp Go.BinOp.gtr 3 (Go.Operand.tmp 18) (Go.Operand.const (Go.Value.int Go.IntKind.i64 0)) 3, type := 4, pos := "work.go:32", after := #[{ on := 11, ground := Go.Ground.data }, { on := 8, ground := Go.Ground.guard }], guard := some (8, false) }) (v := undef) rfl (by kernel_rfl) (by kernel_rfl) (by kernel_rfl) (fun _ _ _ h => h) (Or.inr ⟨by rfl, rfl⟩) (by assumption) ?_
      try simp only [Act.put, List.setIfInBounds_toArray, List.set_cons_zero, List.set_cons_succ]
      refine wpAnyH_take (i := 13) (oi := { dst := some 20, op := Go.Op.pick (Go.Operand.tmp 15) (Go.Operand.const (Go.Value.bool true)) (Go.Operand.tmp 19), type := 4, pos := "work.go:32", after := #[{ on := 8, ground := Go.Ground.data }, { on := 12, ground := Go.Ground.data }], guard := none }) (v := ?bv13) rfl (by kernel_rfl) (by kernel_rfl) (by kernel_rfl) (fun _ _ _ h => h) (Or.inl ⟨by rfl, ?by13⟩) (by assumption) ?br13
      case by13 => (intro w hSw; (try dsimp only at hSw); go_simp; try (with_reducible rfl))
      case br13 =>
      try simp only [Act.put, List.setIfInBounds_toArray, List.set_cons_zero, List.set_cons_succ]
      refine wpAnyH_done (by kernel_rfl) ?_ _
      obtain ⟨qv5, qz5, hb5⟩ := hHeld
      have hn0 : n = 0 := by rw [HN.out]; unfold tgtN; rw [hbad]; rfl
      have her3 : er = .int .i64 3 := by rw [HER.out]; unfold tgtErr; rw [hbad]; rfl
      have QZ5 := Lib.hid qz5
      have QF := Lib.hid (irow_as (setRow_irow (ys := List.replicate 32 0) qz5) (show num n = _ by rw [hn0, num_zero]))
      have HBF := Lib.hid (below_setRow hb5 (Nat.le_refl _) zeroA)
      have HER3 := Lib.hid her3
      clear qv5 qz5 hb5 hn0 her3 hbad
      try dsimp only [Act.put]
      go_wp2_with (refine wpList_store_irow rfl 24 (.tmp 2) (.tmp 21) rfl (g := w.heap.size) (t := 24) (k := .u8) (xs := num 0) (ys := List.replicate 32 0) rfl rfl QZ5.out info_num (by rw [num_length]; rfl) ?_)
      rw [HER3.out]
      refine bodyPost_ret (v := .tuple #[numV n, .int .i64 3]) ?_ rfl ⟨rfl, HBF.out⟩
      exact results_row_tmp Tryd.results7 _ _ w.heap.size 24 (numA n) (0, 0) _ _ rfl rfl QF.out Tryd.underlying24 rfl (size_numNA n)
    · have heq : ∀ U, (Op.equalIn 10000 24 (.agg ((num v).map (Value.int .u8)).toArray) (.agg #[.int .u8 0, .int .u8 0, .int .u8 0, .int .u8 0, .int .u8 0, .int .u8 0, .int .u8 0, .int .u8 0, .int .u8 0, .int .u8 0, .int .u8 0, .int .u8 0, .int .u8 0, .int .u8 0, .int .u8 0, .int .u8 0, .int .u8 0, .int .u8 0, .int .u8 0, .int .u8 0, .int .u8 0, .int .u8 0, .int .u8 0, .int .u8 0, .int .u8 0, .int .u8 0, .int .u8 0, .int .u8 0, .int .u8 0, .int .u8 0, .int .u8 0, .int .u8 0])).run Tryd.prog U = .ok false U := fun U => by
        have h := eq_num_at 24 Tryd.underlying24 HVL.out top_pos U
        rw [decide_eq_false hv0] at h
        have e : numV 0 = (.agg #[.int .u8 0, .int .u8 0, .int .u8 0, .int .u8 0, .int .u8 0, .int .u8 0, .int .u8 0, .int .u8 0, .int .u8 0, .int .u8 0, .int .u8 0, .int .u8 0, .int .u8 0, .int .u8 0, .int .u8 0, .int .u8 0, .int .u8 0, .int .u8 0, .int .u8 0, .int .u8 0, .int .u8 0, .int .u8 0, .int .u8 0, .int .u8 0, .int .u8 0, .int .u8 0, .int .u8 0, .int .u8 0, .int .u8 0, .int .u8 0, .int .u8 0, .int .u8 0]) := by unfold numV; rw [numA_zero]; rfl
        rw [e] at h
        exact h
      by_cases hlm : limitN < v
      · have hbad : tgtB bs = false := by unfold tgtB; rw [decide_eq_false_iff_not, ← HV.out]; intro h; omega
        have hcm : decide (0 < cmpN v limitN) = true := by rw [cmp_gt]; exact decide_eq_true hlm
        clear hsg hv0 hlm
        refine wp_region_held_drew (S := (fun w' => IRow w' (G) 24 .u8 (num v) ∧ IRow w' w.heap.size 24 .u8 (num 0) ∧ Below w.heap.size w w')) (by kernel_rfl) ?_ (fun hHeld => ?_)
        · exact ⟨QV.out.drew, QZ.out.drew, below_drewN HB2.out 1⟩
        refine wpAnyH_take (i := 0) (oi := { dst := some 7, op := Go.Op.move (Go.Operand.tmp 0), type := 22, pos := "work.go:32", after := #[], guard := none }) (v := ?cv0) rfl (by kernel_rfl) (by kernel_rfl) (by kernel_rfl) (fun _ _ _ h => h) (Or.inl ⟨by rfl, ?cy0⟩) (by assumption) ?cr0
        case cy0 => (intro w hSw; (try dsimp only at hSw); go_simp; try (with_reducible rfl))
        case cr0 =>
        try simp only [Act.put, List.setIfInBounds_toArray, List.set_cons_zero, List.set_cons_succ]
        refine wpAnyH_take (i := 1) (oi := { dst := some 8, op := Go.Op.binOp Go.BinOp.and 22 (Go.Operand.tmp 7) (Go.Operand.const (Go.Value.int Go.IntKind.u32 8388608)) 22, type := 22, pos := "work.go:32", after := #[{ on := 0, ground := Go.Ground.data }], guard := none }) (v := ?cv1) rfl (by kernel_rfl) (by kernel_rfl) (by kernel_rfl) (fun _ _ _ h => h) (Or.inl ⟨by rfl, ?cy1⟩) (by assumption) ?cr1
        case cy1 => (intro w hSw; (try dsimp only at hSw); go_simp; try (with_reducible rfl))
        case cr1 =>
        try simp only [Act.put, List.setIfInBounds_toArray, List.set_cons_zero, List.set_cons_succ]
        refine wpAnyH_take (i := 2) (oi := { dst := some 9, op := Go.Op.binOp Go.BinOp.neq 22 (Go.Operand.tmp 8) (Go.Operand.const (Go.Value.int Go.IntKind.u32 0)) 22, type := 4, pos := "work.go:32", after := #[{ on := 1, ground := Go.Ground.data }], guard := none }) (v := ?cv2) rfl (by kernel_rfl) (by kernel_rfl) (by kernel_rfl) (fun _ _ _ h => h) (Or.inl ⟨by rfl, ?cy2⟩) (by assumption) ?cr2
        case cy2 => (intro w hSw; (try dsimp only at hSw); go_simp; try (with_reducible rfl))
        case cr2 =>
        try simp only [Act.put, List.setIfInBounds_toArray, List.set_cons_zero, List.set_cons_succ]
        refine wpAnyH_take (i := 3) (oi := { dst := some 10, op := Go.Op.move (Go.Operand.tmp 9), type := 4, pos := "work.go:32", after := #[{ on := 2, ground := Go.Ground.data }], guard := none }) (v := ?cv3) rfl (by kernel_rfl) (by kernel_rfl) (by kernel_rfl) (fun _ _ _ h => h) (Or.inl ⟨by rfl, ?cy3⟩) (by assumption) ?cr3
        case cy3 => (intro w hSw; (try dsimp only at hSw); go_simp; try (with_reducible rfl))
        case cr3 =>
        try simp only [Act.put, List.setIfInBounds_toArray, List.set_cons_zero, List.set_cons_succ]
        refine wpAnyH_take (i := 4) (oi := { dst := some 11, op := Go.Op.load 24 (Go.Operand.tmp 4), type := 24, pos := "work.go:32", after := #[{ on := 3, ground := Go.Ground.guard }], guard := some (3, false) }) (v := (.agg ((num v).map (Value.int .u8)).toArray)) rfl (by kernel_rfl) (by kernel_rfl) (by kernel_rfl) (fun _ _ _ h => h) (yieldsIf_load_mid (by rfl) 24 (.tmp 4) rfl (G) 0 rfl ((num v).map (Value.int .u8)) _ (fun w' h => h.1.range) Tryd.underlying24 rfl (by rw [List.length_map]; exact size_numN v)) (by assumption) ?_
        try simp only [Act.put, List.setIfInBounds_toArray, List.set_cons_zero, List.set_cons_succ]
        refine wpAnyH_take (i := 5) (oi := { dst := some 12, op := Go.Op.build 24 #[], type := 24, pos := "work.go:32", after := #[{ on := 3, ground := Go.Ground.guard }], guard := some (3, false) }) (v := ?cv5) rfl (by kernel_rfl) (by kernel_rfl) (by kernel_rfl) (fun _ _ _ h => h) (Or.inl ⟨by rfl, ?cy5⟩) (by assumption) ?cr5
        case cy5 => (intro w hSw; (try dsimp only at hSw); go_simp; try (with_reducible rfl))
        case cr5 =>
        try simp only [Act.put, List.setIfInBounds_toArray, List.set_cons_zero, List.set_cons_succ]
        refine wpAnyH_take (i := 6) (oi := { dst := some 13, op := Go.Op.binOp Go.BinOp.eql 24 (Go.Operand.tmp 11) (Go.Operand.tmp 12) 24, type := 4, pos := "work.go:32", after := #[{ on := 4, ground := Go.Ground.data }, { on := 5, ground := Go.Ground.data }, { on := 3, ground := Go.Ground.guard }], guard := some (3, false) }) (v := ?cv6) rfl (by kernel_rfl) (by kernel_rfl) (by kernel_rfl) (fun _ _ _ h => h) (Or.inl ⟨by rfl, ?cy6⟩) (by assumption) ?cr6
        case cy6 => (intro w hSw; (try dsimp only at hSw); go_simp; try (with_reducible rfl))
        case cr6 =>
        try simp only [Act.put, List.setIfInBounds_toArray, List.set_cons_zero, List.set_cons_succ]
        refine wpAnyH_take (i := 7) (oi := { dst := some 14, op := Go.Op.pick (Go.Operand.tmp 10) (Go.Operand.const (Go.Value.bool true)) (Go.Operand.tmp 13), type := 4, pos := "work.go:32", after := #[{ on := 3, ground := Go.Ground.data }, { on := 6, ground := Go.Ground.data }], guard := none }) (v := ?cv7) rfl (by kernel_rfl) (by kernel_rfl) (by kernel_rfl) (fun _ _ _ h => h) (Or.inl ⟨by rfl, ?cy7⟩) (by assumption) ?cr7
        case cy7 => (intro w hSw; (try dsimp only at hSw); go_simp; try (with_reducible rfl))
        case cr7 =>
        try simp only [Act.put, List.setIfInBounds_toArray, List.set_cons_zero, List.set_cons_succ]
        refine wpAnyH_take (i := 8) (oi := { dst := some 15, op := Go.Op.move (Go.Operand.tmp 14), type := 4, pos := "work.go:32", after := #[{ on := 7, ground := Go.Ground.data }, { on := 3, ground := Go.Ground.chain }], guard := none }) (v := ?cv8) rfl (by kernel_rfl) (by kernel_rfl) (by kernel_rfl) (fun _ _ _ h => h) (Or.inl ⟨by rfl, ?cy8⟩) (by assumption) ?cr8
        case cy8 => (intro w hSw; (try dsimp only at hSw); go_simp; try (with_reducible rfl))
        case cr8 =>
        try simp only [Act.put, List.setIfInBounds_toArray, List.set_cons_zero, List.set_cons_succ]
        refine wpAnyH_take (i := 9) (oi := { dst := some 16, op := Go.Op.load 24 (Go.Operand.tmp 4), type := 24, pos := "work.go:32", after := #[{ on := 8, ground := Go.Ground.guard }], guard := some (8, false) }) (v := (.agg ((num v).map (Value.int .u8)).toArray)) rfl (by kernel_rfl) (by kernel_rfl) (by kernel_rfl) (fun _ _ _ h => h) (yieldsIf_load_mid (by rfl) 24 (.tmp 4) rfl (G) 0 rfl ((num v).map (Value.int .u8)) _ (fun w' h => h.1.range) Tryd.underlying24 rfl (by rw [List.length_map]; exact size_numN v)) (by assumption) ?_
        try simp only [Act.put, List.setIfInBounds_toArray, List.set_cons_zero, List.set_cons_succ]
        refine wpAnyH_ready (rs := [10]) (by kernel_rfl) (by simp) ?_
        refine AllReadyH.cons (o := { dst := some 17, op := Go.Op.call { callee := Go.Callee.value (Go.Operand.func 23), args := #[], argTypes := #[] }, type := 24, pos := "work.go:32", after := #[{ on := 8, ground := Go.Ground.chain }, { on := 8, ground := Go.Ground.guard }], guard := some (8, false) }) rfl (fun K hK => ?_) (AllReadyH.nil)
        go_simp
        refine (limit_any _).mono ?_
        rintro e w4 ⟨rfl, hb4⟩
        go_simp
        refine hK.out _ _ ?_ (fun hHeld => ?_)
        · exact ⟨hHeld.1.below hb4 hHeld.1.lt, hHeld.2.1.below hb4 hHeld.2.1.lt, hHeld.2.2.trans (hb4.mono hHeld.2.2.size)⟩
        clear hK K
        try simp only [Act.put, List.setIfInBounds_toArray, List.set_cons_zero, List.set_cons_succ]
        refine wpAnyH_ready (rs := [11]) (by kernel_rfl) (by simp) ?_
        refine AllReadyH.cons (o := { dst := some 18, op := Go.Op.call { callee := Go.Callee.value (Go.Operand.func 13), args := #[Go.Operand.tmp 16, Go.Operand.tmp 17], argTypes := #[24, 24] }, type := 3, pos := "work.go:32", after := #[{ on := 9, ground := Go.Ground.data }, { on := 10, ground := Go.Ground.data }, { on := 10, ground := Go.Ground.chain }, { on := 8, ground := Go.Ground.guard }], guard := some (8, false) }) rfl (fun K hK => ?_) (AllReadyH.nil)
        go_simp
        refine (cmp_any v limitN _ HVL.out limit_lt).mono ?_
        rintro e w5 ⟨rfl, hb5⟩
        go_simp
        refine hK.out _ _ ?_ (fun hHeld => ?_)
        · exact ⟨hHeld.1.below hb5 hHeld.1.lt, hHeld.2.1.below hb5 hHeld.2.1.lt, hHeld.2.2.trans (hb5.mono hHeld.2.2.size)⟩
        clear hK K
        try simp only [Act.put, List.setIfInBounds_toArray, List.set_cons_zero, List.set_cons_succ]
        refine wpAnyH_take (i := 12) (oi := { dst := some 19, op := Go.Op.binOp Go.BinOp.gtr 3 (Go.Operand.tmp 18) (Go.Operand.const (Go.Value.int Go.IntKind.i64 0)) 3, type := 4, pos := "work.go:32", after := #[{ on := 11, ground := Go.Ground.data }, { on := 8, ground := Go.Ground.guard }], guard := some (8, false) }) (v := ?c_10_11v12) rfl (by kernel_rfl) (by kernel_rfl) (by kernel_rfl) (fun _ _ _ h => h) (Or.inl ⟨by rfl, ?c_10_11y12⟩) (by assumption) ?c_10_11r12
        case c_10_11y12 => (intro w hSw; (try dsimp only at hSw); go_simp; try (with_reducible rfl))
        case c_10_11r12 =>
        try simp only [Act.put, List.setIfInBounds_toArray, List.set_cons_zero, List.set_cons_succ]
        refine wpAnyH_take (i := 13) (oi := { dst := some 20, op := Go.Op.pick (Go.Operand.tmp 15) (Go.Operand.const (Go.Value.bool true)) (Go.Operand.tmp 19), type := 4, pos := "work.go:32", after := #[{ on := 8, ground := Go.Ground.data }, { on := 12, ground := Go.Ground.data }], guard := none }) (v := ?c_10_11v13) rfl (by kernel_rfl) (by kernel_rfl) (by kernel_rfl) (fun _ _ _ h => h) (Or.inl ⟨by rfl, ?c_10_11y13⟩) (by assumption) ?c_10_11r13
        case c_10_11y13 => (intro w hSw; (try dsimp only at hSw); go_simp; try (with_reducible rfl))
        case c_10_11r13 =>
        try simp only [Act.put, List.setIfInBounds_toArray, List.set_cons_zero, List.set_cons_succ]
        refine wpAnyH_done (by kernel_rfl) ?_ _
        obtain ⟨qv5, qz5, hb5⟩ := hHeld
        have hn0 : n = 0 := by rw [HN.out]; unfold tgtN; rw [hbad]; rfl
        have her3 : er = .int .i64 3 := by rw [HER.out]; unfold tgtErr; rw [hbad]; rfl
        have QZ5 := Lib.hid qz5
        have QF := Lib.hid (irow_as (setRow_irow (ys := List.replicate 32 0) qz5) (show num n = _ by rw [hn0, num_zero]))
        have HBF := Lib.hid (below_setRow hb5 (Nat.le_refl _) zeroA)
        have HER3 := Lib.hid her3
        clear qv5 qz5 hb5 hn0 her3 hbad
        try dsimp only [Act.put]
        go_wp2_with (refine wpList_store_irow rfl 24 (.tmp 2) (.tmp 21) rfl (g := w.heap.size) (t := 24) (k := .u8) (xs := num 0) (ys := List.replicate 32 0) rfl rfl QZ5.out info_num (by rw [num_length]; rfl) ?_)
        rw [HER3.out]
        refine bodyPost_ret (v := .tuple #[numV n, .int .i64 3]) ?_ rfl ⟨rfl, HBF.out⟩
        exact results_row_tmp Tryd.results7 _ _ w.heap.size 24 (numA n) (0, 0) _ _ rfl rfl QF.out Tryd.underlying24 rfl (size_numNA n)
      · have hgood : tgtB bs = true := by unfold tgtB; rw [decide_eq_true_eq, ← HV.out]; exact ⟨(sign_iff bs).2 hsg, hv0, by omega⟩
        have hcm : decide (0 < cmpN v limitN) = false := by rw [cmp_gt]; exact decide_eq_false hlm
        clear hsg hv0 hlm
        refine wp_region_held_drew (S := (fun w' => IRow w' (G) 24 .u8 (num v) ∧ IRow w' w.heap.size 24 .u8 (num 0) ∧ Below w.heap.size w w')) (by kernel_rfl) ?_ (fun hHeld => ?_)
        · exact ⟨QV.out.drew, QZ.out.drew, below_drewN HB2.out 1⟩
        refine wpAnyH_take (i := 0) (oi := { dst := some 7, op := Go.Op.move (Go.Operand.tmp 0), type := 22, pos := "work.go:32", after := #[], guard := none }) (v := ?dv0) rfl (by kernel_rfl) (by kernel_rfl) (by kernel_rfl) (fun _ _ _ h => h) (Or.inl ⟨by rfl, ?dy0⟩) (by assumption) ?dr0
        case dy0 => (intro w hSw; (try dsimp only at hSw); go_simp; try (with_reducible rfl))
        case dr0 =>
        try simp only [Act.put, List.setIfInBounds_toArray, List.set_cons_zero, List.set_cons_succ]
        refine wpAnyH_take (i := 1) (oi := { dst := some 8, op := Go.Op.binOp Go.BinOp.and 22 (Go.Operand.tmp 7) (Go.Operand.const (Go.Value.int Go.IntKind.u32 8388608)) 22, type := 22, pos := "work.go:32", after := #[{ on := 0, ground := Go.Ground.data }], guard := none }) (v := ?dv1) rfl (by kernel_rfl) (by kernel_rfl) (by kernel_rfl) (fun _ _ _ h => h) (Or.inl ⟨by rfl, ?dy1⟩) (by assumption) ?dr1
        case dy1 => (intro w hSw; (try dsimp only at hSw); go_simp; try (with_reducible rfl))
        case dr1 =>
        try simp only [Act.put, List.setIfInBounds_toArray, List.set_cons_zero, List.set_cons_succ]
        refine wpAnyH_take (i := 2) (oi := { dst := some 9, op := Go.Op.binOp Go.BinOp.neq 22 (Go.Operand.tmp 8) (Go.Operand.const (Go.Value.int Go.IntKind.u32 0)) 22, type := 4, pos := "work.go:32", after := #[{ on := 1, ground := Go.Ground.data }], guard := none }) (v := ?dv2) rfl (by kernel_rfl) (by kernel_rfl) (by kernel_rfl) (fun _ _ _ h => h) (Or.inl ⟨by rfl, ?dy2⟩) (by assumption) ?dr2
        case dy2 => (intro w hSw; (try dsimp only at hSw); go_simp; try (with_reducible rfl))
        case dr2 =>
        try simp only [Act.put, List.setIfInBounds_toArray, List.set_cons_zero, List.set_cons_succ]
        refine wpAnyH_take (i := 3) (oi := { dst := some 10, op := Go.Op.move (Go.Operand.tmp 9), type := 4, pos := "work.go:32", after := #[{ on := 2, ground := Go.Ground.data }], guard := none }) (v := ?dv3) rfl (by kernel_rfl) (by kernel_rfl) (by kernel_rfl) (fun _ _ _ h => h) (Or.inl ⟨by rfl, ?dy3⟩) (by assumption) ?dr3
        case dy3 => (intro w hSw; (try dsimp only at hSw); go_simp; try (with_reducible rfl))
        case dr3 =>
        try simp only [Act.put, List.setIfInBounds_toArray, List.set_cons_zero, List.set_cons_succ]
        refine wpAnyH_take (i := 4) (oi := { dst := some 11, op := Go.Op.load 24 (Go.Operand.tmp 4), type := 24, pos := "work.go:32", after := #[{ on := 3, ground := Go.Ground.guard }], guard := some (3, false) }) (v := (.agg ((num v).map (Value.int .u8)).toArray)) rfl (by kernel_rfl) (by kernel_rfl) (by kernel_rfl) (fun _ _ _ h => h) (yieldsIf_load_mid (by rfl) 24 (.tmp 4) rfl (G) 0 rfl ((num v).map (Value.int .u8)) _ (fun w' h => h.1.range) Tryd.underlying24 rfl (by rw [List.length_map]; exact size_numN v)) (by assumption) ?_
        try simp only [Act.put, List.setIfInBounds_toArray, List.set_cons_zero, List.set_cons_succ]
        refine wpAnyH_take (i := 5) (oi := { dst := some 12, op := Go.Op.build 24 #[], type := 24, pos := "work.go:32", after := #[{ on := 3, ground := Go.Ground.guard }], guard := some (3, false) }) (v := ?dv5) rfl (by kernel_rfl) (by kernel_rfl) (by kernel_rfl) (fun _ _ _ h => h) (Or.inl ⟨by rfl, ?dy5⟩) (by assumption) ?dr5
        case dy5 => (intro w hSw; (try dsimp only at hSw); go_simp; try (with_reducible rfl))
        case dr5 =>
        try simp only [Act.put, List.setIfInBounds_toArray, List.set_cons_zero, List.set_cons_succ]
        refine wpAnyH_take (i := 6) (oi := { dst := some 13, op := Go.Op.binOp Go.BinOp.eql 24 (Go.Operand.tmp 11) (Go.Operand.tmp 12) 24, type := 4, pos := "work.go:32", after := #[{ on := 4, ground := Go.Ground.data }, { on := 5, ground := Go.Ground.data }, { on := 3, ground := Go.Ground.guard }], guard := some (3, false) }) (v := ?dv6) rfl (by kernel_rfl) (by kernel_rfl) (by kernel_rfl) (fun _ _ _ h => h) (Or.inl ⟨by rfl, ?dy6⟩) (by assumption) ?dr6
        case dy6 => (intro w hSw; (try dsimp only at hSw); go_simp; try (with_reducible rfl))
        case dr6 =>
        try simp only [Act.put, List.setIfInBounds_toArray, List.set_cons_zero, List.set_cons_succ]
        refine wpAnyH_take (i := 7) (oi := { dst := some 14, op := Go.Op.pick (Go.Operand.tmp 10) (Go.Operand.const (Go.Value.bool true)) (Go.Operand.tmp 13), type := 4, pos := "work.go:32", after := #[{ on := 3, ground := Go.Ground.data }, { on := 6, ground := Go.Ground.data }], guard := none }) (v := ?dv7) rfl (by kernel_rfl) (by kernel_rfl) (by kernel_rfl) (fun _ _ _ h => h) (Or.inl ⟨by rfl, ?dy7⟩) (by assumption) ?dr7
        case dy7 => (intro w hSw; (try dsimp only at hSw); go_simp; try (with_reducible rfl))
        case dr7 =>
        try simp only [Act.put, List.setIfInBounds_toArray, List.set_cons_zero, List.set_cons_succ]
        refine wpAnyH_take (i := 8) (oi := { dst := some 15, op := Go.Op.move (Go.Operand.tmp 14), type := 4, pos := "work.go:32", after := #[{ on := 7, ground := Go.Ground.data }, { on := 3, ground := Go.Ground.chain }], guard := none }) (v := ?dv8) rfl (by kernel_rfl) (by kernel_rfl) (by kernel_rfl) (fun _ _ _ h => h) (Or.inl ⟨by rfl, ?dy8⟩) (by assumption) ?dr8
        case dy8 => (intro w hSw; (try dsimp only at hSw); go_simp; try (with_reducible rfl))
        case dr8 =>
        try simp only [Act.put, List.setIfInBounds_toArray, List.set_cons_zero, List.set_cons_succ]
        refine wpAnyH_take (i := 9) (oi := { dst := some 16, op := Go.Op.load 24 (Go.Operand.tmp 4), type := 24, pos := "work.go:32", after := #[{ on := 8, ground := Go.Ground.guard }], guard := some (8, false) }) (v := (.agg ((num v).map (Value.int .u8)).toArray)) rfl (by kernel_rfl) (by kernel_rfl) (by kernel_rfl) (fun _ _ _ h => h) (yieldsIf_load_mid (by rfl) 24 (.tmp 4) rfl (G) 0 rfl ((num v).map (Value.int .u8)) _ (fun w' h => h.1.range) Tryd.underlying24 rfl (by rw [List.length_map]; exact size_numN v)) (by assumption) ?_
        try simp only [Act.put, List.setIfInBounds_toArray, List.set_cons_zero, List.set_cons_succ]
        refine wpAnyH_ready (rs := [10]) (by kernel_rfl) (by simp) ?_
        refine AllReadyH.cons (o := { dst := some 17, op := Go.Op.call { callee := Go.Callee.value (Go.Operand.func 23), args := #[], argTypes := #[] }, type := 24, pos := "work.go:32", after := #[{ on := 8, ground := Go.Ground.chain }, { on := 8, ground := Go.Ground.guard }], guard := some (8, false) }) rfl (fun K hK => ?_) (AllReadyH.nil)
        go_simp
        refine (limit_any _).mono ?_
        rintro e w4 ⟨rfl, hb4⟩
        go_simp
        refine hK.out _ _ ?_ (fun hHeld => ?_)
        · exact ⟨hHeld.1.below hb4 hHeld.1.lt, hHeld.2.1.below hb4 hHeld.2.1.lt, hHeld.2.2.trans (hb4.mono hHeld.2.2.size)⟩
        clear hK K
        try simp only [Act.put, List.setIfInBounds_toArray, List.set_cons_zero, List.set_cons_succ]
        refine wpAnyH_ready (rs := [11]) (by kernel_rfl) (by simp) ?_
        refine AllReadyH.cons (o := { dst := some 18, op := Go.Op.call { callee := Go.Callee.value (Go.Operand.func 13), args := #[Go.Operand.tmp 16, Go.Operand.tmp 17], argTypes := #[24, 24] }, type := 3, pos := "work.go:32", after := #[{ on := 9, ground := Go.Ground.data }, { on := 10, ground := Go.Ground.data }, { on := 10, ground := Go.Ground.chain }, { on := 8, ground := Go.Ground.guard }], guard := some (8, false) }) rfl (fun K hK => ?_) (AllReadyH.nil)
        go_simp
        refine (cmp_any v limitN _ HVL.out limit_lt).mono ?_
        rintro e w5 ⟨rfl, hb5⟩
        go_simp
        refine hK.out _ _ ?_ (fun hHeld => ?_)
        · exact ⟨hHeld.1.below hb5 hHeld.1.lt, hHeld.2.1.below hb5 hHeld.2.1.lt, hHeld.2.2.trans (hb5.mono hHeld.2.2.size)⟩
        clear hK K
        try simp only [Act.put, List.setIfInBounds_toArray, List.set_cons_zero, List.set_cons_succ]
        refine wpAnyH_take (i := 12) (oi := { dst := some 19, op := Go.Op.binOp Go.BinOp.gtr 3 (Go.Operand.tmp 18) (Go.Operand.const (Go.Value.int Go.IntKind.i64 0)) 3, type := 4, pos := "work.go:32", after := #[{ on := 11, ground := Go.Ground.data }, { on := 8, ground := Go.Ground.guard }], guard := some (8, false) }) (v := ?d_10_11v12) rfl (by kernel_rfl) (by kernel_rfl) (by kernel_rfl) (fun _ _ _ h => h) (Or.inl ⟨by rfl, ?d_10_11y12⟩) (by assumption) ?d_10_11r12
        case d_10_11y12 => (intro w hSw; (try dsimp only at hSw); go_simp; try (with_reducible rfl))
        case d_10_11r12 =>
        try simp only [Act.put, List.setIfInBounds_toArray, List.set_cons_zero, List.set_cons_succ]
        refine wpAnyH_take (i := 13) (oi := { dst := some 20, op := Go.Op.pick (Go.Operand.tmp 15) (Go.Operand.const (Go.Value.bool true)) (Go.Operand.tmp 19), type := 4, pos := "work.go:32", after := #[{ on := 8, ground := Go.Ground.data }, { on := 12, ground := Go.Ground.data }], guard := none }) (v := ?d_10_11v13) rfl (by kernel_rfl) (by kernel_rfl) (by kernel_rfl) (fun _ _ _ h => h) (Or.inl ⟨by rfl, ?d_10_11y13⟩) (by assumption) ?d_10_11r13
        case d_10_11y13 => (intro w hSw; (try dsimp only at hSw); go_simp; try (with_reducible rfl))
        case d_10_11r13 =>
        try simp only [Act.put, List.setIfInBounds_toArray, List.set_cons_zero, List.set_cons_succ]
        refine wpAnyH_done (by kernel_rfl) ?_ _
        obtain ⟨qv5, qz5, hb5⟩ := hHeld
        have hn0 : n = v := by rw [HN.out, HV.out]; unfold tgtN; rw [hgood]; rfl
        have her3 : er = .int .i64 0 := by rw [HER.out]; unfold tgtErr; rw [hgood]; rfl
        rw [HG.out] at qv5
        have QV5 := Lib.hid qv5
        have QZ5 := Lib.hid qz5
        have QF := Lib.hid (setRow_irow (ys := num v) qz5)
        have HBF := Lib.hid (below_setRow hb5 (Nat.le_refl _) (numA v))
        have HER3 := Lib.hid her3
        have HN0 := Lib.hid hn0
        clear qv5 qz5 hb5 hn0 her3 hgood
        try dsimp only [Act.put]
        go_wp2_with (first
          | (refine wpList_load_irow rfl 24 (.tmp 4) rfl (g := w2.heap.size) (t := 24) (k := .u8) (xs := num v) rfl QV5.out Tryd.underlying24 (size_numN v) ?_)
          | (refine wpList_store_irow rfl 24 (.tmp 2) (.tmp 22) rfl (g := w.heap.size) (t := 24) (k := .u8) (xs := num 0) (ys := num v) rfl rfl QZ5.out (size_numN v) (same_length _ _) ?_))
        rw [HER3.out]
        refine bodyPost_ret (v := .tuple #[numV n, .int .i64 0]) ?_ rfl ⟨rfl, HBF.out⟩
        rw [show numV n = numV v by rw [HN0.out]]
        exact results_row_tmp Tryd.results7 _ _ w.heap.size 24 (numA v) (0, 0) _ _ rfl rfl QF.out Tryd.underlying24 rfl (size_numNA v)
  · have hand : bits .and .u32 (bs : Int) 8388608 = 8388608 := by have h := HAND.out; rw [show bs / 8388608 % 2 = 1 by omega] at h; exact h
    have hbad : tgtB bs = false := by unfold tgtB; rw [decide_eq_false_iff_not]; intro h; have := (sign_iff bs).1 h.1; omega
    clear hsg
    refine wp_region_held_drew (S := (fun w' => IRow w' (G) 24 .u8 (num v) ∧ IRow w' w.heap.size 24 .u8 (num 0) ∧ Below w.heap.size w w')) (by kernel_rfl) ?_ (fun hHeld => ?_)
    · exact ⟨QV.out.drew, QZ.out.drew, below_drewN HB2.out 1⟩
    refine wpAnyH_take (i := 0) (oi := { dst := some 7, op := Go.Op.move (Go.Operand.tmp 0), type := 22, pos := "work.go:32", after := #[], guard := none }) (v := ?av0) rfl (by kernel_rfl) (by kernel_rfl) (by kernel_rfl) (fun _ _ _ h => h) (Or.inl ⟨by rfl, ?ay0⟩) (by assumption) ?ar0
    case ay0 => (intro w hSw; (try dsimp only at hSw); go_simp; try (with_reducible rfl))
    case ar0 =>
    try simp only [Act.put, List.setIfInBounds_toArray, List.set_cons_zero, List.set_cons_succ]
    refine wpAnyH_take (i := 1) (oi := { dst := some 8, op := Go.Op.binOp Go.BinOp.and 22 (Go.Operand.tmp 7) (Go.Operand.const (Go.Value.int Go.IntKind.u32 8388608)) 22, type := 22, pos := "work.go:32", after := #[{ on := 0, ground := Go.Ground.data }], guard := none }) (v := ?av1) rfl (by kernel_rfl) (by kernel_rfl) (by kernel_rfl) (fun _ _ _ h => h) (Or.inl ⟨by rfl, ?ay1⟩) (by assumption) ?ar1
    case ay1 => (intro w hSw; (try dsimp only at hSw); go_simp; try (with_reducible rfl))
    case ar1 =>
    try simp only [Act.put, List.setIfInBounds_toArray, List.set_cons_zero, List.set_cons_succ]
    refine wpAnyH_take (i := 2) (oi := { dst := some 9, op := Go.Op.binOp Go.BinOp.neq 22 (Go.Operand.tmp 8) (Go.Operand.const (Go.Value.int Go.IntKind.u32 0)) 22, type := 4, pos := "work.go:32", after := #[{ on := 1, ground := Go.Ground.data }], guard := none }) (v := ?av2) rfl (by kernel_rfl) (by kernel_rfl) (by kernel_rfl) (fun _ _ _ h => h) (Or.inl ⟨by rfl, ?ay2⟩) (by assumption) ?ar2
    case ay2 => (intro w hSw; (try dsimp only at hSw); go_simp; try (with_reducible rfl))
    case ar2 =>
    try simp only [Act.put, List.setIfInBounds_toArray, List.set_cons_zero, List.set_cons_succ]
    refine wpAnyH_take (i := 3) (oi := { dst := some 10, op := Go.Op.move (Go.Operand.tmp 9), type := 4, pos := "work.go:32", after := #[{ on := 2, ground := Go.Ground.data }], guard := none }) (v := ?av3) rfl (by kernel_rfl) (by kernel_rfl) (by kernel_rfl) (fun _ _ _ h => h) (Or.inl ⟨by rfl, ?ay3⟩) (by assumption) ?ar3
    case ay3 => (intro w hSw; (try dsimp only at hSw); go_simp; try (with_reducible rfl))
    case ar3 =>
    try simp only [Act.put, List.setIfInBounds_toArray, List.set_cons_zero, List.set_cons_succ]
    refine wpAnyH_take (i := 4) (oi := { dst := some 11, op := Go.Op.load 24 (Go.Operand.tmp 4), type := 24, pos := "work.go:32", after := #[{ on := 3, ground := Go.Ground.guard }], guard := some (3, false) }) (v := undef) rfl (by kernel_rfl) (by kernel_rfl) (by kernel_rfl) (fun _ _ _ h => h) (Or.inr ⟨by rfl, rfl⟩) (by assumption) ?_
    try simp only [Act.put, List.setIfInBounds_toArray, List.set_cons_zero, List.set_cons_succ]
    refine wpAnyH_take (i := 5) (oi := { dst := some 12, op := Go.Op.build 24 #[], type := 24, pos := "work.go:32", after := #[{ on := 3, ground := Go.Ground.guard }], guard := some (3, false) }) (v := undef) rfl (by kernel_rfl) (by kernel_rfl) (by kernel_rfl) (fun _ _ _ h => h) (Or.inr ⟨by rfl, rfl⟩) (by assumption) ?_
    try simp only [Act.put, List.setIfInBounds_toArray, List.set_cons_zero, List.set_cons_succ]
    refine wpAnyH_take (i := 6) (oi := { dst := some 13, op := Go.Op.binOp Go.BinOp.eql 24 (Go.Operand.tmp 11) (Go.Operand.tmp 12) 24, type := 4, pos := "work.go:32", after := #[{ on := 4, ground := Go.Ground.data }, { on := 5, ground := Go.Ground.data }, { on := 3, ground := Go.Ground.guard }], guard := some (3, false) }) (v := undef) rfl (by kernel_rfl) (by kernel_rfl) (by kernel_rfl) (fun _ _ _ h => h) (Or.inr ⟨by rfl, rfl⟩) (by assumption) ?_
    try simp only [Act.put, List.setIfInBounds_toArray, List.set_cons_zero, List.set_cons_succ]
    refine wpAnyH_take (i := 7) (oi := { dst := some 14, op := Go.Op.pick (Go.Operand.tmp 10) (Go.Operand.const (Go.Value.bool true)) (Go.Operand.tmp 13), type := 4, pos := "work.go:32", after := #[{ on := 3, ground := Go.Ground.data }, { on := 6, ground := Go.Ground.data }], guard := none }) (v := ?av7) rfl (by kernel_rfl) (by kernel_rfl) (by kernel_rfl) (fun _ _ _ h => h) (Or.inl ⟨by rfl, ?ay7⟩) (by assumption) ?ar7
    case ay7 => (intro w hSw; (try dsimp only at hSw); go_simp; try (with_reducible rfl))
    case ar7 =>
    try simp only [Act.put, List.setIfInBounds_toArray, List.set_cons_zero, List.set_cons_succ]
    refine wpAnyH_take (i := 8) (oi := { dst := some 15, op := Go.Op.move (Go.Operand.tmp 14), type := 4, pos := "work.go:32", after := #[{ on := 7, ground := Go.Ground.data }, { on := 3, ground := Go.Ground.chain }], guard := none }) (v := ?av8) rfl (by kernel_rfl) (by kernel_rfl) (by kernel_rfl) (fun _ _ _ h => h) (Or.inl ⟨by rfl, ?ay8⟩) (by assumption) ?ar8
    case ay8 => (intro w hSw; (try dsimp only at hSw); go_simp; try (with_reducible rfl))
    case ar8 =>
    try simp only [Act.put, List.setIfInBounds_toArray, List.set_cons_zero, List.set_cons_succ]
    refine wpAnyH_take (i := 9) (oi := { dst := some 16, op := Go.Op.load 24 (Go.Operand.tmp 4), type := 24, pos := "work.go:32", after := #[{ on := 8, ground := Go.Ground.guard }], guard := some (8, false) }) (v := undef) rfl (by kernel_rfl) (by kernel_rfl) (by kernel_rfl) (fun _ _ _ h => h) (Or.inr ⟨by rfl, rfl⟩) (by assumption) ?_
    try simp only [Act.put, List.setIfInBounds_toArray, List.set_cons_zero, List.set_cons_succ]
    refine wpAnyH_take (i := 10) (oi := { dst := some 17, op := Go.Op.call { callee := Go.Callee.value (Go.Operand.func 23), args := #[], argTypes := #[] }, type := 24, pos := "work.go:32", after := #[{ on := 8, ground := Go.Ground.chain }, { on := 8, ground := Go.Ground.guard }], guard := some (8, false) }) (v := undef) rfl (by kernel_rfl) (by kernel_rfl) (by kernel_rfl) (fun _ _ _ h => h) (Or.inr ⟨by rfl, rfl⟩) (by assumption) ?_
    try simp only [Act.put, List.setIfInBounds_toArray, List.set_cons_zero, List.set_cons_succ]
    refine wpAnyH_take (i := 11) (oi := { dst := some 18, op := Go.Op.call { callee := Go.Callee.value (Go.Operand.func 13), args := #[Go.Operand.tmp 16, Go.Operand.tmp 17], argTypes := #[24, 24] }, type := 3, pos := "work.go:32", after := #[{ on := 9, ground := Go.Ground.data }, { on := 10, ground := Go.Ground.data }, { on := 10, ground := Go.Ground.chain }, { on := 8, ground := Go.Ground.guard }], guard := some (8, false) }) (v := undef) rfl (by kernel_rfl) (by kernel_rfl) (by kernel_rfl) (fun _ _ _ h => h) (Or.inr ⟨by rfl, rfl⟩) (by assumption) ?_
    try simp only [Act.put, List.setIfInBounds_toArray, List.set_cons_zero, List.set_cons_succ]
    refine wpAnyH_take (i := 12) (oi := { dst := some 19, op := Go.Op.binOp Go.BinOp.gtr 3 (Go.Operand.tmp 18) (Go.Operand.const (Go.Value.int Go.IntKind.i64 0)) 3, type := 4, pos := "work.go:32", after := #[{ on := 11, ground := Go.Ground.data }, { on := 8, ground := Go.Ground.guard }], guard := some (8, false) }) (v := undef) rfl (by kernel_rfl) (by kernel_rfl) (by kernel_rfl) (fun _ _ _ h => h) (Or.inr ⟨by rfl, rfl⟩) (by assumption) ?_
    try simp only [Act.put, List.setIfInBounds_toArray, List.set_cons_zero, List.set_cons_succ]
    refine wpAnyH_take (i := 13) (oi := { dst := some 20, op := Go.Op.pick (Go.Operand.tmp 15) (Go.Operand.const (Go.Value.bool true)) (Go.Operand.tmp 19), type := 4, pos := "work.go:32", after := #[{ on := 8, ground := Go.Ground.data }, { on := 12, ground := Go.Ground.data }], guard := none }) (v := ?av13) rfl (by kernel_rfl) (by kernel_rfl) (by kernel_rfl) (fun _ _ _ h => h) (Or.inl ⟨by rfl, ?ay13⟩) (by assumption) ?ar13
    case ay13 => (intro w hSw; (try dsimp only at hSw); go_simp; try (with_reducible rfl))
    case ar13 =>
    try simp only [Act.put, List.setIfInBounds_toArray, List.set_cons_zero, List.set_cons_succ]
    refine wpAnyH_done (by kernel_rfl) ?_ _
    obtain ⟨qv5, qz5, hb5⟩ := hHeld
    have hn0 : n = 0 := by rw [HN.out]; unfold tgtN; rw [hbad]; rfl
    have her3 : er = .int .i64 3 := by rw [HER.out]; unfold tgtErr; rw [hbad]; rfl
    have QZ5 := Lib.hid qz5
    have QF := Lib.hid (irow_as (setRow_irow (ys := List.replicate 32 0) qz5) (show num n = _ by rw [hn0, num_zero]))
    have HBF := Lib.hid (below_setRow hb5 (Nat.le_refl _) zeroA)
    have HER3 := Lib.hid her3
    clear qv5 qz5 hb5 hn0 her3 hbad
    try dsimp only [Act.put]
    go_wp2_with (refine wpList_store_irow rfl 24 (.tmp 2) (.tmp 21) rfl (g := w.heap.size) (t := 24) (k := .u8) (xs := num 0) (ys := List.replicate 32 0) rfl rfl QZ5.out info_num (by rw [num_length]; rfl) ?_)
    rw [HER3.out]
    refine bodyPost_ret (v := .tuple #[numV n, .int .i64 3]) ?_ rfl ⟨rfl, HBF.out⟩
    exact results_row_tmp Tryd.results7 _ _ w.heap.size 24 (numA n) (0, 0) _ _ rfl rfl QF.out Tryd.underlying24 rfl (size_numNA n)

end Go.Proofs.YtgkocmljnoambaaDoor
