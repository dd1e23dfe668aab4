/-
  fees: Enter. Conditions: names are of the two kinds that the laws use.
-/
import Derived.Test.YtfhpodeppmnopaaFeForget
namespace Go.Proofs.Ytfhpodeppmnopaa
open Go.RowKit

/-- A book behind a call that may have made its map. -/
def Entered (w w' : World) (c g : Nat) (m : Option Nat) (S : Bs) : Prop :=
  ∃ m', BookAt w' c g m' S ∧ Turns (fun i => i = g ∨ m = some i) w w' ∧ (m' = m ∨ (m = none ∧ ∃ b, m' = some b ∧ w.heap.size ≤ b))

/-- What a region that looks for a name leans on. -/
def EnS (c g G : Nat) (m : Option Nat) (K : List Int) (W : List Ent) (w : World) : Prop := w.cell? ⟨g, 312, none⟩ = some (.map m) ∧ IRow w G 45 .u8 K ∧ MapAt w c m W
theorem EnS.alloc {c g G : Nat} {m : Option Nat} {K : List Int} {W : List Ent} {w : World} (h : EnS c g G m K W w) (o : Obj) : EnS c g G m K W (w.alloc o) :=
  have t : Turns (fun _ => False) w (w.alloc o) := (Turns.refl _ w).alloc o
  ⟨by
    obtain ⟨h1, _⟩ := h
    have hl := World.block_lt_of_cell? _ _ h1
    exact (t.cell (p := ⟨g, 312, none⟩) hl (fun q => q)).trans h1, h.2.1.turns t (fun q => q), h.2.2.turns t (fun _ _ q => q)⟩
theorem EnS.drew {c g G : Nat} {m : Option Nat} {K : List Int} {W : List Ent} {w : World} (h : EnS c g G m K W w) : EnS c g G m K W w.drew := ⟨h.1, h.2.1, h.2.2.drew⟩
/-- A look-up that yields the same in every world that meets S. -/
theorem yieldsIf_lookup {ops : Array Oper} {S : World → Prop} {op : Oper} {a : Act} (hw : Region.wanted op (yielded ops a.tmps) = true) (t : TypeId) (m x : Operand) (ho : op.op = .lookup t m x true) (vm vx v : Value)
    (hm : a.eval m = vm) (hx : a.eval x = vx) (h : ∀ w, S w → (Instr.lookup t vm vx true).run Try.prog w = .ok v w) : YieldsIf Try.prog ops S op v a :=
  .inl ⟨hw, fun w hw' => by
    unfold execOp
    simp only [ho, hm, hx, h w hw', Sem.run_bind, Sem.run_pure, Result.andThen_ok]⟩

theorem map_nil_no (b : Nat) (w : World) : (binOp BinOp.eql 57 (.map (some b)) (.map none)).run Try.prog w = .ok (.bool false) w := by kernel_rfl
theorem map_nil_yes (w : World) : (binOp BinOp.eql 57 (.map none) (.map none)).run Try.prog w = .ok (.bool true) w := by kernel_rfl

set_option maxRecDepth 100000 in
set_option maxHeartbeats 3200000 in
theorem enter_any (c g id : Nat) (m : Option Nat) (S : Bs) (r ht : Int) (w : World) (hc : COk c) (hid : id < 256) (h : BookAt w c g m S) (hW : Wids S.W) (hnd : S.W.Pairwise (fun e e' => e.id ≠ e'.id))
    (g0 : -9223372036854775808 ≤ r) (g1 : r ≤ 9223372036854775807) :
    Calls Try.prog 11 #[.pointer (some ⟨g, 0, none⟩), nmV c id, .int .i64 r, .int .i64 ht] w fun e w' => e = .returned (.tuple #[]) ∧ Entered w w' c g m (enterF S id r ht) := by
  have hgm := h.1.not_map h.2
  have hmm := @run_makeMap Try.prog
  unfold nmV
  have hr := IRow.new w 45 .u8 (nmI c id)
  have b1 : Below w.heap.size w ((w.alloc (.cells ((nmI c id).map (Value.int .u8)).toArray 45)).drew) := (Below.refl _ w).alloc (Nat.le_refl _) _ |>.drew
  have hbk : BookAt ((w.alloc (.cells ((nmI c id).map (Value.int .u8)).toArray 45)).drew) c g m S := h.below b1
  have hi := size_hash (nmI c id) rfl
  have hkv : ∀ K, K = nmI c id → nmV c id = .agg (K.map (Value.int .u8)).toArray := fun K e => by rw [e]; rfl
  obtain ⟨K, hK⟩ : ∃ K, K = nmI c id := ⟨_, rfl⟩
  have hkv' := hkv K hK
  rw [← hK] at hr b1 hi hbk ⊢
  obtain ⟨w1, hw1⟩ : ∃ z, z = (w.alloc (.cells (K.map (Value.int .u8)).toArray 45)) := ⟨_, rfl⟩
  obtain ⟨G, hG⟩ : ∃ z, z = w.heap.size := ⟨_, rfl⟩
  rw [← hG, ← hw1] at hr
  rw [← hw1] at b1 hbk
  have hsz : w1.heap.size = G + 1 := by rw [hw1, hG]; simp
  have c1 : w1.drew.cell? ⟨g, 312, none⟩ = some (.map m) := hbk.1.map
  have hbkt := bucketOf_any r
  have R1 := Lib.hid hr
  have B1 := Lib.hid b1
  have HBK := Lib.hid hbk
  have HI := Lib.hid hi
  have HW1 := Lib.hid hw1
  have HG := Lib.hid hG
  have HH := Lib.hid h
  have HGM := Lib.hid hgm
  have HSZ := Lib.hid hsz
  have HKV := Lib.hid hkv'
  have HBT := Lib.hid hbkt
  cases hf : fIdx S.W id with
  | some i =>
    obtain ⟨e, he, _⟩ := fIdx_some hf
    have hlk : ∀ W', MapAt W' c m S.W → (Instr.lookup 57 (.map m) (.agg (K.map (Value.int .u8)).toArray) true).run Try.prog W' = .ok (.tuple #[wtV e, .bool true]) W' := fun W' hM => by
      rw [← hkv']
      exact hM.look_some hc hW hnd hid hf he
    have eF : enterF S id r ht = S := by unfold enterF; rw [hf]
    rw [eF]
    have hen : EnS c g G m K S.W w1 := ⟨c1, hr, hbk.2⟩
    have HEN := Lib.hid hen
    clear hen
    unfold wtV at hlk
    have HLK := Lib.hid hlk
    clear hlk hr b1 hi hw1 hK h hW hnd hid hbk hG hgm hsz hkv hkv' hbkt eF hf he
    go_enter Try.func11, Try.ntmps11
    go_upto_region 1 with fail
    change Code.wp _ _ _ _ (w.alloc (.cells (K.map (Value.int .u8)).toArray 45))
    rw [← HW1.out, show w.heap.size = G from HG.out.symm]
    clear HW1
    try dsimp only [Act.put]
    refine wp_region_held_drew (S := (EnS c g G m K S.W)) (by kernel_rfl) ?_ (fun hHeld => ?_)
    · exact HEN.out.drew
    refine wpAnyH_take (i := 0) (oi := { dst := some 11, op := Go.Op.move (Go.Operand.tmp 0), type := 24, pos := "fees.go:49", after := #[], guard := none }) (v := ?av0) rfl (by kernel_rfl) (by kernel_rfl) (by kernel_rfl) (fun _ _ _ h => h) (Or.inl ⟨by rfl, ?ay0⟩) (by assumption) ?ar0
    case ay0 => (intro w hSw; (try dsimp only at hSw); go_simp; try (with_reducible rfl))
    case ar0 =>
    try simp only [Act.put, List.setIfInBounds_toArray, List.set_cons_zero, List.set_cons_succ]
    refine wpAnyH_take (i := 1) (oi := { dst := some 12, op := Go.Op.nilCheck (Go.Operand.tmp 11), type := 0, pos := "fees.go:49", after := #[{ on := 0, ground := Go.Ground.data }], guard := none }) (v := ?av1) rfl (by kernel_rfl) (by kernel_rfl) (by kernel_rfl) (fun _ _ _ h => h) (Or.inl ⟨by rfl, ?ay1⟩) (by assumption) ?ar1
    case ay1 => (intro w hSw; (try dsimp only at hSw); go_simp; try (with_reducible rfl))
    case ar1 =>
    try simp only [Act.put, List.setIfInBounds_toArray, List.set_cons_zero, List.set_cons_succ]
    refine wpAnyH_take (i := 2) (oi := { dst := some 13, op := Go.Op.fieldAddr 59 (Go.Operand.tmp 12) 1, type := 0, pos := "fees.go:49", after := #[{ on := 1, ground := Go.Ground.data }], guard := none }) (v := ?av2) rfl (by kernel_rfl) (by kernel_rfl) (by kernel_rfl) (fun _ _ _ h => h) (Or.inl ⟨by rfl, ?ay2⟩) (by assumption) ?ar2
    case ay2 => (intro w hSw; (try dsimp only at hSw); go_simp; try (with_reducible rfl))
    case ar2 =>
    try simp only [Act.put, List.setIfInBounds_toArray, List.set_cons_zero, List.set_cons_succ]
    refine wpAnyH_take (i := 3) (oi := { dst := some 14, op := Go.Op.load 57 (Go.Operand.tmp 13), type := 57, pos := "fees.go:49", after := #[{ on := 2, ground := Go.Ground.data }], guard := none }) (v := (.map m)) rfl (by kernel_rfl) (by kernel_rfl) (by kernel_rfl) (fun _ _ _ h => h) (Or.inl ⟨by rfl, ?ay3⟩) (by assumption) ?ar3
    case ay3 => (intro w hSw; (try dsimp only at hSw); go_simp; try (simp [hSw.1]))
    case ar3 =>
    try simp only [Act.put, List.setIfInBounds_toArray, List.set_cons_zero, List.set_cons_succ]
    refine wpAnyH_take (i := 4) (oi := { dst := some 15, op := Go.Op.load 45 (Go.Operand.tmp 5), type := 45, pos := "fees.go:49", after := #[], guard := none }) (v := (.agg (K.map (Value.int .u8)).toArray)) rfl (by kernel_rfl) (by kernel_rfl) (by kernel_rfl) (fun _ _ _ h => h) (yieldsIf_load_mid (by rfl) 45 (.tmp 5) rfl G 0 rfl (K.map (Value.int .u8)) _ (fun w' h => irow_range0 h.2.1) Try.underlying45 rfl HI.out) (by assumption) ?_
    try simp only [Act.put, List.setIfInBounds_toArray, List.set_cons_zero, List.set_cons_succ]
    refine wpAnyH_take (i := 5) (oi := { dst := some 16, op := Go.Op.lookup 57 (Go.Operand.tmp 14) (Go.Operand.tmp 15) true, type := 70, pos := "fees.go:49", after := #[{ on := 3, ground := Go.Ground.data }, { on := 4, ground := Go.Ground.data }], guard := none }) (v := (.tuple #[.agg #[.int .i64 (e.bk : Int), .int .i64 e.ht], .bool true])) rfl (by kernel_rfl) (by kernel_rfl) (by kernel_rfl) (fun _ _ _ h => h) (yieldsIf_lookup (by rfl) 57 (.tmp 14) (.tmp 15) rfl _ _ _ rfl rfl (fun w' h => HLK.out w' h.2.2)) (by assumption) ?_
    try simp only [Act.put, List.setIfInBounds_toArray, List.set_cons_zero, List.set_cons_succ]
    refine wpAnyH_take (i := 6) (oi := { dst := some 10, op := Go.Op.move (Go.Operand.tmp 16), type := 70, pos := "fees.go:49", after := #[{ on := 5, ground := Go.Ground.data }], guard := none }) (v := ?av6) rfl (by kernel_rfl) (by kernel_rfl) (by kernel_rfl) (fun _ _ _ h => h) (Or.inl ⟨by rfl, ?ay6⟩) (by assumption) ?ar6
    case ay6 => (intro w hSw; (try dsimp only at hSw); go_simp; try (with_reducible rfl))
    case ar6 =>
    try simp only [Act.put, List.setIfInBounds_toArray, List.set_cons_zero, List.set_cons_succ]
    refine wpAnyH_take (i := 7) (oi := { dst := some 17, op := Go.Op.extract (Go.Operand.tmp 10) 0, type := 62, pos := "fees.go:49", after := #[{ on := 6, ground := Go.Ground.data }], guard := none }) (v := ?av7) rfl (by kernel_rfl) (by kernel_rfl) (by kernel_rfl) (fun _ _ _ h => h) (Or.inl ⟨by rfl, ?ay7⟩) (by assumption) ?ar7
    case ay7 => (intro w hSw; (try dsimp only at hSw); go_simp; try (with_reducible rfl))
    case ar7 =>
    try simp only [Act.put, List.setIfInBounds_toArray, List.set_cons_zero, List.set_cons_succ]
    refine wpAnyH_take (i := 8) (oi := { dst := some 18, op := Go.Op.extract (Go.Operand.tmp 10) 1, type := 4, pos := "fees.go:49", after := #[{ on := 6, ground := Go.Ground.data }, { on := 10, ground := Go.Ground.gcOnly Go.Departure.lateStores }], guard := none }) (v := ?av8) rfl (by kernel_rfl) (by kernel_rfl) (by kernel_rfl) (fun _ _ _ h => h) (Or.inl ⟨by rfl, ?ay8⟩) (by assumption) ?ar8
    case ay8 => (intro w hSw; (try dsimp only at hSw); go_simp; try (with_reducible rfl))
    case ar8 =>
    try simp only [Act.put, List.setIfInBounds_toArray, List.set_cons_zero, List.set_cons_succ]
    refine wpAnyH_ready (rs := [9]) (by kernel_rfl) (by simp) ?_
    refine AllReadyH.cons (o := { dst := some 8, op := Go.Op.alloc 62, type := 0, pos := "fees.go:49", after := #[], guard := none }) rfl (fun K hK => ?_) (AllReadyH.nil)
    go_simp
    refine hK.out _ _ ?_ (fun hHeld => ?_)
    · exact (HEN.out.alloc _).drew
    clear hK K
    try simp only [Act.put, List.setIfInBounds_toArray, List.set_cons_zero, List.set_cons_succ]
    refine wpAnyH_ready (rs := [10]) (by kernel_rfl) (by simp) ?_
    refine AllReadyH.cons (o := { dst := none, op := Go.Op.store 62 (Go.Operand.tmp 8) (Go.Operand.tmp 17), type := 0, pos := "fees.go:49", after := #[{ on := 9, ground := Go.Ground.data }, { on := 7, ground := Go.Ground.data }, { on := 0, ground := Go.Ground.phase }, { on := 1, ground := Go.Ground.phase }, { on := 2, ground := Go.Ground.phase }, { on := 3, ground := Go.Ground.phase }, { on := 4, ground := Go.Ground.phase }, { on := 5, ground := Go.Ground.phase }, { on := 6, ground := Go.Ground.phase }, { on := 7, ground := Go.Ground.phase }, { on := 8, ground := Go.Ground.textOnly Go.Departure.lateStores }, { on := 9, ground := Go.Ground.phase }], guard := none }) rfl (fun K hK => ?_) (AllReadyH.nil)
    go_simp
    refine hK.out _ _ ?_ (fun hHeld => ?_)
    · exact (HEN.out.alloc _).drew
    clear hK K
    try simp only [Act.put]
    refine wpAnyH_take (i := 11) (oi := { dst := some 9, op := Go.Op.assign (Go.Operand.tmp 18), type := 4, pos := "fees.go:49", after := #[{ on := 8, ground := Go.Ground.data }, { on := 10, ground := Go.Ground.chain }, { on := 0, ground := Go.Ground.phase }, { on := 1, ground := Go.Ground.phase }, { on := 2, ground := Go.Ground.phase }, { on := 3, ground := Go.Ground.phase }, { on := 4, ground := Go.Ground.phase }, { on := 5, ground := Go.Ground.phase }, { on := 6, ground := Go.Ground.phase }, { on := 7, ground := Go.Ground.phase }, { on := 8, ground := Go.Ground.phase }, { on := 9, ground := Go.Ground.phase }, { on := 10, ground := Go.Ground.phase }], guard := none }) (v := ?a_9_10v11) rfl (by kernel_rfl) (by kernel_rfl) (by kernel_rfl) (fun _ _ _ h => h) (Or.inl ⟨by rfl, ?a_9_10y11⟩) (by assumption) ?a_9_10r11
    case a_9_10y11 => (intro w hSw; (try dsimp only at hSw); go_simp; try (with_reducible rfl))
    case a_9_10r11 =>
    try simp only [Act.put, List.setIfInBounds_toArray, List.set_cons_zero, List.set_cons_succ]
    refine wpAnyH_done (by kernel_rfl) ?_ _
    go_wp2_with fail
    exact bodyPost_ret (results_none Try.results11 _ _ _) rfl ⟨rfl, m, HBK.out.below ((Below.refl _ w1.drew).alloc (Nat.le_refl _) _), Turns.of_below (B1.out.alloc (by rw [← HG.out, show w1.drew.heap.size = w1.heap.size from rfl, HSZ.out]; omega) _), .inl rfl⟩
  | none =>
    have hlk : ∀ W', MapAt W' c m S.W → (Instr.lookup 57 (.map m) (.agg (K.map (Value.int .u8)).toArray) true).run Try.prog W' = .ok (.tuple #[wtV ⟨0, 0, 0⟩, .bool false]) W' := fun W' hM => by
      rw [← hkv']
      exact hM.look_none hc hW hnd hid hf
    have eF : enterF S id r ht = ⟨S.A, S.I, S.W ++ [⟨id, bkF r, ht⟩]⟩ := by unfold enterF; rw [hf]
    rw [eF]
    have hen : EnS c g G m K S.W w1 := ⟨c1, hr, hbk.2⟩
    have hput : ∀ W' b, MapAt W' c (some b) S.W → ∃ w', (Instr.mapUpdate 57 (.map (some b)) (.agg (K.map (Value.int .u8)).toArray) (.agg #[.int .i64 (bkF r : Int), .int .i64 ht])).run Try.prog W' = .ok () w' ∧ MapAt w' c (some b) (S.W ++ [⟨id, bkF r, ht⟩]) ∧ Turns (fun i => i = b) W' w' := fun W' b hM => by
      rw [← hkv']
      exact hM.put hc hW hnd (e := ⟨id, bkF r, ht⟩) hid hf
    have HEN := Lib.hid hen
    have HPU := Lib.hid hput
    unfold wtV at hlk
    have HLK := Lib.hid hlk
    clear hen hput hlk hr b1 hi hw1 hK h hW hnd hid hbk hG hgm hsz hkv hkv' hbkt eF hf
    go_enter Try.func11, Try.ntmps11
    go_upto_region 1 with fail
    change Code.wp _ _ _ _ (w.alloc (.cells (K.map (Value.int .u8)).toArray 45))
    rw [← HW1.out, show w.heap.size = G from HG.out.symm]
    clear HW1
    try dsimp only [Act.put]
    refine wp_region_held_drew (S := (EnS c g G m K S.W)) (by kernel_rfl) ?_ (fun hHeld => ?_)
    · exact HEN.out.drew
    refine wpAnyH_take (i := 0) (oi := { dst := some 11, op := Go.Op.move (Go.Operand.tmp 0), type := 24, pos := "fees.go:49", after := #[], guard := none }) (v := ?bv0) rfl (by kernel_rfl) (by kernel_rfl) (by kernel_rfl) (fun _ _ _ h => h) (Or.inl ⟨by rfl, ?by0⟩) (by assumption) ?br0
    case by0 => (intro w hSw; (try dsimp only at hSw); go_simp; try (with_reducible rfl))
    case br0 =>
    try simp only [Act.put, List.setIfInBounds_toArray, List.set_cons_zero, List.set_cons_succ]
    refine wpAnyH_take (i := 1) (oi := { dst := some 12, op := Go.Op.nilCheck (Go.Operand.tmp 11), type := 0, pos := "fees.go:49", after := #[{ on := 0, ground := Go.Ground.data }], guard := none }) (v := ?bv1) rfl (by kernel_rfl) (by kernel_rfl) (by kernel_rfl) (fun _ _ _ h => h) (Or.inl ⟨by rfl, ?by1⟩) (by assumption) ?br1
    case by1 => (intro w hSw; (try dsimp only at hSw); go_simp; try (with_reducible rfl))
    case br1 =>
    try simp only [Act.put, List.setIfInBounds_toArray, List.set_cons_zero, List.set_cons_succ]
    refine wpAnyH_take (i := 2) (oi := { dst := some 13, op := Go.Op.fieldAddr 59 (Go.Operand.tmp 12) 1, type := 0, pos := "fees.go:49", after := #[{ on := 1, ground := Go.Ground.data }], guard := none }) (v := ?bv2) rfl (by kernel_rfl) (by kernel_rfl) (by kernel_rfl) (fun _ _ _ h => h) (Or.inl ⟨by rfl, ?by2⟩) (by assumption) ?br2
    case by2 => (intro w hSw; (try dsimp only at hSw); go_simp; try (with_reducible rfl))
    case br2 =>
    try simp only [Act.put, List.setIfInBounds_toArray, List.set_cons_zero, List.set_cons_succ]
    refine wpAnyH_take (i := 3) (oi := { dst := some 14, op := Go.Op.load 57 (Go.Operand.tmp 13), type := 57, pos := "fees.go:49", after := #[{ on := 2, ground := Go.Ground.data }], guard := none }) (v := (.map m)) rfl (by kernel_rfl) (by kernel_rfl) (by kernel_rfl) (fun _ _ _ h => h) (Or.inl ⟨by rfl, ?by3⟩) (by assumption) ?br3
    case by3 => (intro w hSw; (try dsimp only at hSw); go_simp; try (simp [hSw.1]))
    case br3 =>
    try simp only [Act.put, List.setIfInBounds_toArray, List.set_cons_zero, List.set_cons_succ]
    refine wpAnyH_take (i := 4) (oi := { dst := some 15, op := Go.Op.load 45 (Go.Operand.tmp 5), type := 45, pos := "fees.go:49", after := #[], guard := none }) (v := (.agg (K.map (Value.int .u8)).toArray)) rfl (by kernel_rfl) (by kernel_rfl) (by kernel_rfl) (fun _ _ _ h => h) (yieldsIf_load_mid (by rfl) 45 (.tmp 5) rfl G 0 rfl (K.map (Value.int .u8)) _ (fun w' h => irow_range0 h.2.1) Try.underlying45 rfl HI.out) (by assumption) ?_
    try simp only [Act.put, List.setIfInBounds_toArray, List.set_cons_zero, List.set_cons_succ]
    refine wpAnyH_take (i := 5) (oi := { dst := some 16, op := Go.Op.lookup 57 (Go.Operand.tmp 14) (Go.Operand.tmp 15) true, type := 70, pos := "fees.go:49", after := #[{ on := 3, ground := Go.Ground.data }, { on := 4, ground := Go.Ground.data }], guard := none }) (v := (.tuple #[.agg #[.int .i64 ((0 : Nat) : Int), .int .i64 0], .bool false])) rfl (by kernel_rfl) (by kernel_rfl) (by kernel_rfl) (fun _ _ _ h => h) (yieldsIf_lookup (by rfl) 57 (.tmp 14) (.tmp 15) rfl _ _ _ rfl rfl (fun w' h => HLK.out w' h.2.2)) (by assumption) ?_
    try simp only [Act.put, List.setIfInBounds_toArray, List.set_cons_zero, List.set_cons_succ]
    refine wpAnyH_take (i := 6) (oi := { dst := some 10, op := Go.Op.move (Go.Operand.tmp 16), type := 70, pos := "fees.go:49", after := #[{ on := 5, ground := Go.Ground.data }], guard := none }) (v := ?bv6) rfl (by kernel_rfl) (by kernel_rfl) (by kernel_rfl) (fun _ _ _ h => h) (Or.inl ⟨by rfl, ?by6⟩) (by assumption) ?br6
    case by6 => (intro w hSw; (try dsimp only at hSw); go_simp; try (with_reducible rfl))
    case br6 =>
    try simp only [Act.put, List.setIfInBounds_toArray, List.set_cons_zero, List.set_cons_succ]
    refine wpAnyH_take (i := 7) (oi := { dst := some 17, op := Go.Op.extract (Go.Operand.tmp 10) 0, type := 62, pos := "fees.go:49", after := #[{ on := 6, ground := Go.Ground.data }], guard := none }) (v := ?bv7) rfl (by kernel_rfl) (by kernel_rfl) (by kernel_rfl) (fun _ _ _ h => h) (Or.inl ⟨by rfl, ?by7⟩) (by assumption) ?br7
    case by7 => (intro w hSw; (try dsimp only at hSw); go_simp; try (with_reducible rfl))
    case br7 =>
    try simp only [Act.put, List.setIfInBounds_toArray, List.set_cons_zero, List.set_cons_succ]
    refine wpAnyH_take (i := 8) (oi := { dst := some 18, op := Go.Op.extract (Go.Operand.tmp 10) 1, type := 4, pos := "fees.go:49", after := #[{ on := 6, ground := Go.Ground.data }, { on := 10, ground := Go.Ground.gcOnly Go.Departure.lateStores }], guard := none }) (v := ?bv8) rfl (by kernel_rfl) (by kernel_rfl) (by kernel_rfl) (fun _ _ _ h => h) (Or.inl ⟨by rfl, ?by8⟩) (by assumption) ?br8
    case by8 => (intro w hSw; (try dsimp only at hSw); go_simp; try (with_reducible rfl))
    case br8 =>
    try simp only [Act.put, List.setIfInBounds_toArray, List.set_cons_zero, List.set_cons_succ]
    refine wpAnyH_ready (rs := [9]) (by kernel_rfl) (by simp) ?_
    refine AllReadyH.cons (o := { dst := some 8, op := Go.Op.alloc 62, type := 0, pos := "fees.go:49", after := #[], guard := none }) rfl (fun K hK => ?_) (AllReadyH.nil)
    go_simp
    refine hK.out _ _ ?_ (fun hHeld => ?_)
    · exact (HEN.out.alloc _).drew
    clear hK K
    try simp only [Act.put, List.setIfInBounds_toArray, List.set_cons_zero, List.set_cons_succ]
    refine wpAnyH_ready (rs := [10]) (by kernel_rfl) (by simp) ?_
    refine AllReadyH.cons (o := { dst := none, op := Go.Op.store 62 (Go.Operand.tmp 8) (Go.Operand.tmp 17), type := 0, pos := "fees.go:49", after := #[{ on := 9, ground := Go.Ground.data }, { on := 7, ground := Go.Ground.data }, { on := 0, ground := Go.Ground.phase }, { on := 1, ground := Go.Ground.phase }, { on := 2, ground := Go.Ground.phase }, { on := 3, ground := Go.Ground.phase }, { on := 4, ground := Go.Ground.phase }, { on := 5, ground := Go.Ground.phase }, { on := 6, ground := Go.Ground.phase }, { on := 7, ground := Go.Ground.phase }, { on := 8, ground := Go.Ground.textOnly Go.Departure.lateStores }, { on := 9, ground := Go.Ground.phase }], guard := none }) rfl (fun K hK => ?_) (AllReadyH.nil)
    go_simp
    refine hK.out _ _ ?_ (fun hHeld => ?_)
    · exact (HEN.out.alloc _).drew
    clear hK K
    try simp only [Act.put]
    refine wpAnyH_take (i := 11) (oi := { dst := some 9, op := Go.Op.assign (Go.Operand.tmp 18), type := 4, pos := "fees.go:49", after := #[{ on := 8, ground := Go.Ground.data }, { on := 10, ground := Go.Ground.chain }, { on := 0, ground := Go.Ground.phase }, { on := 1, ground := Go.Ground.phase }, { on := 2, ground := Go.Ground.phase }, { on := 3, ground := Go.Ground.phase }, { on := 4, ground := Go.Ground.phase }, { on := 5, ground := Go.Ground.phase }, { on := 6, ground := Go.Ground.phase }, { on := 7, ground := Go.Ground.phase }, { on := 8, ground := Go.Ground.phase }, { on := 9, ground := Go.Ground.phase }, { on := 10, ground := Go.Ground.phase }], guard := none }) (v := ?b_9_10v11) rfl (by kernel_rfl) (by kernel_rfl) (by kernel_rfl) (fun _ _ _ h => h) (Or.inl ⟨by rfl, ?b_9_10y11⟩) (by assumption) ?b_9_10r11
    case b_9_10y11 => (intro w hSw; (try dsimp only at hSw); go_simp; try (with_reducible rfl))
    case b_9_10r11 =>
    try simp only [Act.put, List.setIfInBounds_toArray, List.set_cons_zero, List.set_cons_succ]
    refine wpAnyH_done (by kernel_rfl) ?_ _
    have hb2 := HBK.out.below (((Below.refl _ w1.drew).alloc (Nat.le_refl _) (.cells #[Value.int IntKind.i64 ((0 : Nat) : Int), Value.int IntKind.i64 0] 62)).drew)
    have t2 := Turns.of_below (S := fun i => i = g ∨ m = some i) ((B1.out.alloc (by rw [← HG.out, show w1.drew.heap.size = w1.heap.size from rfl, HSZ.out]; omega) (.cells #[Value.int IntKind.i64 ((0 : Nat) : Int), Value.int IntKind.i64 0] 62)))
    have r2 : IRow (w1.alloc (.cells #[Value.int IntKind.i64 ((0 : Nat) : Int), Value.int IntKind.i64 0] 62)).drew G 45 .u8 K := (R1.out.alloc _).drew
    obtain ⟨w2, hw2⟩ : ∃ z, z = (w1.alloc (.cells #[Value.int IntKind.i64 ((0 : Nat) : Int), Value.int IntKind.i64 0] 62)).drew := ⟨_, rfl⟩
    change Exit.then _ _ Exit.normal _ (w1.alloc (.cells #[Value.int IntKind.i64 ((0 : Nat) : Int), Value.int IntKind.i64 0] 62)).drew
    rw [← hw2]
    replace hb2 : BookAt w2 c g m S := by rw [hw2]; exact hb2
    replace t2 : Turns (fun i => i = g ∨ m = some i) w w2 := by rw [hw2]; exact t2
    rw [← hw2] at r2
    have hz2 : w.heap.size ≤ w2.heap.size := t2.size
    cases m with
    | some b =>
      have c2 : w2.cell? ⟨g, 312, none⟩ = some (.map (some b)) := hb2.1.map
      have q2 := map_nil_no b w2
      have HB3 := Lib.hid hb2.drew
      have R3 := Lib.hid r2
      have T3 := Lib.hid t2
      have HPUT := Lib.hid (HPU.out w2.drew b hb2.2.drew)
      have HBG := Lib.hid (show ¬ g = b from fun q => HGM.out (by rw [q]))
      have HGB := Lib.hid (show ¬ G = b from fun q => irow_not_map r2 hb2.2 (by rw [q]))
      have HTB := Lib.hid (show ∀ i, i < w.heap.size → i = b → (i = g ∨ some b = some i) from fun i _ q => .inr (by rw [q]))
      clear hb2 r2 t2 hw2 hz2
      go_wp2_with fail
      refine wp_region_held_drew (S := (fun w' => w'.cell? ⟨g, 312, none⟩ = some (.map (some b)) ∧ IRow w' G 45 .u8 K)) (by kernel_rfl) ?_ (fun hHeld => ?_)
      · exact ⟨HB3.out.1.map, R3.out.drew⟩
      refine wpAnyH_take (i := 0) (oi := { dst := some 29, op := Go.Op.move (Go.Operand.tmp 0), type := 24, pos := "fees.go:55", after := #[], guard := none }) (v := ?cv0) rfl (by kernel_rfl) (by kernel_rfl) (by kernel_rfl) (fun _ _ _ h => h) (Or.inl ⟨by rfl, ?cy0⟩) (by assumption) ?cr0
      case cy0 => (intro w hSw; (try dsimp only at hSw); go_simp; try (with_reducible rfl))
      case cr0 =>
      try simp only [Act.put, List.setIfInBounds_toArray, List.set_cons_zero, List.set_cons_succ]
      refine wpAnyH_take (i := 1) (oi := { dst := some 30, op := Go.Op.nilCheck (Go.Operand.tmp 29), type := 0, pos := "fees.go:55", after := #[{ on := 0, ground := Go.Ground.data }], guard := none }) (v := ?cv1) rfl (by kernel_rfl) (by kernel_rfl) (by kernel_rfl) (fun _ _ _ h => h) (Or.inl ⟨by rfl, ?cy1⟩) (by assumption) ?cr1
      case cy1 => (intro w hSw; (try dsimp only at hSw); go_simp; try (with_reducible rfl))
      case cr1 =>
      try simp only [Act.put, List.setIfInBounds_toArray, List.set_cons_zero, List.set_cons_succ]
      refine wpAnyH_take (i := 2) (oi := { dst := some 31, op := Go.Op.fieldAddr 59 (Go.Operand.tmp 30) 1, type := 0, pos := "fees.go:55", after := #[{ on := 1, ground := Go.Ground.data }], guard := none }) (v := ?cv2) rfl (by kernel_rfl) (by kernel_rfl) (by kernel_rfl) (fun _ _ _ h => h) (Or.inl ⟨by rfl, ?cy2⟩) (by assumption) ?cr2
      case cy2 => (intro w hSw; (try dsimp only at hSw); go_simp; try (with_reducible rfl))
      case cr2 =>
      try simp only [Act.put, List.setIfInBounds_toArray, List.set_cons_zero, List.set_cons_succ]
      refine wpAnyH_take (i := 3) (oi := { dst := some 32, op := Go.Op.load 57 (Go.Operand.tmp 31), type := 57, pos := "fees.go:55", after := #[{ on := 2, ground := Go.Ground.data }], guard := none }) (v := (.map (some b))) rfl (by kernel_rfl) (by kernel_rfl) (by kernel_rfl) (fun _ _ _ h => h) (Or.inl ⟨by rfl, ?cy3⟩) (by assumption) ?cr3
      case cy3 => (intro w hSw; (try dsimp only at hSw); go_simp; try (simp [hSw.1]))
      case cr3 =>
      try simp only [Act.put, List.setIfInBounds_toArray, List.set_cons_zero, List.set_cons_succ]
      refine wpAnyH_take (i := 4) (oi := { dst := some 33, op := Go.Op.load 45 (Go.Operand.tmp 5), type := 45, pos := "fees.go:55", after := #[], guard := none }) (v := (.agg (K.map (Value.int .u8)).toArray)) rfl (by kernel_rfl) (by kernel_rfl) (by kernel_rfl) (fun _ _ _ h => h) (yieldsIf_load_mid (by rfl) 45 (.tmp 5) rfl G 0 rfl (K.map (Value.int .u8)) _ (fun w' h => irow_range0 h.2) Try.underlying45 rfl HI.out) (by assumption) ?_
      try simp only [Act.put, List.setIfInBounds_toArray, List.set_cons_zero, List.set_cons_succ]
      refine wpAnyH_take (i := 5) (oi := { dst := some 34, op := Go.Op.move (Go.Operand.tmp 2), type := 2, pos := "fees.go:55", after := #[], guard := none }) (v := ?cv5) rfl (by kernel_rfl) (by kernel_rfl) (by kernel_rfl) (fun _ _ _ h => h) (Or.inl ⟨by rfl, ?cy5⟩) (by assumption) ?cr5
      case cy5 => (intro w hSw; (try dsimp only at hSw); go_simp; try (with_reducible rfl))
      case cr5 =>
      try simp only [Act.put, List.setIfInBounds_toArray, List.set_cons_zero, List.set_cons_succ]
      refine wpAnyH_take (i := 7) (oi := { dst := some 36, op := Go.Op.move (Go.Operand.tmp 3), type := 3, pos := "fees.go:55", after := #[], guard := none }) (v := ?cv7) rfl (by kernel_rfl) (by kernel_rfl) (by kernel_rfl) (fun _ _ _ h => h) (Or.inl ⟨by rfl, ?cy7⟩) (by assumption) ?cr7
      case cy7 => (intro w hSw; (try dsimp only at hSw); go_simp; try (with_reducible rfl))
      case cr7 =>
      try simp only [Act.put, List.setIfInBounds_toArray, List.set_cons_zero, List.set_cons_succ]
      refine wpAnyH_ready (rs := [6]) (by kernel_rfl) (by simp) ?_
      refine AllReadyH.cons (o := { dst := some 35, op := Go.Op.call { callee := Go.Callee.value (Go.Operand.func 24), args := #[Go.Operand.tmp 34], argTypes := #[2] }, type := 3, pos := "fees.go:55", after := #[{ on := 5, ground := Go.Ground.data }], guard := none }) rfl (fun K hK => ?_) (AllReadyH.nil)
      go_simp
      refine (HBT.out _ g0 g1).mono ?_
      rintro e w4 ⟨rfl, rfl⟩
      refine hK.out _ _ ?_ (fun hHeld => ?_)
      · exact hHeld
      clear hK K
      try simp only [Act.put, List.setIfInBounds_toArray, List.set_cons_zero, List.set_cons_succ]
      refine wpAnyH_take (i := 8) (oi := { dst := some 37, op := Go.Op.build 62 #[(0, Go.Operand.tmp 35), (1, Go.Operand.tmp 36)], type := 62, pos := "fees.go:55", after := #[{ on := 6, ground := Go.Ground.data }, { on := 7, ground := Go.Ground.data }], guard := none }) (v := (.agg #[.int .i64 (bkF r : Int), .int .i64 ht])) rfl (by kernel_rfl) (by kernel_rfl) (by kernel_rfl) (fun _ _ _ h => h) (Or.inl ⟨by rfl, ?c_6y8⟩) (by assumption) ?c_6r8
      case c_6y8 => (intro w hSw; (try dsimp only at hSw); go_simp; try (with_reducible rfl))
      case c_6r8 =>
      try simp only [Act.put, List.setIfInBounds_toArray, List.set_cons_zero, List.set_cons_succ]
      refine wpAnyH_ready (rs := [9]) (by kernel_rfl) (by simp) ?_
      refine AllReadyH.cons (o := { dst := none, op := Go.Op.mapUpdate 57 (Go.Operand.tmp 32) (Go.Operand.tmp 33) (Go.Operand.tmp 37), type := 0, pos := "fees.go:55", after := #[{ on := 3, ground := Go.Ground.data }, { on := 4, ground := Go.Ground.data }, { on := 8, ground := Go.Ground.data }, { on := 6, ground := Go.Ground.chain }, { on := 0, ground := Go.Ground.phase }, { on := 1, ground := Go.Ground.phase }, { on := 2, ground := Go.Ground.phase }, { on := 3, ground := Go.Ground.phase }, { on := 4, ground := Go.Ground.phase }, { on := 5, ground := Go.Ground.phase }, { on := 6, ground := Go.Ground.phase }, { on := 7, ground := Go.Ground.phase }, { on := 8, ground := Go.Ground.phase }], guard := none }) rfl (fun K hK => ?_) (AllReadyH.nil)
      obtain ⟨w5, hr5, hm5, ht5⟩ := HPUT.out
      go_simp
      refine hK.out _ _ ?_ (fun hHeld => ?_)
      · exact ⟨(HB3.out.1.turns (S := fun i => i = b) ht5 (HBG.out)).map, R3.out.drew.turns ht5 HGB.out⟩
      clear hK K
      try simp only [Act.put]
      refine wpAnyH_done (by kernel_rfl) ?_ _
      exact bodyPost_end (results_none Try.results11 _ _ _) rfl ⟨rfl, some b, ⟨HB3.out.1.turns (S := fun i => i = b) ht5 HBG.out, hm5⟩, T3.out.drew.trans ht5 (HTB.out), .inl rfl⟩
    | none =>
      have c2 : w2.cell? ⟨g, 312, none⟩ = some (.map none) := hb2.1.map
      have q2 := map_nil_yes w2
      have f2 := hb2.1.free 312
      have hWn : S.W = [] := hb2.2
      obtain ⟨b, hb⟩ : ∃ b, b = w2.heap.size := ⟨_, rfl⟩
      have hgl := hb2.1.lt
      have hGl := r2.lt
      have t3 : Turns (fun i => i = g ∨ none = some i) w ((w2.alloc (.map #[] 0)).setCell ⟨g, 312, none⟩ (.map (some w2.heap.size))) := Turns.setCell (S := fun i => i = g ∨ none = some i) (t2.alloc _) (p := ⟨g, 312, none⟩) (fun _ => .inl rfl) _
      have ca := (hb2.1.turns (S := fun _ => False) ((Turns.refl _ w2).alloc (.map #[] 0)) (fun q => q)).setM (some w2.heap.size)
      have hm3 : MapAt ((w2.alloc (.map #[] 0)).setCell ⟨g, 312, none⟩ (.map (some w2.heap.size))) c (some w2.heap.size) S.W := by
        refine ⟨#[], 0, ?_, MapKept.stamped_empty 0, by rw [hWn]; rfl⟩
        rw [Below.heap_setCell _ _ _ _ (by show w2.heap.size ≠ g; omega)]
        exact heap_alloc_new w2 _
      have r3 : IRow ((w2.alloc (.map #[] 0)).setCell ⟨g, 312, none⟩ (.map (some w2.heap.size))) G 45 .u8 K := (r2.alloc _).setCell (fun q => by
        have q' : g = G := q
        obtain ⟨us, hu, _⟩ := hb2.1
        subst q'
        have h1 : w2.heap[g]? = _ := hu
        have h2 : w2.heap[g]? = _ := r2
        rw [h1] at h2
        injection h2 with h2
        injection h2 with _ h2
        exact absurd h2 (by decide)) _
      obtain ⟨w3, hw3⟩ : ∃ z, z = (w2.alloc (.map #[] 0)).setCell ⟨g, 312, none⟩ (.map (some w2.heap.size)) := ⟨_, rfl⟩
      rw [← hw3] at t3 ca hm3 r3
      rw [← hb] at ca hm3
      have HW3 := Lib.hid hw3
      have HB := Lib.hid hb
      have c3 : ∀ o, (w2.alloc o).cell? ⟨g, 312, none⟩ = some (.map none) := fun o => (((Turns.refl (fun _ => False) w2).alloc o).cell (p := ⟨g, 312, none⟩) hgl (fun q => q)).trans c2
      have f3 : ∀ o, (w2.alloc o).frozen? ⟨g, 312, none⟩ = false := fun o => (((Turns.refl (fun _ => False) w2).alloc o).frozen (p := ⟨g, 312, none⟩) hgl (fun q => q)).trans f2
      have HB3 := Lib.hid (show BookAt w3.drew c g (some b) S from ⟨ca.drew, hm3.drew⟩)
      have R3 := Lib.hid r3
      have T3 := Lib.hid t3
      have HPUT := Lib.hid (HPU.out w3.drew b hm3.drew)
      have HBG := Lib.hid (show ¬ g = b by omega)
      have HGB := Lib.hid (show ¬ G = b by omega)
      have HTB := Lib.hid (show ∀ i, i < w.heap.size → i = b → (i = g ∨ none = some i) from fun i hi q => by omega)
      have HOR := Lib.hid (show some b = none ∨ ((none : Option Nat) = none ∧ ∃ b', some b = some b' ∧ w.heap.size ≤ b') from .inr ⟨rfl, b, rfl, by omega⟩)
      clear hb2 r2 t2 hw2 hz2 hWn hgl hGl t3 ca hm3 r3 hw3 hb f2
      go_upto_region 5 with fail
      change Code.wp _ _ _ _ ((w2.alloc (.map #[] 0)).setCell ⟨g, 312, none⟩ (.map (some w2.heap.size)))
      rw [← HW3.out, show w2.heap.size = b from HB.out.symm]
      clear HW3
      try dsimp only [Act.put]
      refine wp_region_held_drew (S := (fun w' => w'.cell? ⟨g, 312, none⟩ = some (.map (some b)) ∧ IRow w' G 45 .u8 K)) (by kernel_rfl) ?_ (fun hHeld => ?_)
      · exact ⟨HB3.out.1.map, R3.out.drew⟩
      refine wpAnyH_take (i := 0) (oi := { dst := some 29, op := Go.Op.move (Go.Operand.tmp 0), type := 24, pos := "fees.go:55", after := #[], guard := none }) (v := ?dv0) rfl (by kernel_rfl) (by kernel_rfl) (by kernel_rfl) (fun _ _ _ h => h) (Or.inl ⟨by rfl, ?dy0⟩) (by assumption) ?dr0
      case dy0 => (intro w hSw; (try dsimp only at hSw); go_simp; try (with_reducible rfl))
      case dr0 =>
      try simp only [Act.put, List.setIfInBounds_toArray, List.set_cons_zero, List.set_cons_succ]
      refine wpAnyH_take (i := 1) (oi := { dst := some 30, op := Go.Op.nilCheck (Go.Operand.tmp 29), type := 0, pos := "fees.go:55", after := #[{ on := 0, ground := Go.Ground.data }], guard := none }) (v := ?dv1) rfl (by kernel_rfl) (by kernel_rfl) (by kernel_rfl) (fun _ _ _ h => h) (Or.inl ⟨by rfl, ?dy1⟩) (by assumption) ?dr1
      case dy1 => (intro w hSw; (try dsimp only at hSw); go_simp; try (with_reducible rfl))
      case dr1 =>
      try simp only [Act.put, List.setIfInBounds_toArray, List.set_cons_zero, List.set_cons_succ]
      refine wpAnyH_take (i := 2) (oi := { dst := some 31, op := Go.Op.fieldAddr 59 (Go.Operand.tmp 30) 1, type := 0, pos := "fees.go:55", after := #[{ on := 1, ground := Go.Ground.data }], guard := none }) (v := ?dv2) rfl (by kernel_rfl) (by kernel_rfl) (by kernel_rfl) (fun _ _ _ h => h) (Or.inl ⟨by rfl, ?dy2⟩) (by assumption) ?dr2
      case dy2 => (intro w hSw; (try dsimp only at hSw); go_simp; try (with_reducible rfl))
      case dr2 =>
      try simp only [Act.put, List.setIfInBounds_toArray, List.set_cons_zero, List.set_cons_succ]
      refine wpAnyH_take (i := 3) (oi := { dst := some 32, op := Go.Op.load 57 (Go.Operand.tmp 31), type := 57, pos := "fees.go:55", after := #[{ on := 2, ground := Go.Ground.data }], guard := none }) (v := (.map (some b))) rfl (by kernel_rfl) (by kernel_rfl) (by kernel_rfl) (fun _ _ _ h => h) (Or.inl ⟨by rfl, ?dy3⟩) (by assumption) ?dr3
      case dy3 => (intro w hSw; (try dsimp only at hSw); go_simp; try (simp [hSw.1]))
      case dr3 =>
      try simp only [Act.put, List.setIfInBounds_toArray, List.set_cons_zero, List.set_cons_succ]
      refine wpAnyH_take (i := 4) (oi := { dst := some 33, op := Go.Op.load 45 (Go.Operand.tmp 5), type := 45, pos := "fees.go:55", after := #[], guard := none }) (v := (.agg (K.map (Value.int .u8)).toArray)) rfl (by kernel_rfl) (by kernel_rfl) (by kernel_rfl) (fun _ _ _ h => h) (yieldsIf_load_mid (by rfl) 45 (.tmp 5) rfl G 0 rfl (K.map (Value.int .u8)) _ (fun w' h => irow_range0 h.2) Try.underlying45 rfl HI.out) (by assumption) ?_
      try simp only [Act.put, List.setIfInBounds_toArray, List.set_cons_zero, List.set_cons_succ]
      refine wpAnyH_take (i := 5) (oi := { dst := some 34, op := Go.Op.move (Go.Operand.tmp 2), type := 2, pos := "fees.go:55", after := #[], guard := none }) (v := ?dv5) rfl (by kernel_rfl) (by kernel_rfl) (by kernel_rfl) (fun _ _ _ h => h) (Or.inl ⟨by rfl, ?dy5⟩) (by assumption) ?dr5
      case dy5 => (intro w hSw; (try dsimp only at hSw); go_simp; try (with_reducible rfl))
      case dr5 =>
      try simp only [Act.put, List.setIfInBounds_toArray, List.set_cons_zero, List.set_cons_succ]
      refine wpAnyH_take (i := 7) (oi := { dst := some 36, op := Go.Op.move (Go.Operand.tmp 3), type := 3, pos := "fees.go:55", after := #[], guard := none }) (v := ?dv7) rfl (by kernel_rfl) (by kernel_rfl) (by kernel_rfl) (fun _ _ _ h => h) (Or.inl ⟨by rfl, ?dy7⟩) (by assumption) ?dr7
      case dy7 => (intro w hSw; (try dsimp only at hSw); go_simp; try (with_reducible rfl))
      case dr7 =>
      try simp only [Act.put, List.setIfInBounds_toArray, List.set_cons_zero, List.set_cons_succ]
      refine wpAnyH_ready (rs := [6]) (by kernel_rfl) (by simp) ?_
      refine AllReadyH.cons (o := { dst := some 35, op := Go.Op.call { callee := Go.Callee.value (Go.Operand.func 24), args := #[Go.Operand.tmp 34], argTypes := #[2] }, type := 3, pos := "fees.go:55", after := #[{ on := 5, ground := Go.Ground.data }], guard := none }) rfl (fun K hK => ?_) (AllReadyH.nil)
      go_simp
      refine (HBT.out _ g0 g1).mono ?_
      rintro e w4 ⟨rfl, rfl⟩
      refine hK.out _ _ ?_ (fun hHeld => ?_)
      · exact hHeld
      clear hK K
      try simp only [Act.put, List.setIfInBounds_toArray, List.set_cons_zero, List.set_cons_succ]
      refine wpAnyH_take (i := 8) (oi := { dst := some 37, op := Go.Op.build 62 #[(0, Go.Operand.tmp 35), (1, Go.Operand.tmp 36)], type := 62, pos := "fees.go:55", after := #[{ on := 6, ground := Go.Ground.data }, { on := 7, ground := Go.Ground.data }], guard := none }) (v := (.agg #[.int .i64 (bkF r : Int), .int .i64 ht])) rfl (by kernel_rfl) (by kernel_rfl) (by kernel_rfl) (fun _ _ _ h => h) (Or.inl ⟨by rfl, ?d_6y8⟩) (by assumption) ?d_6r8
      case d_6y8 => (intro w hSw; (try dsimp only at hSw); go_simp; try (with_reducible rfl))
      case d_6r8 =>
      try simp only [Act.put, List.setIfInBounds_toArray, List.set_cons_zero, List.set_cons_succ]
      refine wpAnyH_ready (rs := [9]) (by kernel_rfl) (by simp) ?_
      refine AllReadyH.cons (o := { dst := none, op := Go.Op.mapUpdate 57 (Go.Operand.tmp 32) (Go.Operand.tmp 33) (Go.Operand.tmp 37), type := 0, pos := "fees.go:55", after := #[{ on := 3, ground := Go.Ground.data }, { on := 4, ground := Go.Ground.data }, { on := 8, ground := Go.Ground.data }, { on := 6, ground := Go.Ground.chain }, { on := 0, ground := Go.Ground.phase }, { on := 1, ground := Go.Ground.phase }, { on := 2, ground := Go.Ground.phase }, { on := 3, ground := Go.Ground.phase }, { on := 4, ground := Go.Ground.phase }, { on := 5, ground := Go.Ground.phase }, { on := 6, ground := Go.Ground.phase }, { on := 7, ground := Go.Ground.phase }, { on := 8, ground := Go.Ground.phase }], guard := none }) rfl (fun K hK => ?_) (AllReadyH.nil)
      obtain ⟨w5, hr5, hm5, ht5⟩ := HPUT.out
      go_simp
      refine hK.out _ _ ?_ (fun hHeld => ?_)
      · exact ⟨(HB3.out.1.turns (S := fun i => i = b) ht5 (HBG.out)).map, R3.out.drew.turns ht5 HGB.out⟩
      clear hK K
      try simp only [Act.put]
      refine wpAnyH_done (by kernel_rfl) ?_ _
      exact bodyPost_end (results_none Try.results11 _ _ _) rfl ⟨rfl, some b, ⟨HB3.out.1.turns (S := fun i => i = b) ht5 HBG.out, hm5⟩, T3.out.drew.trans ht5 (HTB.out), HOR.out⟩
end Go.Proofs.Ytfhpodeppmnopaa
