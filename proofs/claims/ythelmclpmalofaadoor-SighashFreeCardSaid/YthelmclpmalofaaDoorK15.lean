/-
  Texts joined: TvY. Conditions: those of each.
-/
import Derived.Test.YthelmclpmalofaaDoorK14
/-
  A region of sighash.Witness: three digests and three boxes, in whatever order. Conditions: none.
-/
namespace Go.Proofs.YthelmclpmalofaaDoor
open Go.RowKit

def witOps : Array Oper := #[{ dst := some 26, op := Go.Op.fieldAddr 26 (Go.Operand.tmp 5) 1, type := 0, pos := "witness.go:14", after := #[], guard := none }, { dst := some 27, op := Go.Op.load 22 (Go.Operand.tmp 26), type := 22, pos := "witness.go:14", after := #[{ on := 0, ground := Go.Ground.data }], guard := none }, { dst := some 28, op := Go.Op.load 5 (Go.Operand.tmp 9), type := 5, pos := "witness.go:14", after := #[], guard := none }, { dst := some 29, op := Go.Op.call { callee := Go.Callee.value (Go.Operand.func 39), args := #[Go.Operand.tmp 27, Go.Operand.tmp 28], argTypes := #[22, 5] }, type := 36, pos := "witness.go:14", after := #[{ on := 1, ground := Go.Ground.data }, { on := 2, ground := Go.Ground.data }], guard := none }, { dst := some 30, op := Go.Op.fieldAddr 26 (Go.Operand.tmp 5) 1, type := 0, pos := "witness.go:14", after := #[], guard := none }, { dst := some 31, op := Go.Op.load 22 (Go.Operand.tmp 30), type := 22, pos := "witness.go:14", after := #[{ on := 4, ground := Go.Ground.data }], guard := none }, { dst := some 32, op := Go.Op.load 5 (Go.Operand.tmp 9), type := 5, pos := "witness.go:14", after := #[], guard := none }, { dst := some 33, op := Go.Op.call { callee := Go.Callee.value (Go.Operand.func 40), args := #[Go.Operand.tmp 31, Go.Operand.tmp 32], argTypes := #[22, 5] }, type := 36, pos := "witness.go:14", after := #[{ on := 5, ground := Go.Ground.data }, { on := 6, ground := Go.Ground.data }, { on := 3, ground := Go.Ground.chain }], guard := none }, { dst := some 34, op := Go.Op.fieldAddr 26 (Go.Operand.tmp 5) 2, type := 0, pos := "witness.go:14", after := #[], guard := none }, { dst := some 35, op := Go.Op.load 23 (Go.Operand.tmp 34), type := 23, pos := "witness.go:14", after := #[{ on := 8, ground := Go.Ground.data }], guard := none }, { dst := some 36, op := Go.Op.move (Go.Operand.tmp 1), type := 3, pos := "witness.go:14", after := #[], guard := none }, { dst := some 37, op := Go.Op.load 5 (Go.Operand.tmp 9), type := 5, pos := "witness.go:14", after := #[], guard := none }, { dst := some 38, op := Go.Op.call { callee := Go.Callee.value (Go.Operand.func 41), args := #[Go.Operand.tmp 35, Go.Operand.tmp 36, Go.Operand.tmp 37], argTypes := #[23, 3, 5] }, type := 36, pos := "witness.go:14", after := #[{ on := 9, ground := Go.Ground.data }, { on := 10, ground := Go.Ground.data }, { on := 11, ground := Go.Ground.data }, { on := 7, ground := Go.Ground.chain }], guard := none }, { dst := some 12, op := Go.Op.alloc 36, type := 0, pos := "witness.go:14", after := #[], guard := none }, { dst := some 13, op := Go.Op.alloc 36, type := 0, pos := "witness.go:14", after := #[], guard := none }, { dst := some 14, op := Go.Op.alloc 36, type := 0, pos := "witness.go:14", after := #[], guard := none }, { dst := none, op := Go.Op.store 36 (Go.Operand.tmp 12) (Go.Operand.tmp 29), type := 0, pos := "witness.go:14", after := #[{ on := 13, ground := Go.Ground.data }, { on := 3, ground := Go.Ground.data }, { on := 12, ground := Go.Ground.chain }, { on := 0, ground := Go.Ground.phase }, { on := 1, ground := Go.Ground.phase }, { on := 2, ground := Go.Ground.phase }, { on := 3, ground := Go.Ground.phase }, { on := 4, ground := Go.Ground.textOnly Go.Departure.lateStores }, { on := 5, ground := Go.Ground.textOnly Go.Departure.lateStores }, { on := 6, ground := Go.Ground.textOnly Go.Departure.lateStores }, { on := 7, ground := Go.Ground.phase }, { on := 8, ground := Go.Ground.textOnly Go.Departure.lateStores }, { on := 9, ground := Go.Ground.textOnly Go.Departure.lateStores }, { on := 10, ground := Go.Ground.textOnly Go.Departure.lateStores }, { on := 11, ground := Go.Ground.textOnly Go.Departure.lateStores }, { on := 12, ground := Go.Ground.phase }, { on := 13, ground := Go.Ground.phase }, { on := 14, ground := Go.Ground.phase }, { on := 15, ground := Go.Ground.phase }], guard := none }, { dst := none, op := Go.Op.store 36 (Go.Operand.tmp 13) (Go.Operand.tmp 33), type := 0, pos := "witness.go:14", after := #[{ on := 14, ground := Go.Ground.data }, { on := 7, ground := Go.Ground.data }, { on := 16, ground := Go.Ground.chain }, { on := 0, ground := Go.Ground.phase }, { on := 1, ground := Go.Ground.phase }, { on := 2, ground := Go.Ground.phase }, { on := 3, ground := Go.Ground.phase }, { on := 4, ground := Go.Ground.phase }, { on := 5, ground := Go.Ground.phase }, { on := 6, ground := Go.Ground.phase }, { on := 7, ground := Go.Ground.phase }, { on := 8, ground := Go.Ground.textOnly Go.Departure.lateStores }, { on := 9, ground := Go.Ground.textOnly Go.Departure.lateStores }, { on := 10, ground := Go.Ground.textOnly Go.Departure.lateStores }, { on := 11, ground := Go.Ground.textOnly Go.Departure.lateStores }, { on := 12, ground := Go.Ground.phase }, { on := 13, ground := Go.Ground.phase }, { on := 14, ground := Go.Ground.phase }, { on := 15, ground := Go.Ground.phase }, { on := 16, ground := Go.Ground.phase }], guard := none }, { dst := none, op := Go.Op.store 36 (Go.Operand.tmp 14) (Go.Operand.tmp 38), type := 0, pos := "witness.go:14", after := #[{ on := 15, ground := Go.Ground.data }, { on := 12, ground := Go.Ground.data }, { on := 17, ground := Go.Ground.chain }, { on := 0, ground := Go.Ground.phase }, { on := 1, ground := Go.Ground.phase }, { on := 2, ground := Go.Ground.phase }, { on := 3, ground := Go.Ground.phase }, { on := 4, ground := Go.Ground.phase }, { on := 5, ground := Go.Ground.phase }, { on := 6, ground := Go.Ground.phase }, { on := 7, ground := Go.Ground.phase }, { on := 8, ground := Go.Ground.phase }, { on := 9, ground := Go.Ground.phase }, { on := 10, ground := Go.Ground.phase }, { on := 11, ground := Go.Ground.phase }, { on := 12, ground := Go.Ground.phase }, { on := 13, ground := Go.Ground.phase }, { on := 14, ground := Go.Ground.phase }, { on := 15, ground := Go.Ground.phase }, { on := 16, ground := Go.Ground.phase }, { on := 17, ground := Go.Ground.phase }], guard := none }]
/-- A digest's cells. -/
def Hash3 (N : List Value) : Prop := (Tryd.prog.info? 36).map (·.size) = some N.length ∧ ((List.replicate 32 (0 : Int)).map (Value.int .u8)).length = N.length ∧ N.toArray.all (·.oneCell') = true
section
variable {QQ : Exit → Act → World → Prop} {S : World → Prop} {w0 : World} {iv ov : Value} {i k : Int} {NP NQ NO : List Value} {u0 u1 u2 u3 u4 u5 u6 u7 u8 u9 u10 u11 u12 u13 u14 u15 u16 u17 u18 u19 u20 u21 u22 u23 u24 u25 u26 u29 u30 u33 u34 u38 u39 u40 : Value}

set_option maxRecDepth 100000 in
set_option maxHeartbeats 3200000 in
theorem wst_3_111 (hS : ∀ w, Below w0.heap.size w0 w → S w)
    (_hP : ∀ w, Below w0.heap.size w0 w → Calls Tryd.prog 39 #[iv, .int .u8 k] w fun e w' => e = .returned (.agg NP.toArray) ∧ Below w.heap.size w w')
    (_hQ : ∀ w, Below w0.heap.size w0 w → Calls Tryd.prog 40 #[iv, .int .u8 k] w fun e w' => e = .returned (.agg NQ.toArray) ∧ Below w.heap.size w w')
    (_hO : ∀ w, Below w0.heap.size w0 w → Calls Tryd.prog 41 #[ov, .int .i64 i, .int .u8 k] w fun e w' => e = .returned (.agg NO.toArray) ∧ Below w.heap.size w w')
    (iP : Hash3 NP) (iQ : Hash3 NQ) (iO : Hash3 NO)
    (hE : ∀ w px py pz, Below w0.heap.size w0 w → (w0.heap.size ≤ px ∧ VRow w px 36 NP) → (w0.heap.size ≤ py ∧ VRow w py 36 NQ) → (w0.heap.size ≤ pz ∧ VRow w pz 36 NO) → QQ .normal ⟨#[u0, u1, u2, u3, u4, u5, u6, u7, u8, u9, u10, u11, (.pointer (some ⟨px, 0, none⟩)), (.pointer (some ⟨py, 0, none⟩)), (.pointer (some ⟨pz, 0, none⟩)), u15, u16, u17, u18, u19, u20, u21, u22, u23, u24, u25, u26, iv, (.int .u8 k), (.agg NP.toArray), u30, iv, (.int .u8 k), (.agg NQ.toArray), u34, ov, (.int .i64 i), (.int .u8 k), (.agg NO.toArray), u39, u40], []⟩ w)
    (listed : Array Bool) (hl : listed = #[true, true, true, true, true, true, true, true, true, true, true, true, true, true, true, true, false, false, false]) (w : World) (px py pz : Nat) (hb : Below w0.heap.size w0 w) (fpx : w0.heap.size ≤ px ∧ VRow w px 36 ((List.replicate 32 (0 : Int)).map (Value.int .u8))) (fpy : w0.heap.size ≤ py ∧ VRow w py 36 ((List.replicate 32 (0 : Int)).map (Value.int .u8))) (fpz : w0.heap.size ≤ pz ∧ VRow w pz 36 ((List.replicate 32 (0 : Int)).map (Value.int .u8))) (dpxpy : px ≠ py) (dpxpz : px ≠ pz) (dpypz : py ≠ pz) :
    wpAnyH Tryd.prog .any witOps QQ S 3 listed ⟨#[u0, u1, u2, u3, u4, u5, u6, u7, u8, u9, u10, u11, (.pointer (some ⟨px, 0, none⟩)), (.pointer (some ⟨py, 0, none⟩)), (.pointer (some ⟨pz, 0, none⟩)), u15, u16, u17, u18, u19, u20, u21, u22, u23, u24, u25, u26, iv, (.int .u8 k), (.agg NP.toArray), u30, iv, (.int .u8 k), (.agg NQ.toArray), u34, ov, (.int .i64 i), (.int .u8 k), (.agg NO.toArray), u39, u40], []⟩ w := by
  subst hl
  refine wpAnyH_ready (rs := [16]) (by kernel_rfl) (by simp) ?_
  refine AllReadyH.cons (o := { dst := none, op := Go.Op.store 36 (Go.Operand.tmp 12) (Go.Operand.tmp 29), type := 0, pos := "witness.go:14", after := #[{ on := 13, ground := Go.Ground.data }, { on := 3, ground := Go.Ground.data }, { on := 12, ground := Go.Ground.chain }, { on := 0, ground := Go.Ground.phase }, { on := 1, ground := Go.Ground.phase }, { on := 2, ground := Go.Ground.phase }, { on := 3, ground := Go.Ground.phase }, { on := 4, ground := Go.Ground.textOnly Go.Departure.lateStores }, { on := 5, ground := Go.Ground.textOnly Go.Departure.lateStores }, { on := 6, ground := Go.Ground.textOnly Go.Departure.lateStores }, { on := 7, ground := Go.Ground.phase }, { on := 8, ground := Go.Ground.textOnly Go.Departure.lateStores }, { on := 9, ground := Go.Ground.textOnly Go.Departure.lateStores }, { on := 10, ground := Go.Ground.textOnly Go.Departure.lateStores }, { on := 11, ground := Go.Ground.textOnly Go.Departure.lateStores }, { on := 12, ground := Go.Ground.phase }, { on := 13, ground := Go.Ground.phase }, { on := 14, ground := Go.Ground.phase }, { on := 15, ground := Go.Ground.phase }], guard := none }) rfl (fun K hK => ?_) (AllReadyH.nil)
  refine wp_store_vrow 36 (.tmp 12) (.tmp 29) rfl (g := px) (t := 36) (vs := ((List.replicate 32 (0 : Int)).map (Value.int .u8))) (us := NP) rfl rfl fpx.2 iP.1 iP.2.1 iP.2.2 ?_
  obtain ⟨wP, hwP⟩ : ∃ z, z = (w).setRow px NP.toArray := ⟨_, rfl⟩
  have tt : Turns (fun q => q = px) w wP := by rw [hwP]; exact Turns.setRow (S := fun q => q = px) (Turns.refl _ w) (fun _ => rfl) _
  have hbP : Below w0.heap.size w0 wP := by rw [hwP]; exact below_setRow hb fpx.1 _
  have gpx : VRow wP px 36 NP := by rw [hwP]; exact fpx.2.setRow NP
  replace fpy := And.intro fpy.1 (fpy.2.turns tt (fun e => dpxpy e.symm))
  replace fpz := And.intro fpz.1 (fpz.2.turns tt (fun e => dpxpz e.symm))
  rw [← hwP]
  refine hK.out _ _ ?_ (fun hHeld => ?_)
  · exact hS _ hbP
  clear hK K
  try simp only [Act.put]
  refine wpAnyH_ready (rs := [17]) (by kernel_rfl) (by simp) ?_
  refine AllReadyH.cons (o := { dst := none, op := Go.Op.store 36 (Go.Operand.tmp 13) (Go.Operand.tmp 33), type := 0, pos := "witness.go:14", after := #[{ on := 14, ground := Go.Ground.data }, { on := 7, ground := Go.Ground.data }, { on := 16, ground := Go.Ground.chain }, { on := 0, ground := Go.Ground.phase }, { on := 1, ground := Go.Ground.phase }, { on := 2, ground := Go.Ground.phase }, { on := 3, ground := Go.Ground.phase }, { on := 4, ground := Go.Ground.phase }, { on := 5, ground := Go.Ground.phase }, { on := 6, ground := Go.Ground.phase }, { on := 7, ground := Go.Ground.phase }, { on := 8, ground := Go.Ground.textOnly Go.Departure.lateStores }, { on := 9, ground := Go.Ground.textOnly Go.Departure.lateStores }, { on := 10, ground := Go.Ground.textOnly Go.Departure.lateStores }, { on := 11, ground := Go.Ground.textOnly Go.Departure.lateStores }, { on := 12, ground := Go.Ground.phase }, { on := 13, ground := Go.Ground.phase }, { on := 14, ground := Go.Ground.phase }, { on := 15, ground := Go.Ground.phase }, { on := 16, ground := Go.Ground.phase }], guard := none }) rfl (fun K hK => ?_) (AllReadyH.nil)
  refine wp_store_vrow 36 (.tmp 13) (.tmp 33) rfl (g := py) (t := 36) (vs := ((List.replicate 32 (0 : Int)).map (Value.int .u8))) (us := NQ) rfl rfl fpy.2 iQ.1 iQ.2.1 iQ.2.2 ?_
  obtain ⟨wQ, hwQ⟩ : ∃ z, z = (wP).setRow py NQ.toArray := ⟨_, rfl⟩
  have tt : Turns (fun q => q = py) wP wQ := by rw [hwQ]; exact Turns.setRow (S := fun q => q = py) (Turns.refl _ wP) (fun _ => rfl) _
  have hbQ : Below w0.heap.size w0 wQ := by rw [hwQ]; exact below_setRow hbP fpy.1 _
  have gpy : VRow wQ py 36 NQ := by rw [hwQ]; exact fpy.2.setRow NQ
  replace gpx := gpx.turns tt (fun e => dpxpy e)
  replace fpz := And.intro fpz.1 (fpz.2.turns tt (fun e => dpypz e.symm))
  rw [← hwQ]
  refine hK.out _ _ ?_ (fun hHeld => ?_)
  · exact hS _ hbQ
  clear hK K
  try simp only [Act.put]
  refine wpAnyH_ready (rs := [18]) (by kernel_rfl) (by simp) ?_
  refine AllReadyH.cons (o := { dst := none, op := Go.Op.store 36 (Go.Operand.tmp 14) (Go.Operand.tmp 38), type := 0, pos := "witness.go:14", after := #[{ on := 15, ground := Go.Ground.data }, { on := 12, ground := Go.Ground.data }, { on := 17, ground := Go.Ground.chain }, { on := 0, ground := Go.Ground.phase }, { on := 1, ground := Go.Ground.phase }, { on := 2, ground := Go.Ground.phase }, { on := 3, ground := Go.Ground.phase }, { on := 4, ground := Go.Ground.phase }, { on := 5, ground := Go.Ground.phase }, { on := 6, ground := Go.Ground.phase }, { on := 7, ground := Go.Ground.phase }, { on := 8, ground := Go.Ground.phase }, { on := 9, ground := Go.Ground.phase }, { on := 10, ground := Go.Ground.phase }, { on := 11, ground := Go.Ground.phase }, { on := 12, ground := Go.Ground.phase }, { on := 13, ground := Go.Ground.phase }, { on := 14, ground := Go.Ground.phase }, { on := 15, ground := Go.Ground.phase }, { on := 16, ground := Go.Ground.phase }, { on := 17, ground := Go.Ground.phase }], guard := none }) rfl (fun K hK => ?_) (AllReadyH.nil)
  refine wp_store_vrow 36 (.tmp 14) (.tmp 38) rfl (g := pz) (t := 36) (vs := ((List.replicate 32 (0 : Int)).map (Value.int .u8))) (us := NO) rfl rfl fpz.2 iO.1 iO.2.1 iO.2.2 ?_
  obtain ⟨wO, hwO⟩ : ∃ z, z = (wQ).setRow pz NO.toArray := ⟨_, rfl⟩
  have tt : Turns (fun q => q = pz) wQ wO := by rw [hwO]; exact Turns.setRow (S := fun q => q = pz) (Turns.refl _ wQ) (fun _ => rfl) _
  have hbO : Below w0.heap.size w0 wO := by rw [hwO]; exact below_setRow hbQ fpz.1 _
  have gpz : VRow wO pz 36 NO := by rw [hwO]; exact fpz.2.setRow NO
  replace gpx := gpx.turns tt (fun e => dpxpz e)
  replace gpy := gpy.turns tt (fun e => dpypz e)
  rw [← hwO]
  refine hK.out _ _ ?_ (fun hHeld => ?_)
  · exact hS _ hbO
  clear hK K
  try simp only [Act.put]
  refine wpAnyH_done (by kernel_rfl) ?_ _
  exact hE wO px py pz hbO ⟨fpx.1, gpx⟩ ⟨fpy.1, gpy⟩ ⟨fpz.1, gpz⟩
set_option maxRecDepth 100000 in
set_option maxHeartbeats 3200000 in
theorem wst_2_111 (hS : ∀ w, Below w0.heap.size w0 w → S w)
    (hP : ∀ w, Below w0.heap.size w0 w → Calls Tryd.prog 39 #[iv, .int .u8 k] w fun e w' => e = .returned (.agg NP.toArray) ∧ Below w.heap.size w w')
    (hQ : ∀ w, Below w0.heap.size w0 w → Calls Tryd.prog 40 #[iv, .int .u8 k] w fun e w' => e = .returned (.agg NQ.toArray) ∧ Below w.heap.size w w')
    (hO : ∀ w, Below w0.heap.size w0 w → Calls Tryd.prog 41 #[ov, .int .i64 i, .int .u8 k] w fun e w' => e = .returned (.agg NO.toArray) ∧ Below w.heap.size w w')
    (iP : Hash3 NP) (iQ : Hash3 NQ) (iO : Hash3 NO)
    (hE : ∀ w px py pz, Below w0.heap.size w0 w → (w0.heap.size ≤ px ∧ VRow w px 36 NP) → (w0.heap.size ≤ py ∧ VRow w py 36 NQ) → (w0.heap.size ≤ pz ∧ VRow w pz 36 NO) → QQ .normal ⟨#[u0, u1, u2, u3, u4, u5, u6, u7, u8, u9, u10, u11, (.pointer (some ⟨px, 0, none⟩)), (.pointer (some ⟨py, 0, none⟩)), (.pointer (some ⟨pz, 0, none⟩)), u15, u16, u17, u18, u19, u20, u21, u22, u23, u24, u25, u26, iv, (.int .u8 k), (.agg NP.toArray), u30, iv, (.int .u8 k), (.agg NQ.toArray), u34, ov, (.int .i64 i), (.int .u8 k), (.agg NO.toArray), u39, u40], []⟩ w)
    (listed : Array Bool) (hl : listed = #[true, true, true, true, true, true, true, true, true, true, true, true, false, true, true, true, false, false, false]) (w : World) (px py pz : Nat) (hb : Below w0.heap.size w0 w) (fpx : w0.heap.size ≤ px ∧ VRow w px 36 ((List.replicate 32 (0 : Int)).map (Value.int .u8))) (fpy : w0.heap.size ≤ py ∧ VRow w py 36 ((List.replicate 32 (0 : Int)).map (Value.int .u8))) (fpz : w0.heap.size ≤ pz ∧ VRow w pz 36 ((List.replicate 32 (0 : Int)).map (Value.int .u8))) (dpxpy : px ≠ py) (dpxpz : px ≠ pz) (dpypz : py ≠ pz) :
    wpAnyH Tryd.prog .any witOps QQ S 4 listed ⟨#[u0, u1, u2, u3, u4, u5, u6, u7, u8, u9, u10, u11, (.pointer (some ⟨px, 0, none⟩)), (.pointer (some ⟨py, 0, none⟩)), (.pointer (some ⟨pz, 0, none⟩)), u15, u16, u17, u18, u19, u20, u21, u22, u23, u24, u25, u26, iv, (.int .u8 k), (.agg NP.toArray), u30, iv, (.int .u8 k), (.agg NQ.toArray), u34, ov, (.int .i64 i), (.int .u8 k), u38, u39, u40], []⟩ w := by
  subst hl
  refine wpAnyH_ready (rs := [12]) (by kernel_rfl) (by simp) ?_
  refine AllReadyH.cons (o := { dst := some 38, op := Go.Op.call { callee := Go.Callee.value (Go.Operand.func 41), args := #[Go.Operand.tmp 35, Go.Operand.tmp 36, Go.Operand.tmp 37], argTypes := #[23, 3, 5] }, type := 36, pos := "witness.go:14", after := #[{ on := 9, ground := Go.Ground.data }, { on := 10, ground := Go.Ground.data }, { on := 11, ground := Go.Ground.data }, { on := 7, ground := Go.Ground.chain }], guard := none }) rfl (fun K hK => ?_) (AllReadyH.nil)
  go_simp
  refine (hO w hb).mono ?_
  rintro e w2 ⟨rfl, hb2⟩
  have hb3 : Below w0.heap.size w0 w2 := hb.trans (hb2.mono hb.size)
  have gpx := And.intro fpx.1 (fpx.2.below hb2 fpx.2.lt)
  have gpy := And.intro fpy.1 (fpy.2.below hb2 fpy.2.lt)
  have gpz := And.intro fpz.1 (fpz.2.below hb2 fpz.2.lt)
  refine hK.out _ _ ?_ (fun hHeld => ?_)
  · exact hS _ hb3
  clear hK K
  try simp only [List.setIfInBounds_toArray, List.set_cons_zero, List.set_cons_succ]
  exact wst_3_111 hS hP hQ hO iP iQ iO hE _ (by kernel_rfl) w2 px py pz hb3 gpx gpy gpz dpxpy dpxpz dpypz
set_option maxRecDepth 100000 in
set_option maxHeartbeats 3200000 in
theorem wst_3_110 (hS : ∀ w, Below w0.heap.size w0 w → S w)
    (hP : ∀ w, Below w0.heap.size w0 w → Calls Tryd.prog 39 #[iv, .int .u8 k] w fun e w' => e = .returned (.agg NP.toArray) ∧ Below w.heap.size w w')
    (hQ : ∀ w, Below w0.heap.size w0 w → Calls Tryd.prog 40 #[iv, .int .u8 k] w fun e w' => e = .returned (.agg NQ.toArray) ∧ Below w.heap.size w w')
    (hO : ∀ w, Below w0.heap.size w0 w → Calls Tryd.prog 41 #[ov, .int .i64 i, .int .u8 k] w fun e w' => e = .returned (.agg NO.toArray) ∧ Below w.heap.size w w')
    (iP : Hash3 NP) (iQ : Hash3 NQ) (iO : Hash3 NO)
    (hE : ∀ w px py pz, Below w0.heap.size w0 w → (w0.heap.size ≤ px ∧ VRow w px 36 NP) → (w0.heap.size ≤ py ∧ VRow w py 36 NQ) → (w0.heap.size ≤ pz ∧ VRow w pz 36 NO) → QQ .normal ⟨#[u0, u1, u2, u3, u4, u5, u6, u7, u8, u9, u10, u11, (.pointer (some ⟨px, 0, none⟩)), (.pointer (some ⟨py, 0, none⟩)), (.pointer (some ⟨pz, 0, none⟩)), u15, u16, u17, u18, u19, u20, u21, u22, u23, u24, u25, u26, iv, (.int .u8 k), (.agg NP.toArray), u30, iv, (.int .u8 k), (.agg NQ.toArray), u34, ov, (.int .i64 i), (.int .u8 k), (.agg NO.toArray), u39, u40], []⟩ w)
    (listed : Array Bool) (hl : listed = #[true, true, true, true, true, true, true, true, true, true, true, true, true, true, true, false, false, false, false]) (w : World) (px py : Nat) (hb : Below w0.heap.size w0 w) (fpx : w0.heap.size ≤ px ∧ VRow w px 36 ((List.replicate 32 (0 : Int)).map (Value.int .u8))) (fpy : w0.heap.size ≤ py ∧ VRow w py 36 ((List.replicate 32 (0 : Int)).map (Value.int .u8))) (dpxpy : px ≠ py) :
    wpAnyH Tryd.prog .any witOps QQ S 4 listed ⟨#[u0, u1, u2, u3, u4, u5, u6, u7, u8, u9, u10, u11, (.pointer (some ⟨px, 0, none⟩)), (.pointer (some ⟨py, 0, none⟩)), u14, u15, u16, u17, u18, u19, u20, u21, u22, u23, u24, u25, u26, iv, (.int .u8 k), (.agg NP.toArray), u30, iv, (.int .u8 k), (.agg NQ.toArray), u34, ov, (.int .i64 i), (.int .u8 k), (.agg NO.toArray), u39, u40], []⟩ w := by
  subst hl
  refine wpAnyH_ready (rs := [15]) (by kernel_rfl) (by simp) ?_
  refine AllReadyH.cons (o := { dst := some 14, op := Go.Op.alloc 36, type := 0, pos := "witness.go:14", after := #[], guard := none }) rfl (fun K hK => ?_) (AllReadyH.nil)
  go_simp
  change K _ (w.alloc (.cells ((List.replicate 32 (0 : Int)).map (Value.int .u8)).toArray 36))
  have hb3 : Below w0.heap.size w0 (w.alloc (.cells ((List.replicate 32 (0 : Int)).map (Value.int .u8)).toArray 36)) := hb.alloc hb.size _
  have gpz : w0.heap.size ≤ w.heap.size ∧ VRow (w.alloc (.cells ((List.replicate 32 (0 : Int)).map (Value.int .u8)).toArray 36)) w.heap.size 36 ((List.replicate 32 (0 : Int)).map (Value.int .u8)) := ⟨hb.size, VRow.new _ _ _⟩
  have gpx := And.intro fpx.1 (fpx.2.below ((Below.refl _ w).alloc (Nat.le_refl _) (.cells ((List.replicate 32 (0 : Int)).map (Value.int .u8)).toArray 36)) fpx.2.lt)
  have gpy := And.intro fpy.1 (fpy.2.below ((Below.refl _ w).alloc (Nat.le_refl _) (.cells ((List.replicate 32 (0 : Int)).map (Value.int .u8)).toArray 36)) fpy.2.lt)
  refine hK.out _ _ ?_ (fun hHeld => ?_)
  · exact hS _ hb3
  clear hK K
  try simp only [List.setIfInBounds_toArray, List.set_cons_zero, List.set_cons_succ]
  exact wst_3_111 hS hP hQ hO iP iQ iO hE _ (by kernel_rfl) _ px py w.heap.size hb3 gpx gpy gpz dpxpy (fun e => by have := fpx.2.lt; omega) (fun e => by have := fpy.2.lt; omega)
set_option maxRecDepth 100000 in
set_option maxHeartbeats 3200000 in
theorem wst_3_101 (hS : ∀ w, Below w0.heap.size w0 w → S w)
    (hP : ∀ w, Below w0.heap.size w0 w → Calls Tryd.prog 39 #[iv, .int .u8 k] w fun e w' => e = .returned (.agg NP.toArray) ∧ Below w.heap.size w w')
    (hQ : ∀ w, Below w0.heap.size w0 w → Calls Tryd.prog 40 #[iv, .int .u8 k] w fun e w' => e = .returned (.agg NQ.toArray) ∧ Below w.heap.size w w')
    (hO : ∀ w, Below w0.heap.size w0 w → Calls Tryd.prog 41 #[ov, .int .i64 i, .int .u8 k] w fun e w' => e = .returned (.agg NO.toArray) ∧ Below w.heap.size w w')
    (iP : Hash3 NP) (iQ : Hash3 NQ) (iO : Hash3 NO)
    (hE : ∀ w px py pz, Below w0.heap.size w0 w → (w0.heap.size ≤ px ∧ VRow w px 36 NP) → (w0.heap.size ≤ py ∧ VRow w py 36 NQ) → (w0.heap.size ≤ pz ∧ VRow w pz 36 NO) → QQ .normal ⟨#[u0, u1, u2, u3, u4, u5, u6, u7, u8, u9, u10, u11, (.pointer (some ⟨px, 0, none⟩)), (.pointer (some ⟨py, 0, none⟩)), (.pointer (some ⟨pz, 0, none⟩)), u15, u16, u17, u18, u19, u20, u21, u22, u23, u24, u25, u26, iv, (.int .u8 k), (.agg NP.toArray), u30, iv, (.int .u8 k), (.agg NQ.toArray), u34, ov, (.int .i64 i), (.int .u8 k), (.agg NO.toArray), u39, u40], []⟩ w)
    (listed : Array Bool) (hl : listed = #[true, true, true, true, true, true, true, true, true, true, true, true, true, true, false, true, false, false, false]) (w : World) (px pz : Nat) (hb : Below w0.heap.size w0 w) (fpx : w0.heap.size ≤ px ∧ VRow w px 36 ((List.replicate 32 (0 : Int)).map (Value.int .u8))) (fpz : w0.heap.size ≤ pz ∧ VRow w pz 36 ((List.replicate 32 (0 : Int)).map (Value.int .u8))) (dpxpz : px ≠ pz) :
    wpAnyH Tryd.prog .any witOps QQ S 4 listed ⟨#[u0, u1, u2, u3, u4, u5, u6, u7, u8, u9, u10, u11, (.pointer (some ⟨px, 0, none⟩)), u13, (.pointer (some ⟨pz, 0, none⟩)), u15, u16, u17, u18, u19, u20, u21, u22, u23, u24, u25, u26, iv, (.int .u8 k), (.agg NP.toArray), u30, iv, (.int .u8 k), (.agg NQ.toArray), u34, ov, (.int .i64 i), (.int .u8 k), (.agg NO.toArray), u39, u40], []⟩ w := by
  subst hl
  refine wpAnyH_ready (rs := [14]) (by kernel_rfl) (by simp) ?_
  refine AllReadyH.cons (o := { dst := some 13, op := Go.Op.alloc 36, type := 0, pos := "witness.go:14", after := #[], guard := none }) rfl (fun K hK => ?_) (AllReadyH.nil)
  go_simp
  change K _ (w.alloc (.cells ((List.replicate 32 (0 : Int)).map (Value.int .u8)).toArray 36))
  have hb3 : Below w0.heap.size w0 (w.alloc (.cells ((List.replicate 32 (0 : Int)).map (Value.int .u8)).toArray 36)) := hb.alloc hb.size _
  have gpy : w0.heap.size ≤ w.heap.size ∧ VRow (w.alloc (.cells ((List.replicate 32 (0 : Int)).map (Value.int .u8)).toArray 36)) w.heap.size 36 ((List.replicate 32 (0 : Int)).map (Value.int .u8)) := ⟨hb.size, VRow.new _ _ _⟩
  have gpx := And.intro fpx.1 (fpx.2.below ((Below.refl _ w).alloc (Nat.le_refl _) (.cells ((List.replicate 32 (0 : Int)).map (Value.int .u8)).toArray 36)) fpx.2.lt)
  have gpz := And.intro fpz.1 (fpz.2.below ((Below.refl _ w).alloc (Nat.le_refl _) (.cells ((List.replicate 32 (0 : Int)).map (Value.int .u8)).toArray 36)) fpz.2.lt)
  refine hK.out _ _ ?_ (fun hHeld => ?_)
  · exact hS _ hb3
  clear hK K
  try simp only [List.setIfInBounds_toArray, List.set_cons_zero, List.set_cons_succ]
  exact wst_3_111 hS hP hQ hO iP iQ iO hE _ (by kernel_rfl) _ px w.heap.size pz hb3 gpx gpy gpz (fun e => by have := fpx.2.lt; omega) dpxpz (fun e => by have := fpz.2.lt; omega)
set_option maxRecDepth 100000 in
set_option maxHeartbeats 3200000 in
theorem wst_3_011 (hS : ∀ w, Below w0.heap.size w0 w → S w)
    (hP : ∀ w, Below w0.heap.size w0 w → Calls Tryd.prog 39 #[iv, .int .u8 k] w fun e w' => e = .returned (.agg NP.toArray) ∧ Below w.heap.size w w')
    (hQ : ∀ w, Below w0.heap.size w0 w → Calls Tryd.prog 40 #[iv, .int .u8 k] w fun e w' => e = .returned (.agg NQ.toArray) ∧ Below w.heap.size w w')
    (hO : ∀ w, Below w0.heap.size w0 w → Calls Tryd.prog 41 #[ov, .int .i64 i, .int .u8 k] w fun e w' => e = .returned (.agg NO.toArray) ∧ Below w.heap.size w w')
    (iP : Hash3 NP) (iQ : Hash3 NQ) (iO : Hash3 NO)
    (hE : ∀ w px py pz, Below w0.heap.size w0 w → (w0.heap.size ≤ px ∧ VRow w px 36 NP) → (w0.heap.size ≤ py ∧ VRow w py 36 NQ) → (w0.heap.size ≤ pz ∧ VRow w pz 36 NO) → QQ .normal ⟨#[u0, u1, u2, u3, u4, u5, u6, u7, u8, u9, u10, u11, (.pointer (some ⟨px, 0, none⟩)), (.pointer (some ⟨py, 0, none⟩)), (.pointer (some ⟨pz, 0, none⟩)), u15, u16, u17, u18, u19, u20, u21, u22, u23, u24, u25, u26, iv, (.int .u8 k), (.agg NP.toArray), u30, iv, (.int .u8 k), (.agg NQ.toArray), u34, ov, (.int .i64 i), (.int .u8 k), (.agg NO.toArray), u39, u40], []⟩ w)
    (listed : Array Bool) (hl : listed = #[true, true, true, true, true, true, true, true, true, true, true, true, true, false, true, true, false, false, false]) (w : World) (py pz : Nat) (hb : Below w0.heap.size w0 w) (fpy : w0.heap.size ≤ py ∧ VRow w py 36 ((List.replicate 32 (0 : Int)).map (Value.int .u8))) (fpz : w0.heap.size ≤ pz ∧ VRow w pz 36 ((List.replicate 32 (0 : Int)).map (Value.int .u8))) (dpypz : py ≠ pz) :
    wpAnyH Tryd.prog .any witOps QQ S 4 listed ⟨#[u0, u1, u2, u3, u4, u5, u6, u7, u8, u9, u10, u11, u12, (.pointer (some ⟨py, 0, none⟩)), (.pointer (some ⟨pz, 0, none⟩)), u15, u16, u17, u18, u19, u20, u21, u22, u23, u24, u25, u26, iv, (.int .u8 k), (.agg NP.toArray), u30, iv, (.int .u8 k), (.agg NQ.toArray), u34, ov, (.int .i64 i), (.int .u8 k), (.agg NO.toArray), u39, u40], []⟩ w := by
  subst hl
  refine wpAnyH_ready (rs := [13]) (by kernel_rfl) (by simp) ?_
  refine AllReadyH.cons (o := { dst := some 12, op := Go.Op.alloc 36, type := 0, pos := "witness.go:14", after := #[], guard := none }) rfl (fun K hK => ?_) (AllReadyH.nil)
  go_simp
  change K _ (w.alloc (.cells ((List.replicate 32 (0 : Int)).map (Value.int .u8)).toArray 36))
  have hb3 : Below w0.heap.size w0 (w.alloc (.cells ((List.replicate 32 (0 : Int)).map (Value.int .u8)).toArray 36)) := hb.alloc hb.size _
  have gpx : w0.heap.size ≤ w.heap.size ∧ VRow (w.alloc (.cells ((List.replicate 32 (0 : Int)).map (Value.int .u8)).toArray 36)) w.heap.size 36 ((List.replicate 32 (0 : Int)).map (Value.int .u8)) := ⟨hb.size, VRow.new _ _ _⟩
  have gpy := And.intro fpy.1 (fpy.2.below ((Below.refl _ w).alloc (Nat.le_refl _) (.cells ((List.replicate 32 (0 : Int)).map (Value.int .u8)).toArray 36)) fpy.2.lt)
  have gpz := And.intro fpz.1 (fpz.2.below ((Below.refl _ w).alloc (Nat.le_refl _) (.cells ((List.replicate 32 (0 : Int)).map (Value.int .u8)).toArray 36)) fpz.2.lt)
  refine hK.out _ _ ?_ (fun hHeld => ?_)
  · exact hS _ hb3
  clear hK K
  try simp only [List.setIfInBounds_toArray, List.set_cons_zero, List.set_cons_succ]
  exact wst_3_111 hS hP hQ hO iP iQ iO hE _ (by kernel_rfl) _ w.heap.size py pz hb3 gpx gpy gpz (fun e => by have := fpy.2.lt; omega) (fun e => by have := fpz.2.lt; omega) dpypz
set_option maxRecDepth 100000 in
set_option maxHeartbeats 3200000 in
theorem wst_1_111 (hS : ∀ w, Below w0.heap.size w0 w → S w)
    (hP : ∀ w, Below w0.heap.size w0 w → Calls Tryd.prog 39 #[iv, .int .u8 k] w fun e w' => e = .returned (.agg NP.toArray) ∧ Below w.heap.size w w')
    (hQ : ∀ w, Below w0.heap.size w0 w → Calls Tryd.prog 40 #[iv, .int .u8 k] w fun e w' => e = .returned (.agg NQ.toArray) ∧ Below w.heap.size w w')
    (hO : ∀ w, Below w0.heap.size w0 w → Calls Tryd.prog 41 #[ov, .int .i64 i, .int .u8 k] w fun e w' => e = .returned (.agg NO.toArray) ∧ Below w.heap.size w w')
    (iP : Hash3 NP) (iQ : Hash3 NQ) (iO : Hash3 NO)
    (hE : ∀ w px py pz, Below w0.heap.size w0 w → (w0.heap.size ≤ px ∧ VRow w px 36 NP) → (w0.heap.size ≤ py ∧ VRow w py 36 NQ) → (w0.heap.size ≤ pz ∧ VRow w pz 36 NO) → QQ .normal ⟨#[u0, u1, u2, u3, u4, u5, u6, u7, u8, u9, u10, u11, (.pointer (some ⟨px, 0, none⟩)), (.pointer (some ⟨py, 0, none⟩)), (.pointer (some ⟨pz, 0, none⟩)), u15, u16, u17, u18, u19, u20, u21, u22, u23, u24, u25, u26, iv, (.int .u8 k), (.agg NP.toArray), u30, iv, (.int .u8 k), (.agg NQ.toArray), u34, ov, (.int .i64 i), (.int .u8 k), (.agg NO.toArray), u39, u40], []⟩ w)
    (listed : Array Bool) (hl : listed = #[true, true, true, true, true, true, true, false, true, true, true, true, false, true, true, true, false, false, false]) (w : World) (px py pz : Nat) (hb : Below w0.heap.size w0 w) (fpx : w0.heap.size ≤ px ∧ VRow w px 36 ((List.replicate 32 (0 : Int)).map (Value.int .u8))) (fpy : w0.heap.size ≤ py ∧ VRow w py 36 ((List.replicate 32 (0 : Int)).map (Value.int .u8))) (fpz : w0.heap.size ≤ pz ∧ VRow w pz 36 ((List.replicate 32 (0 : Int)).map (Value.int .u8))) (dpxpy : px ≠ py) (dpxpz : px ≠ pz) (dpypz : py ≠ pz) :
    wpAnyH Tryd.prog .any witOps QQ S 5 listed ⟨#[u0, u1, u2, u3, u4, u5, u6, u7, u8, u9, u10, u11, (.pointer (some ⟨px, 0, none⟩)), (.pointer (some ⟨py, 0, none⟩)), (.pointer (some ⟨pz, 0, none⟩)), u15, u16, u17, u18, u19, u20, u21, u22, u23, u24, u25, u26, iv, (.int .u8 k), (.agg NP.toArray), u30, iv, (.int .u8 k), u33, u34, ov, (.int .i64 i), (.int .u8 k), u38, u39, u40], []⟩ w := by
  subst hl
  refine wpAnyH_ready (rs := [7]) (by kernel_rfl) (by simp) ?_
  refine AllReadyH.cons (o := { dst := some 33, op := Go.Op.call { callee := Go.Callee.value (Go.Operand.func 40), args := #[Go.Operand.tmp 31, Go.Operand.tmp 32], argTypes := #[22, 5] }, type := 36, pos := "witness.go:14", after := #[{ on := 5, ground := Go.Ground.data }, { on := 6, ground := Go.Ground.data }, { on := 3, ground := Go.Ground.chain }], guard := none }) rfl (fun K hK => ?_) (AllReadyH.nil)
  go_simp
  refine (hQ w hb).mono ?_
  rintro e w2 ⟨rfl, hb2⟩
  have hb3 : Below w0.heap.size w0 w2 := hb.trans (hb2.mono hb.size)
  have gpx := And.intro fpx.1 (fpx.2.below hb2 fpx.2.lt)
  have gpy := And.intro fpy.1 (fpy.2.below hb2 fpy.2.lt)
  have gpz := And.intro fpz.1 (fpz.2.below hb2 fpz.2.lt)
  refine hK.out _ _ ?_ (fun hHeld => ?_)
  · exact hS _ hb3
  clear hK K
  try simp only [List.setIfInBounds_toArray, List.set_cons_zero, List.set_cons_succ]
  exact wst_2_111 hS hP hQ hO iP iQ iO hE _ (by kernel_rfl) w2 px py pz hb3 gpx gpy gpz dpxpy dpxpz dpypz
set_option maxRecDepth 100000 in
set_option maxHeartbeats 3200000 in
theorem wst_2_110 (hS : ∀ w, Below w0.heap.size w0 w → S w)
    (hP : ∀ w, Below w0.heap.size w0 w → Calls Tryd.prog 39 #[iv, .int .u8 k] w fun e w' => e = .returned (.agg NP.toArray) ∧ Below w.heap.size w w')
    (hQ : ∀ w, Below w0.heap.size w0 w → Calls Tryd.prog 40 #[iv, .int .u8 k] w fun e w' => e = .returned (.agg NQ.toArray) ∧ Below w.heap.size w w')
    (hO : ∀ w, Below w0.heap.size w0 w → Calls Tryd.prog 41 #[ov, .int .i64 i, .int .u8 k] w fun e w' => e = .returned (.agg NO.toArray) ∧ Below w.heap.size w w')
    (iP : Hash3 NP) (iQ : Hash3 NQ) (iO : Hash3 NO)
    (hE : ∀ w px py pz, Below w0.heap.size w0 w → (w0.heap.size ≤ px ∧ VRow w px 36 NP) → (w0.heap.size ≤ py ∧ VRow w py 36 NQ) → (w0.heap.size ≤ pz ∧ VRow w pz 36 NO) → QQ .normal ⟨#[u0, u1, u2, u3, u4, u5, u6, u7, u8, u9, u10, u11, (.pointer (some ⟨px, 0, none⟩)), (.pointer (some ⟨py, 0, none⟩)), (.pointer (some ⟨pz, 0, none⟩)), u15, u16, u17, u18, u19, u20, u21, u22, u23, u24, u25, u26, iv, (.int .u8 k), (.agg NP.toArray), u30, iv, (.int .u8 k), (.agg NQ.toArray), u34, ov, (.int .i64 i), (.int .u8 k), (.agg NO.toArray), u39, u40], []⟩ w)
    (listed : Array Bool) (hl : listed = #[true, true, true, true, true, true, true, true, true, true, true, true, false, true, true, false, false, false, false]) (w : World) (px py : Nat) (hb : Below w0.heap.size w0 w) (fpx : w0.heap.size ≤ px ∧ VRow w px 36 ((List.replicate 32 (0 : Int)).map (Value.int .u8))) (fpy : w0.heap.size ≤ py ∧ VRow w py 36 ((List.replicate 32 (0 : Int)).map (Value.int .u8))) (dpxpy : px ≠ py) :
    wpAnyH Tryd.prog .any witOps QQ S 5 listed ⟨#[u0, u1, u2, u3, u4, u5, u6, u7, u8, u9, u10, u11, (.pointer (some ⟨px, 0, none⟩)), (.pointer (some ⟨py, 0, none⟩)), u14, u15, u16, u17, u18, u19, u20, u21, u22, u23, u24, u25, u26, iv, (.int .u8 k), (.agg NP.toArray), u30, iv, (.int .u8 k), (.agg NQ.toArray), u34, ov, (.int .i64 i), (.int .u8 k), u38, u39, u40], []⟩ w := by
  subst hl
  refine wpAnyH_ready (rs := [12, 15]) (by kernel_rfl) (by simp) ?_
  refine AllReadyH.cons (o := { dst := some 38, op := Go.Op.call { callee := Go.Callee.value (Go.Operand.func 41), args := #[Go.Operand.tmp 35, Go.Operand.tmp 36, Go.Operand.tmp 37], argTypes := #[23, 3, 5] }, type := 36, pos := "witness.go:14", after := #[{ on := 9, ground := Go.Ground.data }, { on := 10, ground := Go.Ground.data }, { on := 11, ground := Go.Ground.data }, { on := 7, ground := Go.Ground.chain }], guard := none }) rfl (fun K hK => ?_) (AllReadyH.cons (o := { dst := some 14, op := Go.Op.alloc 36, type := 0, pos := "witness.go:14", after := #[], guard := none }) rfl (fun K hK => ?_) (AllReadyH.nil))
  · as_aux_lemma =>
    go_simp
    refine (hO w hb).mono ?_
    rintro e w2 ⟨rfl, hb2⟩
    have hb3 : Below w0.heap.size w0 w2 := hb.trans (hb2.mono hb.size)
    have gpx := And.intro fpx.1 (fpx.2.below hb2 fpx.2.lt)
    have gpy := And.intro fpy.1 (fpy.2.below hb2 fpy.2.lt)
    refine hK.out _ _ ?_ (fun hHeld => ?_)
    · exact hS _ hb3
    clear hK K
    try simp only [List.setIfInBounds_toArray, List.set_cons_zero, List.set_cons_succ]
    exact wst_3_110 hS hP hQ hO iP iQ iO hE _ (by kernel_rfl) w2 px py hb3 gpx gpy dpxpy
  · as_aux_lemma =>
    go_simp
    change K _ (w.alloc (.cells ((List.replicate 32 (0 : Int)).map (Value.int .u8)).toArray 36))
    have hb3 : Below w0.heap.size w0 (w.alloc (.cells ((List.replicate 32 (0 : Int)).map (Value.int .u8)).toArray 36)) := hb.alloc hb.size _
    have gpz : w0.heap.size ≤ w.heap.size ∧ VRow (w.alloc (.cells ((List.replicate 32 (0 : Int)).map (Value.int .u8)).toArray 36)) w.heap.size 36 ((List.replicate 32 (0 : Int)).map (Value.int .u8)) := ⟨hb.size, VRow.new _ _ _⟩
    have gpx := And.intro fpx.1 (fpx.2.below ((Below.refl _ w).alloc (Nat.le_refl _) (.cells ((List.replicate 32 (0 : Int)).map (Value.int .u8)).toArray 36)) fpx.2.lt)
    have gpy := And.intro fpy.1 (fpy.2.below ((Below.refl _ w).alloc (Nat.le_refl _) (.cells ((List.replicate 32 (0 : Int)).map (Value.int .u8)).toArray 36)) fpy.2.lt)
    refine hK.out _ _ ?_ (fun hHeld => ?_)
    · exact hS _ hb3
    clear hK K
    try simp only [List.setIfInBounds_toArray, List.set_cons_zero, List.set_cons_succ]
    exact wst_2_111 hS hP hQ hO iP iQ iO hE _ (by kernel_rfl) _ px py w.heap.size hb3 gpx gpy gpz dpxpy (fun e => by have := fpx.2.lt; omega) (fun e => by have := fpy.2.lt; omega)
set_option maxRecDepth 100000 in
set_option maxHeartbeats 3200000 in
theorem wst_2_101 (hS : ∀ w, Below w0.heap.size w0 w → S w)
    (hP : ∀ w, Below w0.heap.size w0 w → Calls Tryd.prog 39 #[iv, .int .u8 k] w fun e w' => e = .returned (.agg NP.toArray) ∧ Below w.heap.size w w')
    (hQ : ∀ w, Below w0.heap.size w0 w → Calls Tryd.prog 40 #[iv, .int .u8 k] w fun e w' => e = .returned (.agg NQ.toArray) ∧ Below w.heap.size w w')
    (hO : ∀ w, Below w0.heap.size w0 w → Calls Tryd.prog 41 #[ov, .int .i64 i, .int .u8 k] w fun e w' => e = .returned (.agg NO.toArray) ∧ Below w.heap.size w w')
    (iP : Hash3 NP) (iQ : Hash3 NQ) (iO : Hash3 NO)
    (hE : ∀ w px py pz, Below w0.heap.size w0 w → (w0.heap.size ≤ px ∧ VRow w px 36 NP) → (w0.heap.size ≤ py ∧ VRow w py 36 NQ) → (w0.heap.size ≤ pz ∧ VRow w pz 36 NO) → QQ .normal ⟨#[u0, u1, u2, u3, u4, u5, u6, u7, u8, u9, u10, u11, (.pointer (some ⟨px, 0, none⟩)), (.pointer (some ⟨py, 0, none⟩)), (.pointer (some ⟨pz, 0, none⟩)), u15, u16, u17, u18, u19, u20, u21, u22, u23, u24, u25, u26, iv, (.int .u8 k), (.agg NP.toArray), u30, iv, (.int .u8 k), (.agg NQ.toArray), u34, ov, (.int .i64 i), (.int .u8 k), (.agg NO.toArray), u39, u40], []⟩ w)
    (listed : Array Bool) (hl : listed = #[true, true, true, true, true, true, true, true, true, true, true, true, false, true, false, true, false, false, false]) (w : World) (px pz : Nat) (hb : Below w0.heap.size w0 w) (fpx : w0.heap.size ≤ px ∧ VRow w px 36 ((List.replicate 32 (0 : Int)).map (Value.int .u8))) (fpz : w0.heap.size ≤ pz ∧ VRow w pz 36 ((List.replicate 32 (0 : Int)).map (Value.int .u8))) (dpxpz : px ≠ pz) :
    wpAnyH Tryd.prog .any witOps QQ S 5 listed ⟨#[u0, u1, u2, u3, u4, u5, u6, u7, u8, u9, u10, u11, (.pointer (some ⟨px, 0, none⟩)), u13, (.pointer (some ⟨pz, 0, none⟩)), u15, u16, u17, u18, u19, u20, u21, u22, u23, u24, u25, u26, iv, (.int .u8 k), (.agg NP.toArray), u30, iv, (.int .u8 k), (.agg NQ.toArray), u34, ov, (.int .i64 i), (.int .u8 k), u38, u39, u40], []⟩ w := by
  subst hl
  refine wpAnyH_ready (rs := [12, 14]) (by kernel_rfl) (by simp) ?_
  refine AllReadyH.cons (o := { dst := some 38, op := Go.Op.call { callee := Go.Callee.value (Go.Operand.func 41), args := #[Go.Operand.tmp 35, Go.Operand.tmp 36, Go.Operand.tmp 37], argTypes := #[23, 3, 5] }, type := 36, pos := "witness.go:14", after := #[{ on := 9, ground := Go.Ground.data }, { on := 10, ground := Go.Ground.data }, { on := 11, ground := Go.Ground.data }, { on := 7, ground := Go.Ground.chain }], guard := none }) rfl (fun K hK => ?_) (AllReadyH.cons (o := { dst := some 13, op := Go.Op.alloc 36, type := 0, pos := "witness.go:14", after := #[], guard := none }) rfl (fun K hK => ?_) (AllReadyH.nil))
  · as_aux_lemma =>
    go_simp
    refine (hO w hb).mono ?_
    rintro e w2 ⟨rfl, hb2⟩
    have hb3 : Below w0.heap.size w0 w2 := hb.trans (hb2.mono hb.size)
    have gpx := And.intro fpx.1 (fpx.2.below hb2 fpx.2.lt)
    have gpz := And.intro fpz.1 (fpz.2.below hb2 fpz.2.lt)
    refine hK.out _ _ ?_ (fun hHeld => ?_)
    · exact hS _ hb3
    clear hK K
    try simp only [List.setIfInBounds_toArray, List.set_cons_zero, List.set_cons_succ]
    exact wst_3_101 hS hP hQ hO iP iQ iO hE _ (by kernel_rfl) w2 px pz hb3 gpx gpz dpxpz
  · as_aux_lemma =>
    go_simp
    change K _ (w.alloc (.cells ((List.replicate 32 (0 : Int)).map (Value.int .u8)).toArray 36))
    have hb3 : Below w0.heap.size w0 (w.alloc (.cells ((List.replicate 32 (0 : Int)).map (Value.int .u8)).toArray 36)) := hb.alloc hb.size _
    have gpy : w0.heap.size ≤ w.heap.size ∧ VRow (w.alloc (.cells ((List.replicate 32 (0 : Int)).map (Value.int .u8)).toArray 36)) w.heap.size 36 ((List.replicate 32 (0 : Int)).map (Value.int .u8)) := ⟨hb.size, VRow.new _ _ _⟩
    have gpx := And.intro fpx.1 (fpx.2.below ((Below.refl _ w).alloc (Nat.le_refl _) (.cells ((List.replicate 32 (0 : Int)).map (Value.int .u8)).toArray 36)) fpx.2.lt)
    have gpz := And.intro fpz.1 (fpz.2.below ((Below.refl _ w).alloc (Nat.le_refl _) (.cells ((List.replicate 32 (0 : Int)).map (Value.int .u8)).toArray 36)) fpz.2.lt)
    refine hK.out _ _ ?_ (fun hHeld => ?_)
    · exact hS _ hb3
    clear hK K
    try simp only [List.setIfInBounds_toArray, List.set_cons_zero, List.set_cons_succ]
    exact wst_2_111 hS hP hQ hO iP iQ iO hE _ (by kernel_rfl) _ px w.heap.size pz hb3 gpx gpy gpz (fun e => by have := fpx.2.lt; omega) dpxpz (fun e => by have := fpz.2.lt; omega)
set_option maxRecDepth 100000 in
set_option maxHeartbeats 3200000 in
theorem wst_2_011 (hS : ∀ w, Below w0.heap.size w0 w → S w)
    (hP : ∀ w, Below w0.heap.size w0 w → Calls Tryd.prog 39 #[iv, .int .u8 k] w fun e w' => e = .returned (.agg NP.toArray) ∧ Below w.heap.size w w')
    (hQ : ∀ w, Below w0.heap.size w0 w → Calls Tryd.prog 40 #[iv, .int .u8 k] w fun e w' => e = .returned (.agg NQ.toArray) ∧ Below w.heap.size w w')
    (hO : ∀ w, Below w0.heap.size w0 w → Calls Tryd.prog 41 #[ov, .int .i64 i, .int .u8 k] w fun e w' => e = .returned (.agg NO.toArray) ∧ Below w.heap.size w w')
    (iP : Hash3 NP) (iQ : Hash3 NQ) (iO : Hash3 NO)
    (hE : ∀ w px py pz, Below w0.heap.size w0 w → (w0.heap.size ≤ px ∧ VRow w px 36 NP) → (w0.heap.size ≤ py ∧ VRow w py 36 NQ) → (w0.heap.size ≤ pz ∧ VRow w pz 36 NO) → QQ .normal ⟨#[u0, u1, u2, u3, u4, u5, u6, u7, u8, u9, u10, u11, (.pointer (some ⟨px, 0, none⟩)), (.pointer (some ⟨py, 0, none⟩)), (.pointer (some ⟨pz, 0, none⟩)), u15, u16, u17, u18, u19, u20, u21, u22, u23, u24, u25, u26, iv, (.int .u8 k), (.agg NP.toArray), u30, iv, (.int .u8 k), (.agg NQ.toArray), u34, ov, (.int .i64 i), (.int .u8 k), (.agg NO.toArray), u39, u40], []⟩ w)
    (listed : Array Bool) (hl : listed = #[true, true, true, true, true, true, true, true, true, true, true, true, false, false, true, true, false, false, false]) (w : World) (py pz : Nat) (hb : Below w0.heap.size w0 w) (fpy : w0.heap.size ≤ py ∧ VRow w py 36 ((List.replicate 32 (0 : Int)).map (Value.int .u8))) (fpz : w0.heap.size ≤ pz ∧ VRow w pz 36 ((List.replicate 32 (0 : Int)).map (Value.int .u8))) (dpypz : py ≠ pz) :
    wpAnyH Tryd.prog .any witOps QQ S 5 listed ⟨#[u0, u1, u2, u3, u4, u5, u6, u7, u8, u9, u10, u11, u12, (.pointer (some ⟨py, 0, none⟩)), (.pointer (some ⟨pz, 0, none⟩)), u15, u16, u17, u18, u19, u20, u21, u22, u23, u24, u25, u26, iv, (.int .u8 k), (.agg NP.toArray), u30, iv, (.int .u8 k), (.agg NQ.toArray), u34, ov, (.int .i64 i), (.int .u8 k), u38, u39, u40], []⟩ w := by
  subst hl
  refine wpAnyH_ready (rs := [12, 13]) (by kernel_rfl) (by simp) ?_
  refine AllReadyH.cons (o := { dst := some 38, op := Go.Op.call { callee := Go.Callee.value (Go.Operand.func 41), args := #[Go.Operand.tmp 35, Go.Operand.tmp 36, Go.Operand.tmp 37], argTypes := #[23, 3, 5] }, type := 36, pos := "witness.go:14", after := #[{ on := 9, ground := Go.Ground.data }, { on := 10, ground := Go.Ground.data }, { on := 11, ground := Go.Ground.data }, { on := 7, ground := Go.Ground.chain }], guard := none }) rfl (fun K hK => ?_) (AllReadyH.cons (o := { dst := some 12, op := Go.Op.alloc 36, type := 0, pos := "witness.go:14", after := #[], guard := none }) rfl (fun K hK => ?_) (AllReadyH.nil))
  · as_aux_lemma =>
    go_simp
    refine (hO w hb).mono ?_
    rintro e w2 ⟨rfl, hb2⟩
    have hb3 : Below w0.heap.size w0 w2 := hb.trans (hb2.mono hb.size)
    have gpy := And.intro fpy.1 (fpy.2.below hb2 fpy.2.lt)
    have gpz := And.intro fpz.1 (fpz.2.below hb2 fpz.2.lt)
    refine hK.out _ _ ?_ (fun hHeld => ?_)
    · exact hS _ hb3
    clear hK K
    try simp only [List.setIfInBounds_toArray, List.set_cons_zero, List.set_cons_succ]
    exact wst_3_011 hS hP hQ hO iP iQ iO hE _ (by kernel_rfl) w2 py pz hb3 gpy gpz dpypz
  · as_aux_lemma =>
    go_simp
    change K _ (w.alloc (.cells ((List.replicate 32 (0 : Int)).map (Value.int .u8)).toArray 36))
    have hb3 : Below w0.heap.size w0 (w.alloc (.cells ((List.replicate 32 (0 : Int)).map (Value.int .u8)).toArray 36)) := hb.alloc hb.size _
    have gpx : w0.heap.size ≤ w.heap.size ∧ VRow (w.alloc (.cells ((List.replicate 32 (0 : Int)).map (Value.int .u8)).toArray 36)) w.heap.size 36 ((List.replicate 32 (0 : Int)).map (Value.int .u8)) := ⟨hb.size, VRow.new _ _ _⟩
    have gpy := And.intro fpy.1 (fpy.2.below ((Below.refl _ w).alloc (Nat.le_refl _) (.cells ((List.replicate 32 (0 : Int)).map (Value.int .u8)).toArray 36)) fpy.2.lt)
    have gpz := And.intro fpz.1 (fpz.2.below ((Below.refl _ w).alloc (Nat.le_refl _) (.cells ((List.replicate 32 (0 : Int)).map (Value.int .u8)).toArray 36)) fpz.2.lt)
    refine hK.out _ _ ?_ (fun hHeld => ?_)
    · exact hS _ hb3
    clear hK K
    try simp only [List.setIfInBounds_toArray, List.set_cons_zero, List.set_cons_succ]
    exact wst_2_111 hS hP hQ hO iP iQ iO hE _ (by kernel_rfl) _ w.heap.size py pz hb3 gpx gpy gpz (fun e => by have := fpy.2.lt; omega) (fun e => by have := fpz.2.lt; omega) dpypz
set_option maxRecDepth 100000 in
set_option maxHeartbeats 3200000 in
theorem wst_3_100 (hS : ∀ w, Below w0.heap.size w0 w → S w)
    (hP : ∀ w, Below w0.heap.size w0 w → Calls Tryd.prog 39 #[iv, .int .u8 k] w fun e w' => e = .returned (.agg NP.toArray) ∧ Below w.heap.size w w')
    (hQ : ∀ w, Below w0.heap.size w0 w → Calls Tryd.prog 40 #[iv, .int .u8 k] w fun e w' => e = .returned (.agg NQ.toArray) ∧ Below w.heap.size w w')
    (hO : ∀ w, Below w0.heap.size w0 w → Calls Tryd.prog 41 #[ov, .int .i64 i, .int .u8 k] w fun e w' => e = .returned (.agg NO.toArray) ∧ Below w.heap.size w w')
    (iP : Hash3 NP) (iQ : Hash3 NQ) (iO : Hash3 NO)
    (hE : ∀ w px py pz, Below w0.heap.size w0 w → (w0.heap.size ≤ px ∧ VRow w px 36 NP) → (w0.heap.size ≤ py ∧ VRow w py 36 NQ) → (w0.heap.size ≤ pz ∧ VRow w pz 36 NO) → QQ .normal ⟨#[u0, u1, u2, u3, u4, u5, u6, u7, u8, u9, u10, u11, (.pointer (some ⟨px, 0, none⟩)), (.pointer (some ⟨py, 0, none⟩)), (.pointer (some ⟨pz, 0, none⟩)), u15, u16, u17, u18, u19, u20, u21, u22, u23, u24, u25, u26, iv, (.int .u8 k), (.agg NP.toArray), u30, iv, (.int .u8 k), (.agg NQ.toArray), u34, ov, (.int .i64 i), (.int .u8 k), (.agg NO.toArray), u39, u40], []⟩ w)
    (listed : Array Bool) (hl : listed = #[true, true, true, true, true, true, true, true, true, true, true, true, true, true, false, false, false, false, false]) (w : World) (px : Nat) (hb : Below w0.heap.size w0 w) (fpx : w0.heap.size ≤ px ∧ VRow w px 36 ((List.replicate 32 (0 : Int)).map (Value.int .u8))) :
    wpAnyH Tryd.prog .any witOps QQ S 5 listed ⟨#[u0, u1, u2, u3, u4, u5, u6, u7, u8, u9, u10, u11, (.pointer (some ⟨px, 0, none⟩)), u13, u14, u15, u16, u17, u18, u19, u20, u21, u22, u23, u24, u25, u26, iv, (.int .u8 k), (.agg NP.toArray), u30, iv, (.int .u8 k), (.agg NQ.toArray), u34, ov, (.int .i64 i), (.int .u8 k), (.agg NO.toArray), u39, u40], []⟩ w := by
  subst hl
  refine wpAnyH_ready (rs := [14, 15]) (by kernel_rfl) (by simp) ?_
  refine AllReadyH.cons (o := { dst := some 13, op := Go.Op.alloc 36, type := 0, pos := "witness.go:14", after := #[], guard := none }) rfl (fun K hK => ?_) (AllReadyH.cons (o := { dst := some 14, op := Go.Op.alloc 36, type := 0, pos := "witness.go:14", after := #[], guard := none }) rfl (fun K hK => ?_) (AllReadyH.nil))
  · as_aux_lemma =>
    go_simp
    change K _ (w.alloc (.cells ((List.replicate 32 (0 : Int)).map (Value.int .u8)).toArray 36))
    have hb3 : Below w0.heap.size w0 (w.alloc (.cells ((List.replicate 32 (0 : Int)).map (Value.int .u8)).toArray 36)) := hb.alloc hb.size _
    have gpy : w0.heap.size ≤ w.heap.size ∧ VRow (w.alloc (.cells ((List.replicate 32 (0 : Int)).map (Value.int .u8)).toArray 36)) w.heap.size 36 ((List.replicate 32 (0 : Int)).map (Value.int .u8)) := ⟨hb.size, VRow.new _ _ _⟩
    have gpx := And.intro fpx.1 (fpx.2.below ((Below.refl _ w).alloc (Nat.le_refl _) (.cells ((List.replicate 32 (0 : Int)).map (Value.int .u8)).toArray 36)) fpx.2.lt)
    refine hK.out _ _ ?_ (fun hHeld => ?_)
    · exact hS _ hb3
    clear hK K
    try simp only [List.setIfInBounds_toArray, List.set_cons_zero, List.set_cons_succ]
    exact wst_3_110 hS hP hQ hO iP iQ iO hE _ (by kernel_rfl) _ px w.heap.size hb3 gpx gpy (fun e => by have := fpx.2.lt; omega)
  · as_aux_lemma =>
    go_simp
    change K _ (w.alloc (.cells ((List.replicate 32 (0 : Int)).map (Value.int .u8)).toArray 36))
    have hb3 : Below w0.heap.size w0 (w.alloc (.cells ((List.replicate 32 (0 : Int)).map (Value.int .u8)).toArray 36)) := hb.alloc hb.size _
    have gpz : w0.heap.size ≤ w.heap.size ∧ VRow (w.alloc (.cells ((List.replicate 32 (0 : Int)).map (Value.int .u8)).toArray 36)) w.heap.size 36 ((List.replicate 32 (0 : Int)).map (Value.int .u8)) := ⟨hb.size, VRow.new _ _ _⟩
    have gpx := And.intro fpx.1 (fpx.2.below ((Below.refl _ w).alloc (Nat.le_refl _) (.cells ((List.replicate 32 (0 : Int)).map (Value.int .u8)).toArray 36)) fpx.2.lt)
    refine hK.out _ _ ?_ (fun hHeld => ?_)
    · exact hS _ hb3
    clear hK K
    try simp only [List.setIfInBounds_toArray, List.set_cons_zero, List.set_cons_succ]
    exact wst_3_101 hS hP hQ hO iP iQ iO hE _ (by kernel_rfl) _ px w.heap.size hb3 gpx gpz (fun e => by have := fpx.2.lt; omega)
set_option maxRecDepth 100000 in
set_option maxHeartbeats 3200000 in
theorem wst_3_010 (hS : ∀ w, Below w0.heap.size w0 w → S w)
    (hP : ∀ w, Below w0.heap.size w0 w → Calls Tryd.prog 39 #[iv, .int .u8 k] w fun e w' => e = .returned (.agg NP.toArray) ∧ Below w.heap.size w w')
    (hQ : ∀ w, Below w0.heap.size w0 w → Calls Tryd.prog 40 #[iv, .int .u8 k] w fun e w' => e = .returned (.agg NQ.toArray) ∧ Below w.heap.size w w')
    (hO : ∀ w, Below w0.heap.size w0 w → Calls Tryd.prog 41 #[ov, .int .i64 i, .int .u8 k] w fun e w' => e = .returned (.agg NO.toArray) ∧ Below w.heap.size w w')
    (iP : Hash3 NP) (iQ : Hash3 NQ) (iO : Hash3 NO)
    (hE : ∀ w px py pz, Below w0.heap.size w0 w → (w0.heap.size ≤ px ∧ VRow w px 36 NP) → (w0.heap.size ≤ py ∧ VRow w py 36 NQ) → (w0.heap.size ≤ pz ∧ VRow w pz 36 NO) → QQ .normal ⟨#[u0, u1, u2, u3, u4, u5, u6, u7, u8, u9, u10, u11, (.pointer (some ⟨px, 0, none⟩)), (.pointer (some ⟨py, 0, none⟩)), (.pointer (some ⟨pz, 0, none⟩)), u15, u16, u17, u18, u19, u20, u21, u22, u23, u24, u25, u26, iv, (.int .u8 k), (.agg NP.toArray), u30, iv, (.int .u8 k), (.agg NQ.toArray), u34, ov, (.int .i64 i), (.int .u8 k), (.agg NO.toArray), u39, u40], []⟩ w)
    (listed : Array Bool) (hl : listed = #[true, true, true, true, true, true, true, true, true, true, true, true, true, false, true, false, false, false, false]) (w : World) (py : Nat) (hb : Below w0.heap.size w0 w) (fpy : w0.heap.size ≤ py ∧ VRow w py 36 ((List.replicate 32 (0 : Int)).map (Value.int .u8))) :
    wpAnyH Tryd.prog .any witOps QQ S 5 listed ⟨#[u0, u1, u2, u3, u4, u5, u6, u7, u8, u9, u10, u11, u12, (.pointer (some ⟨py, 0, none⟩)), u14, u15, u16, u17, u18, u19, u20, u21, u22, u23, u24, u25, u26, iv, (.int .u8 k), (.agg NP.toArray), u30, iv, (.int .u8 k), (.agg NQ.toArray), u34, ov, (.int .i64 i), (.int .u8 k), (.agg NO.toArray), u39, u40], []⟩ w := by
  subst hl
  refine wpAnyH_ready (rs := [13, 15]) (by kernel_rfl) (by simp) ?_
  refine AllReadyH.cons (o := { dst := some 12, op := Go.Op.alloc 36, type := 0, pos := "witness.go:14", after := #[], guard := none }) rfl (fun K hK => ?_) (AllReadyH.cons (o := { dst := some 14, op := Go.Op.alloc 36, type := 0, pos := "witness.go:14", after := #[], guard := none }) rfl (fun K hK => ?_) (AllReadyH.nil))
  · as_aux_lemma =>
    go_simp
    change K _ (w.alloc (.cells ((List.replicate 32 (0 : Int)).map (Value.int .u8)).toArray 36))
    have hb3 : Below w0.heap.size w0 (w.alloc (.cells ((List.replicate 32 (0 : Int)).map (Value.int .u8)).toArray 36)) := hb.alloc hb.size _
    have gpx : w0.heap.size ≤ w.heap.size ∧ VRow (w.alloc (.cells ((List.replicate 32 (0 : Int)).map (Value.int .u8)).toArray 36)) w.heap.size 36 ((List.replicate 32 (0 : Int)).map (Value.int .u8)) := ⟨hb.size, VRow.new _ _ _⟩
    have gpy := And.intro fpy.1 (fpy.2.below ((Below.refl _ w).alloc (Nat.le_refl _) (.cells ((List.replicate 32 (0 : Int)).map (Value.int .u8)).toArray 36)) fpy.2.lt)
    refine hK.out _ _ ?_ (fun hHeld => ?_)
    · exact hS _ hb3
    clear hK K
    try simp only [List.setIfInBounds_toArray, List.set_cons_zero, List.set_cons_succ]
    exact wst_3_110 hS hP hQ hO iP iQ iO hE _ (by kernel_rfl) _ w.heap.size py hb3 gpx gpy (fun e => by have := fpy.2.lt; omega)
  · as_aux_lemma =>
    go_simp
    change K _ (w.alloc (.cells ((List.replicate 32 (0 : Int)).map (Value.int .u8)).toArray 36))
    have hb3 : Below w0.heap.size w0 (w.alloc (.cells ((List.replicate 32 (0 : Int)).map (Value.int .u8)).toArray 36)) := hb.alloc hb.size _
    have gpz : w0.heap.size ≤ w.heap.size ∧ VRow (w.alloc (.cells ((List.replicate 32 (0 : Int)).map (Value.int .u8)).toArray 36)) w.heap.size 36 ((List.replicate 32 (0 : Int)).map (Value.int .u8)) := ⟨hb.size, VRow.new _ _ _⟩
    have gpy := And.intro fpy.1 (fpy.2.below ((Below.refl _ w).alloc (Nat.le_refl _) (.cells ((List.replicate 32 (0 : Int)).map (Value.int .u8)).toArray 36)) fpy.2.lt)
    refine hK.out _ _ ?_ (fun hHeld => ?_)
    · exact hS _ hb3
    clear hK K
    try simp only [List.setIfInBounds_toArray, List.set_cons_zero, List.set_cons_succ]
    exact wst_3_011 hS hP hQ hO iP iQ iO hE _ (by kernel_rfl) _ py w.heap.size hb3 gpy gpz (fun e => by have := fpy.2.lt; omega)
set_option maxRecDepth 100000 in
set_option maxHeartbeats 3200000 in
theorem wst_3_001 (hS : ∀ w, Below w0.heap.size w0 w → S w)
    (hP : ∀ w, Below w0.heap.size w0 w → Calls Tryd.prog 39 #[iv, .int .u8 k] w fun e w' => e = .returned (.agg NP.toArray) ∧ Below w.heap.size w w')
    (hQ : ∀ w, Below w0.heap.size w0 w → Calls Tryd.prog 40 #[iv, .int .u8 k] w fun e w' => e = .returned (.agg NQ.toArray) ∧ Below w.heap.size w w')
    (hO : ∀ w, Below w0.heap.size w0 w → Calls Tryd.prog 41 #[ov, .int .i64 i, .int .u8 k] w fun e w' => e = .returned (.agg NO.toArray) ∧ Below w.heap.size w w')
    (iP : Hash3 NP) (iQ : Hash3 NQ) (iO : Hash3 NO)
    (hE : ∀ w px py pz, Below w0.heap.size w0 w → (w0.heap.size ≤ px ∧ VRow w px 36 NP) → (w0.heap.size ≤ py ∧ VRow w py 36 NQ) → (w0.heap.size ≤ pz ∧ VRow w pz 36 NO) → QQ .normal ⟨#[u0, u1, u2, u3, u4, u5, u6, u7, u8, u9, u10, u11, (.pointer (some ⟨px, 0, none⟩)), (.pointer (some ⟨py, 0, none⟩)), (.pointer (some ⟨pz, 0, none⟩)), u15, u16, u17, u18, u19, u20, u21, u22, u23, u24, u25, u26, iv, (.int .u8 k), (.agg NP.toArray), u30, iv, (.int .u8 k), (.agg NQ.toArray), u34, ov, (.int .i64 i), (.int .u8 k), (.agg NO.toArray), u39, u40], []⟩ w)
    (listed : Array Bool) (hl : listed = #[true, true, true, true, true, true, true, true, true, true, true, true, true, false, false, true, false, false, false]) (w : World) (pz : Nat) (hb : Below w0.heap.size w0 w) (fpz : w0.heap.size ≤ pz ∧ VRow w pz 36 ((List.replicate 32 (0 : Int)).map (Value.int .u8))) :
    wpAnyH Tryd.prog .any witOps QQ S 5 listed ⟨#[u0, u1, u2, u3, u4, u5, u6, u7, u8, u9, u10, u11, u12, u13, (.pointer (some ⟨pz, 0, none⟩)), u15, u16, u17, u18, u19, u20, u21, u22, u23, u24, u25, u26, iv, (.int .u8 k), (.agg NP.toArray), u30, iv, (.int .u8 k), (.agg NQ.toArray), u34, ov, (.int .i64 i), (.int .u8 k), (.agg NO.toArray), u39, u40], []⟩ w := by
  subst hl
  refine wpAnyH_ready (rs := [13, 14]) (by kernel_rfl) (by simp) ?_
  refine AllReadyH.cons (o := { dst := some 12, op := Go.Op.alloc 36, type := 0, pos := "witness.go:14", after := #[], guard := none }) rfl (fun K hK => ?_) (AllReadyH.cons (o := { dst := some 13, op := Go.Op.alloc 36, type := 0, pos := "witness.go:14", after := #[], guard := none }) rfl (fun K hK => ?_) (AllReadyH.nil))
  · as_aux_lemma =>
    go_simp
    change K _ (w.alloc (.cells ((List.replicate 32 (0 : Int)).map (Value.int .u8)).toArray 36))
    have hb3 : Below w0.heap.size w0 (w.alloc (.cells ((List.replicate 32 (0 : Int)).map (Value.int .u8)).toArray 36)) := hb.alloc hb.size _
    have gpx : w0.heap.size ≤ w.heap.size ∧ VRow (w.alloc (.cells ((List.replicate 32 (0 : Int)).map (Value.int .u8)).toArray 36)) w.heap.size 36 ((List.replicate 32 (0 : Int)).map (Value.int .u8)) := ⟨hb.size, VRow.new _ _ _⟩
    have gpz := And.intro fpz.1 (fpz.2.below ((Below.refl _ w).alloc (Nat.le_refl _) (.cells ((List.replicate 32 (0 : Int)).map (Value.int .u8)).toArray 36)) fpz.2.lt)
    refine hK.out _ _ ?_ (fun hHeld => ?_)
    · exact hS _ hb3
    clear hK K
    try simp only [List.setIfInBounds_toArray, List.set_cons_zero, List.set_cons_succ]
    exact wst_3_101 hS hP hQ hO iP iQ iO hE _ (by kernel_rfl) _ w.heap.size pz hb3 gpx gpz (fun e => by have := fpz.2.lt; omega)
  · as_aux_lemma =>
    go_simp
    change K _ (w.alloc (.cells ((List.replicate 32 (0 : Int)).map (Value.int .u8)).toArray 36))
    have hb3 : Below w0.heap.size w0 (w.alloc (.cells ((List.replicate 32 (0 : Int)).map (Value.int .u8)).toArray 36)) := hb.alloc hb.size _
    have gpy : w0.heap.size ≤ w.heap.size ∧ VRow (w.alloc (.cells ((List.replicate 32 (0 : Int)).map (Value.int .u8)).toArray 36)) w.heap.size 36 ((List.replicate 32 (0 : Int)).map (Value.int .u8)) := ⟨hb.size, VRow.new _ _ _⟩
    have gpz := And.intro fpz.1 (fpz.2.below ((Below.refl _ w).alloc (Nat.le_refl _) (.cells ((List.replicate 32 (0 : Int)).map (Value.int .u8)).toArray 36)) fpz.2.lt)
    refine hK.out _ _ ?_ (fun hHeld => ?_)
    · exact hS _ hb3
    clear hK K
    try simp only [List.setIfInBounds_toArray, List.set_cons_zero, List.set_cons_succ]
    exact wst_3_011 hS hP hQ hO iP iQ iO hE _ (by kernel_rfl) _ w.heap.size pz hb3 gpy gpz (fun e => by have := fpz.2.lt; omega)
set_option maxRecDepth 100000 in
set_option maxHeartbeats 3200000 in
theorem wst_0_111 (hS : ∀ w, Below w0.heap.size w0 w → S w)
    (hP : ∀ w, Below w0.heap.size w0 w → Calls Tryd.prog 39 #[iv, .int .u8 k] w fun e w' => e = .returned (.agg NP.toArray) ∧ Below w.heap.size w w')
    (hQ : ∀ w, Below w0.heap.size w0 w → Calls Tryd.prog 40 #[iv, .int .u8 k] w fun e w' => e = .returned (.agg NQ.toArray) ∧ Below w.heap.size w w')
    (hO : ∀ w, Below w0.heap.size w0 w → Calls Tryd.prog 41 #[ov, .int .i64 i, .int .u8 k] w fun e w' => e = .returned (.agg NO.toArray) ∧ Below w.heap.size w w')
    (iP : Hash3 NP) (iQ : Hash3 NQ) (iO : Hash3 NO)
    (hE : ∀ w px py pz, Below w0.heap.size w0 w → (w0.heap.size ≤ px ∧ VRow w px 36 NP) → (w0.heap.size ≤ py ∧ VRow w py 36 NQ) → (w0.heap.size ≤ pz ∧ VRow w pz 36 NO) → QQ .normal ⟨#[u0, u1, u2, u3, u4, u5, u6, u7, u8, u9, u10, u11, (.pointer (some ⟨px, 0, none⟩)), (.pointer (some ⟨py, 0, none⟩)), (.pointer (some ⟨pz, 0, none⟩)), u15, u16, u17, u18, u19, u20, u21, u22, u23, u24, u25, u26, iv, (.int .u8 k), (.agg NP.toArray), u30, iv, (.int .u8 k), (.agg NQ.toArray), u34, ov, (.int .i64 i), (.int .u8 k), (.agg NO.toArray), u39, u40], []⟩ w)
    (listed : Array Bool) (hl : listed = #[true, true, true, false, true, true, true, false, true, true, true, true, false, true, true, true, false, false, false]) (w : World) (px py pz : Nat) (hb : Below w0.heap.size w0 w) (fpx : w0.heap.size ≤ px ∧ VRow w px 36 ((List.replicate 32 (0 : Int)).map (Value.int .u8))) (fpy : w0.heap.size ≤ py ∧ VRow w py 36 ((List.replicate 32 (0 : Int)).map (Value.int .u8))) (fpz : w0.heap.size ≤ pz ∧ VRow w pz 36 ((List.replicate 32 (0 : Int)).map (Value.int .u8))) (dpxpy : px ≠ py) (dpxpz : px ≠ pz) (dpypz : py ≠ pz) :
    wpAnyH Tryd.prog .any witOps QQ S 6 listed ⟨#[u0, u1, u2, u3, u4, u5, u6, u7, u8, u9, u10, u11, (.pointer (some ⟨px, 0, none⟩)), (.pointer (some ⟨py, 0, none⟩)), (.pointer (some ⟨pz, 0, none⟩)), u15, u16, u17, u18, u19, u20, u21, u22, u23, u24, u25, u26, iv, (.int .u8 k), u29, u30, iv, (.int .u8 k), u33, u34, ov, (.int .i64 i), (.int .u8 k), u38, u39, u40], []⟩ w := by
  subst hl
  refine wpAnyH_ready (rs := [3]) (by kernel_rfl) (by simp) ?_
  refine AllReadyH.cons (o := { dst := some 29, op := Go.Op.call { callee := Go.Callee.value (Go.Operand.func 39), args := #[Go.Operand.tmp 27, Go.Operand.tmp 28], argTypes := #[22, 5] }, type := 36, pos := "witness.go:14", after := #[{ on := 1, ground := Go.Ground.data }, { on := 2, ground := Go.Ground.data }], guard := none }) rfl (fun K hK => ?_) (AllReadyH.nil)
  go_simp
  refine (hP w hb).mono ?_
  rintro e w2 ⟨rfl, hb2⟩
  have hb3 : Below w0.heap.size w0 w2 := hb.trans (hb2.mono hb.size)
  have gpx := And.intro fpx.1 (fpx.2.below hb2 fpx.2.lt)
  have gpy := And.intro fpy.1 (fpy.2.below hb2 fpy.2.lt)
  have gpz := And.intro fpz.1 (fpz.2.below hb2 fpz.2.lt)
  refine hK.out _ _ ?_ (fun hHeld => ?_)
  · exact hS _ hb3
  clear hK K
  try simp only [List.setIfInBounds_toArray, List.set_cons_zero, List.set_cons_succ]
  exact wst_1_111 hS hP hQ hO iP iQ iO hE _ (by kernel_rfl) w2 px py pz hb3 gpx gpy gpz dpxpy dpxpz dpypz
set_option maxRecDepth 100000 in
set_option maxHeartbeats 3200000 in
theorem wst_1_110 (hS : ∀ w, Below w0.heap.size w0 w → S w)
    (hP : ∀ w, Below w0.heap.size w0 w → Calls Tryd.prog 39 #[iv, .int .u8 k] w fun e w' => e = .returned (.agg NP.toArray) ∧ Below w.heap.size w w')
    (hQ : ∀ w, Below w0.heap.size w0 w → Calls Tryd.prog 40 #[iv, .int .u8 k] w fun e w' => e = .returned (.agg NQ.toArray) ∧ Below w.heap.size w w')
    (hO : ∀ w, Below w0.heap.size w0 w → Calls Tryd.prog 41 #[ov, .int .i64 i, .int .u8 k] w fun e w' => e = .returned (.agg NO.toArray) ∧ Below w.heap.size w w')
    (iP : Hash3 NP) (iQ : Hash3 NQ) (iO : Hash3 NO)
    (hE : ∀ w px py pz, Below w0.heap.size w0 w → (w0.heap.size ≤ px ∧ VRow w px 36 NP) → (w0.heap.size ≤ py ∧ VRow w py 36 NQ) → (w0.heap.size ≤ pz ∧ VRow w pz 36 NO) → QQ .normal ⟨#[u0, u1, u2, u3, u4, u5, u6, u7, u8, u9, u10, u11, (.pointer (some ⟨px, 0, none⟩)), (.pointer (some ⟨py, 0, none⟩)), (.pointer (some ⟨pz, 0, none⟩)), u15, u16, u17, u18, u19, u20, u21, u22, u23, u24, u25, u26, iv, (.int .u8 k), (.agg NP.toArray), u30, iv, (.int .u8 k), (.agg NQ.toArray), u34, ov, (.int .i64 i), (.int .u8 k), (.agg NO.toArray), u39, u40], []⟩ w)
    (listed : Array Bool) (hl : listed = #[true, true, true, true, true, true, true, false, true, true, true, true, false, true, true, false, false, false, false]) (w : World) (px py : Nat) (hb : Below w0.heap.size w0 w) (fpx : w0.heap.size ≤ px ∧ VRow w px 36 ((List.replicate 32 (0 : Int)).map (Value.int .u8))) (fpy : w0.heap.size ≤ py ∧ VRow w py 36 ((List.replicate 32 (0 : Int)).map (Value.int .u8))) (dpxpy : px ≠ py) :
    wpAnyH Tryd.prog .any witOps QQ S 6 listed ⟨#[u0, u1, u2, u3, u4, u5, u6, u7, u8, u9, u10, u11, (.pointer (some ⟨px, 0, none⟩)), (.pointer (some ⟨py, 0, none⟩)), u14, u15, u16, u17, u18, u19, u20, u21, u22, u23, u24, u25, u26, iv, (.int .u8 k), (.agg NP.toArray), u30, iv, (.int .u8 k), u33, u34, ov, (.int .i64 i), (.int .u8 k), u38, u39, u40], []⟩ w := by
  subst hl
  refine wpAnyH_ready (rs := [7, 15]) (by kernel_rfl) (by simp) ?_
  refine AllReadyH.cons (o := { dst := some 33, op := Go.Op.call { callee := Go.Callee.value (Go.Operand.func 40), args := #[Go.Operand.tmp 31, Go.Operand.tmp 32], argTypes := #[22, 5] }, type := 36, pos := "witness.go:14", after := #[{ on := 5, ground := Go.Ground.data }, { on := 6, ground := Go.Ground.data }, { on := 3, ground := Go.Ground.chain }], guard := none }) rfl (fun K hK => ?_) (AllReadyH.cons (o := { dst := some 14, op := Go.Op.alloc 36, type := 0, pos := "witness.go:14", after := #[], guard := none }) rfl (fun K hK => ?_) (AllReadyH.nil))
  · as_aux_lemma =>
    go_simp
    refine (hQ w hb).mono ?_
    rintro e w2 ⟨rfl, hb2⟩
    have hb3 : Below w0.heap.size w0 w2 := hb.trans (hb2.mono hb.size)
    have gpx := And.intro fpx.1 (fpx.2.below hb2 fpx.2.lt)
    have gpy := And.intro fpy.1 (fpy.2.below hb2 fpy.2.lt)
    refine hK.out _ _ ?_ (fun hHeld => ?_)
    · exact hS _ hb3
    clear hK K
    try simp only [List.setIfInBounds_toArray, List.set_cons_zero, List.set_cons_succ]
    exact wst_2_110 hS hP hQ hO iP iQ iO hE _ (by kernel_rfl) w2 px py hb3 gpx gpy dpxpy
  · as_aux_lemma =>
    go_simp
    change K _ (w.alloc (.cells ((List.replicate 32 (0 : Int)).map (Value.int .u8)).toArray 36))
    have hb3 : Below w0.heap.size w0 (w.alloc (.cells ((List.replicate 32 (0 : Int)).map (Value.int .u8)).toArray 36)) := hb.alloc hb.size _
    have gpz : w0.heap.size ≤ w.heap.size ∧ VRow (w.alloc (.cells ((List.replicate 32 (0 : Int)).map (Value.int .u8)).toArray 36)) w.heap.size 36 ((List.replicate 32 (0 : Int)).map (Value.int .u8)) := ⟨hb.size, VRow.new _ _ _⟩
    have gpx := And.intro fpx.1 (fpx.2.below ((Below.refl _ w).alloc (Nat.le_refl _) (.cells ((List.replicate 32 (0 : Int)).map (Value.int .u8)).toArray 36)) fpx.2.lt)
    have gpy := And.intro fpy.1 (fpy.2.below ((Below.refl _ w).alloc (Nat.le_refl _) (.cells ((List.replicate 32 (0 : Int)).map (Value.int .u8)).toArray 36)) fpy.2.lt)
    refine hK.out _ _ ?_ (fun hHeld => ?_)
    · exact hS _ hb3
    clear hK K
    try simp only [List.setIfInBounds_toArray, List.set_cons_zero, List.set_cons_succ]
    exact wst_1_111 hS hP hQ hO iP iQ iO hE _ (by kernel_rfl) _ px py w.heap.size hb3 gpx gpy gpz dpxpy (fun e => by have := fpx.2.lt; omega) (fun e => by have := fpy.2.lt; omega)
set_option maxRecDepth 100000 in
set_option maxHeartbeats 3200000 in
theorem wst_1_101 (hS : ∀ w, Below w0.heap.size w0 w → S w)
    (hP : ∀ w, Below w0.heap.size w0 w → Calls Tryd.prog 39 #[iv, .int .u8 k] w fun e w' => e = .returned (.agg NP.toArray) ∧ Below w.heap.size w w')
    (hQ : ∀ w, Below w0.heap.size w0 w → Calls Tryd.prog 40 #[iv, .int .u8 k] w fun e w' => e = .returned (.agg NQ.toArray) ∧ Below w.heap.size w w')
    (hO : ∀ w, Below w0.heap.size w0 w → Calls Tryd.prog 41 #[ov, .int .i64 i, .int .u8 k] w fun e w' => e = .returned (.agg NO.toArray) ∧ Below w.heap.size w w')
    (iP : Hash3 NP) (iQ : Hash3 NQ) (iO : Hash3 NO)
    (hE : ∀ w px py pz, Below w0.heap.size w0 w → (w0.heap.size ≤ px ∧ VRow w px 36 NP) → (w0.heap.size ≤ py ∧ VRow w py 36 NQ) → (w0.heap.size ≤ pz ∧ VRow w pz 36 NO) → QQ .normal ⟨#[u0, u1, u2, u3, u4, u5, u6, u7, u8, u9, u10, u11, (.pointer (some ⟨px, 0, none⟩)), (.pointer (some ⟨py, 0, none⟩)), (.pointer (some ⟨pz, 0, none⟩)), u15, u16, u17, u18, u19, u20, u21, u22, u23, u24, u25, u26, iv, (.int .u8 k), (.agg NP.toArray), u30, iv, (.int .u8 k), (.agg NQ.toArray), u34, ov, (.int .i64 i), (.int .u8 k), (.agg NO.toArray), u39, u40], []⟩ w)
    (listed : Array Bool) (hl : listed = #[true, true, true, true, true, true, true, false, true, true, true, true, false, true, false, true, false, false, false]) (w : World) (px pz : Nat) (hb : Below w0.heap.size w0 w) (fpx : w0.heap.size ≤ px ∧ VRow w px 36 ((List.replicate 32 (0 : Int)).map (Value.int .u8))) (fpz : w0.heap.size ≤ pz ∧ VRow w pz 36 ((List.replicate 32 (0 : Int)).map (Value.int .u8))) (dpxpz : px ≠ pz) :
    wpAnyH Tryd.prog .any witOps QQ S 6 listed ⟨#[u0, u1, u2, u3, u4, u5, u6, u7, u8, u9, u10, u11, (.pointer (some ⟨px, 0, none⟩)), u13, (.pointer (some ⟨pz, 0, none⟩)), u15, u16, u17, u18, u19, u20, u21, u22, u23, u24, u25, u26, iv, (.int .u8 k), (.agg NP.toArray), u30, iv, (.int .u8 k), u33, u34, ov, (.int .i64 i), (.int .u8 k), u38, u39, u40], []⟩ w := by
  subst hl
  refine wpAnyH_ready (rs := [7, 14]) (by kernel_rfl) (by simp) ?_
  refine AllReadyH.cons (o := { dst := some 33, op := Go.Op.call { callee := Go.Callee.value (Go.Operand.func 40), args := #[Go.Operand.tmp 31, Go.Operand.tmp 32], argTypes := #[22, 5] }, type := 36, pos := "witness.go:14", after := #[{ on := 5, ground := Go.Ground.data }, { on := 6, ground := Go.Ground.data }, { on := 3, ground := Go.Ground.chain }], guard := none }) rfl (fun K hK => ?_) (AllReadyH.cons (o := { dst := some 13, op := Go.Op.alloc 36, type := 0, pos := "witness.go:14", after := #[], guard := none }) rfl (fun K hK => ?_) (AllReadyH.nil))
  · as_aux_lemma =>
    go_simp
    refine (hQ w hb).mono ?_
    rintro e w2 ⟨rfl, hb2⟩
    have hb3 : Below w0.heap.size w0 w2 := hb.trans (hb2.mono hb.size)
    have gpx := And.intro fpx.1 (fpx.2.below hb2 fpx.2.lt)
    have gpz := And.intro fpz.1 (fpz.2.below hb2 fpz.2.lt)
    refine hK.out _ _ ?_ (fun hHeld => ?_)
    · exact hS _ hb3
    clear hK K
    try simp only [List.setIfInBounds_toArray, List.set_cons_zero, List.set_cons_succ]
    exact wst_2_101 hS hP hQ hO iP iQ iO hE _ (by kernel_rfl) w2 px pz hb3 gpx gpz dpxpz
  · as_aux_lemma =>
    go_simp
    change K _ (w.alloc (.cells ((List.replicate 32 (0 : Int)).map (Value.int .u8)).toArray 36))
    have hb3 : Below w0.heap.size w0 (w.alloc (.cells ((List.replicate 32 (0 : Int)).map (Value.int .u8)).toArray 36)) := hb.alloc hb.size _
    have gpy : w0.heap.size ≤ w.heap.size ∧ VRow (w.alloc (.cells ((List.replicate 32 (0 : Int)).map (Value.int .u8)).toArray 36)) w.heap.size 36 ((List.replicate 32 (0 : Int)).map (Value.int .u8)) := ⟨hb.size, VRow.new _ _ _⟩
    have gpx := And.intro fpx.1 (fpx.2.below ((Below.refl _ w).alloc (Nat.le_refl _) (.cells ((List.replicate 32 (0 : Int)).map (Value.int .u8)).toArray 36)) fpx.2.lt)
    have gpz := And.intro fpz.1 (fpz.2.below ((Below.refl _ w).alloc (Nat.le_refl _) (.cells ((List.replicate 32 (0 : Int)).map (Value.int .u8)).toArray 36)) fpz.2.lt)
    refine hK.out _ _ ?_ (fun hHeld => ?_)
    · exact hS _ hb3
    clear hK K
    try simp only [List.setIfInBounds_toArray, List.set_cons_zero, List.set_cons_succ]
    exact wst_1_111 hS hP hQ hO iP iQ iO hE _ (by kernel_rfl) _ px w.heap.size pz hb3 gpx gpy gpz (fun e => by have := fpx.2.lt; omega) dpxpz (fun e => by have := fpz.2.lt; omega)
set_option maxRecDepth 100000 in
set_option maxHeartbeats 3200000 in
theorem wst_1_011 (hS : ∀ w, Below w0.heap.size w0 w → S w)
    (hP : ∀ w, Below w0.heap.size w0 w → Calls Tryd.prog 39 #[iv, .int .u8 k] w fun e w' => e = .returned (.agg NP.toArray) ∧ Below w.heap.size w w')
    (hQ : ∀ w, Below w0.heap.size w0 w → Calls Tryd.prog 40 #[iv, .int .u8 k] w fun e w' => e = .returned (.agg NQ.toArray) ∧ Below w.heap.size w w')
    (hO : ∀ w, Below w0.heap.size w0 w → Calls Tryd.prog 41 #[ov, .int .i64 i, .int .u8 k] w fun e w' => e = .returned (.agg NO.toArray) ∧ Below w.heap.size w w')
    (iP : Hash3 NP) (iQ : Hash3 NQ) (iO : Hash3 NO)
    (hE : ∀ w px py pz, Below w0.heap.size w0 w → (w0.heap.size ≤ px ∧ VRow w px 36 NP) → (w0.heap.size ≤ py ∧ VRow w py 36 NQ) → (w0.heap.size ≤ pz ∧ VRow w pz 36 NO) → QQ .normal ⟨#[u0, u1, u2, u3, u4, u5, u6, u7, u8, u9, u10, u11, (.pointer (some ⟨px, 0, none⟩)), (.pointer (some ⟨py, 0, none⟩)), (.pointer (some ⟨pz, 0, none⟩)), u15, u16, u17, u18, u19, u20, u21, u22, u23, u24, u25, u26, iv, (.int .u8 k), (.agg NP.toArray), u30, iv, (.int .u8 k), (.agg NQ.toArray), u34, ov, (.int .i64 i), (.int .u8 k), (.agg NO.toArray), u39, u40], []⟩ w)
    (listed : Array Bool) (hl : listed = #[true, true, true, true, true, true, true, false, true, true, true, true, false, false, true, true, false, false, false]) (w : World) (py pz : Nat) (hb : Below w0.heap.size w0 w) (fpy : w0.heap.size ≤ py ∧ VRow w py 36 ((List.replicate 32 (0 : Int)).map (Value.int .u8))) (fpz : w0.heap.size ≤ pz ∧ VRow w pz 36 ((List.replicate 32 (0 : Int)).map (Value.int .u8))) (dpypz : py ≠ pz) :
    wpAnyH Tryd.prog .any witOps QQ S 6 listed ⟨#[u0, u1, u2, u3, u4, u5, u6, u7, u8, u9, u10, u11, u12, (.pointer (some ⟨py, 0, none⟩)), (.pointer (some ⟨pz, 0, none⟩)), u15, u16, u17, u18, u19, u20, u21, u22, u23, u24, u25, u26, iv, (.int .u8 k), (.agg NP.toArray), u30, iv, (.int .u8 k), u33, u34, ov, (.int .i64 i), (.int .u8 k), u38, u39, u40], []⟩ w := by
  subst hl
  refine wpAnyH_ready (rs := [7, 13]) (by kernel_rfl) (by simp) ?_
  refine AllReadyH.cons (o := { dst := some 33, op := Go.Op.call { callee := Go.Callee.value (Go.Operand.func 40), args := #[Go.Operand.tmp 31, Go.Operand.tmp 32], argTypes := #[22, 5] }, type := 36, pos := "witness.go:14", after := #[{ on := 5, ground := Go.Ground.data }, { on := 6, ground := Go.Ground.data }, { on := 3, ground := Go.Ground.chain }], guard := none }) rfl (fun K hK => ?_) (AllReadyH.cons (o := { dst := some 12, op := Go.Op.alloc 36, type := 0, pos := "witness.go:14", after := #[], guard := none }) rfl (fun K hK => ?_) (AllReadyH.nil))
  · as_aux_lemma =>
    go_simp
    refine (hQ w hb).mono ?_
    rintro e w2 ⟨rfl, hb2⟩
    have hb3 : Below w0.heap.size w0 w2 := hb.trans (hb2.mono hb.size)
    have gpy := And.intro fpy.1 (fpy.2.below hb2 fpy.2.lt)
    have gpz := And.intro fpz.1 (fpz.2.below hb2 fpz.2.lt)
    refine hK.out _ _ ?_ (fun hHeld => ?_)
    · exact hS _ hb3
    clear hK K
    try simp only [List.setIfInBounds_toArray, List.set_cons_zero, List.set_cons_succ]
    exact wst_2_011 hS hP hQ hO iP iQ iO hE _ (by kernel_rfl) w2 py pz hb3 gpy gpz dpypz
  · as_aux_lemma =>
    go_simp
    change K _ (w.alloc (.cells ((List.replicate 32 (0 : Int)).map (Value.int .u8)).toArray 36))
    have hb3 : Below w0.heap.size w0 (w.alloc (.cells ((List.replicate 32 (0 : Int)).map (Value.int .u8)).toArray 36)) := hb.alloc hb.size _
    have gpx : w0.heap.size ≤ w.heap.size ∧ VRow (w.alloc (.cells ((List.replicate 32 (0 : Int)).map (Value.int .u8)).toArray 36)) w.heap.size 36 ((List.replicate 32 (0 : Int)).map (Value.int .u8)) := ⟨hb.size, VRow.new _ _ _⟩
    have gpy := And.intro fpy.1 (fpy.2.below ((Below.refl _ w).alloc (Nat.le_refl _) (.cells ((List.replicate 32 (0 : Int)).map (Value.int .u8)).toArray 36)) fpy.2.lt)
    have gpz := And.intro fpz.1 (fpz.2.below ((Below.refl _ w).alloc (Nat.le_refl _) (.cells ((List.replicate 32 (0 : Int)).map (Value.int .u8)).toArray 36)) fpz.2.lt)
    refine hK.out _ _ ?_ (fun hHeld => ?_)
    · exact hS _ hb3
    clear hK K
    try simp only [List.setIfInBounds_toArray, List.set_cons_zero, List.set_cons_succ]
    exact wst_1_111 hS hP hQ hO iP iQ iO hE _ (by kernel_rfl) _ w.heap.size py pz hb3 gpx gpy gpz (fun e => by have := fpy.2.lt; omega) (fun e => by have := fpz.2.lt; omega) dpypz
set_option maxRecDepth 100000 in
set_option maxHeartbeats 3200000 in
theorem wst_2_100 (hS : ∀ w, Below w0.heap.size w0 w → S w)
    (hP : ∀ w, Below w0.heap.size w0 w → Calls Tryd.prog 39 #[iv, .int .u8 k] w fun e w' => e = .returned (.agg NP.toArray) ∧ Below w.heap.size w w')
    (hQ : ∀ w, Below w0.heap.size w0 w → Calls Tryd.prog 40 #[iv, .int .u8 k] w fun e w' => e = .returned (.agg NQ.toArray) ∧ Below w.heap.size w w')
    (hO : ∀ w, Below w0.heap.size w0 w → Calls Tryd.prog 41 #[ov, .int .i64 i, .int .u8 k] w fun e w' => e = .returned (.agg NO.toArray) ∧ Below w.heap.size w w')
    (iP : Hash3 NP) (iQ : Hash3 NQ) (iO : Hash3 NO)
    (hE : ∀ w px py pz, Below w0.heap.size w0 w → (w0.heap.size ≤ px ∧ VRow w px 36 NP) → (w0.heap.size ≤ py ∧ VRow w py 36 NQ) → (w0.heap.size ≤ pz ∧ VRow w pz 36 NO) → QQ .normal ⟨#[u0, u1, u2, u3, u4, u5, u6, u7, u8, u9, u10, u11, (.pointer (some ⟨px, 0, none⟩)), (.pointer (some ⟨py, 0, none⟩)), (.pointer (some ⟨pz, 0, none⟩)), u15, u16, u17, u18, u19, u20, u21, u22, u23, u24, u25, u26, iv, (.int .u8 k), (.agg NP.toArray), u30, iv, (.int .u8 k), (.agg NQ.toArray), u34, ov, (.int .i64 i), (.int .u8 k), (.agg NO.toArray), u39, u40], []⟩ w)
    (listed : Array Bool) (hl : listed = #[true, true, true, true, true, true, true, true, true, true, true, true, false, true, false, false, false, false, false]) (w : World) (px : Nat) (hb : Below w0.heap.size w0 w) (fpx : w0.heap.size ≤ px ∧ VRow w px 36 ((List.replicate 32 (0 : Int)).map (Value.int .u8))) :
    wpAnyH Tryd.prog .any witOps QQ S 6 listed ⟨#[u0, u1, u2, u3, u4, u5, u6, u7, u8, u9, u10, u11, (.pointer (some ⟨px, 0, none⟩)), u13, u14, u15, u16, u17, u18, u19, u20, u21, u22, u23, u24, u25, u26, iv, (.int .u8 k), (.agg NP.toArray), u30, iv, (.int .u8 k), (.agg NQ.toArray), u34, ov, (.int .i64 i), (.int .u8 k), u38, u39, u40], []⟩ w := by
  subst hl
  refine wpAnyH_ready (rs := [12, 14, 15]) (by kernel_rfl) (by simp) ?_
  refine AllReadyH.cons (o := { dst := some 38, op := Go.Op.call { callee := Go.Callee.value (Go.Operand.func 41), args := #[Go.Operand.tmp 35, Go.Operand.tmp 36, Go.Operand.tmp 37], argTypes := #[23, 3, 5] }, type := 36, pos := "witness.go:14", after := #[{ on := 9, ground := Go.Ground.data }, { on := 10, ground := Go.Ground.data }, { on := 11, ground := Go.Ground.data }, { on := 7, ground := Go.Ground.chain }], guard := none }) rfl (fun K hK => ?_) (AllReadyH.cons (o := { dst := some 13, op := Go.Op.alloc 36, type := 0, pos := "witness.go:14", after := #[], guard := none }) rfl (fun K hK => ?_) (AllReadyH.cons (o := { dst := some 14, op := Go.Op.alloc 36, type := 0, pos := "witness.go:14", after := #[], guard := none }) rfl (fun K hK => ?_) (AllReadyH.nil)))
  · as_aux_lemma =>
    go_simp
    refine (hO w hb).mono ?_
    rintro e w2 ⟨rfl, hb2⟩
    have hb3 : Below w0.heap.size w0 w2 := hb.trans (hb2.mono hb.size)
    have gpx := And.intro fpx.1 (fpx.2.below hb2 fpx.2.lt)
    refine hK.out _ _ ?_ (fun hHeld => ?_)
    · exact hS _ hb3
    clear hK K
    try simp only [List.setIfInBounds_toArray, List.set_cons_zero, List.set_cons_succ]
    exact wst_3_100 hS hP hQ hO iP iQ iO hE _ (by kernel_rfl) w2 px hb3 gpx
  · as_aux_lemma =>
    go_simp
    change K _ (w.alloc (.cells ((List.replicate 32 (0 : Int)).map (Value.int .u8)).toArray 36))
    have hb3 : Below w0.heap.size w0 (w.alloc (.cells ((List.replicate 32 (0 : Int)).map (Value.int .u8)).toArray 36)) := hb.alloc hb.size _
    have gpy : w0.heap.size ≤ w.heap.size ∧ VRow (w.alloc (.cells ((List.replicate 32 (0 : Int)).map (Value.int .u8)).toArray 36)) w.heap.size 36 ((List.replicate 32 (0 : Int)).map (Value.int .u8)) := ⟨hb.size, VRow.new _ _ _⟩
    have gpx := And.intro fpx.1 (fpx.2.below ((Below.refl _ w).alloc (Nat.le_refl _) (.cells ((List.replicate 32 (0 : Int)).map (Value.int .u8)).toArray 36)) fpx.2.lt)
    refine hK.out _ _ ?_ (fun hHeld => ?_)
    · exact hS _ hb3
    clear hK K
    try simp only [List.setIfInBounds_toArray, List.set_cons_zero, List.set_cons_succ]
    exact wst_2_110 hS hP hQ hO iP iQ iO hE _ (by kernel_rfl) _ px w.heap.size hb3 gpx gpy (fun e => by have := fpx.2.lt; omega)
  · as_aux_lemma =>
    go_simp
    change K _ (w.alloc (.cells ((List.replicate 32 (0 : Int)).map (Value.int .u8)).toArray 36))
    have hb3 : Below w0.heap.size w0 (w.alloc (.cells ((List.replicate 32 (0 : Int)).map (Value.int .u8)).toArray 36)) := hb.alloc hb.size _
    have gpz : w0.heap.size ≤ w.heap.size ∧ VRow (w.alloc (.cells ((List.replicate 32 (0 : Int)).map (Value.int .u8)).toArray 36)) w.heap.size 36 ((List.replicate 32 (0 : Int)).map (Value.int .u8)) := ⟨hb.size, VRow.new _ _ _⟩
    have gpx := And.intro fpx.1 (fpx.2.below ((Below.refl _ w).alloc (Nat.le_refl _) (.cells ((List.replicate 32 (0 : Int)).map (Value.int .u8)).toArray 36)) fpx.2.lt)
    refine hK.out _ _ ?_ (fun hHeld => ?_)
    · exact hS _ hb3
    clear hK K
    try simp only [List.setIfInBounds_toArray, List.set_cons_zero, List.set_cons_succ]
    exact wst_2_101 hS hP hQ hO iP iQ iO hE _ (by kernel_rfl) _ px w.heap.size hb3 gpx gpz (fun e => by have := fpx.2.lt; omega)
set_option maxRecDepth 100000 in
set_option maxHeartbeats 3200000 in
theorem wst_2_010 (hS : ∀ w, Below w0.heap.size w0 w → S w)
    (hP : ∀ w, Below w0.heap.size w0 w → Calls Tryd.prog 39 #[iv, .int .u8 k] w fun e w' => e = .returned (.agg NP.toArray) ∧ Below w.heap.size w w')
    (hQ : ∀ w, Below w0.heap.size w0 w → Calls Tryd.prog 40 #[iv, .int .u8 k] w fun e w' => e = .returned (.agg NQ.toArray) ∧ Below w.heap.size w w')
    (hO : ∀ w, Below w0.heap.size w0 w → Calls Tryd.prog 41 #[ov, .int .i64 i, .int .u8 k] w fun e w' => e = .returned (.agg NO.toArray) ∧ Below w.heap.size w w')
    (iP : Hash3 NP) (iQ : Hash3 NQ) (iO : Hash3 NO)
    (hE : ∀ w px py pz, Below w0.heap.size w0 w → (w0.heap.size ≤ px ∧ VRow w px 36 NP) → (w0.heap.size ≤ py ∧ VRow w py 36 NQ) → (w0.heap.size ≤ pz ∧ VRow w pz 36 NO) → QQ .normal ⟨#[u0, u1, u2, u3, u4, u5, u6, u7, u8, u9, u10, u11, (.pointer (some ⟨px, 0, none⟩)), (.pointer (some ⟨py, 0, none⟩)), (.pointer (some ⟨pz, 0, none⟩)), u15, u16, u17, u18, u19, u20, u21, u22, u23, u24, u25, u26, iv, (.int .u8 k), (.agg NP.toArray), u30, iv, (.int .u8 k), (.agg NQ.toArray), u34, ov, (.int .i64 i), (.int .u8 k), (.agg NO.toArray), u39, u40], []⟩ w)
    (listed : Array Bool) (hl : listed = #[true, true, true, true, true, true, true, true, true, true, true, true, false, false, true, false, false, false, false]) (w : World) (py : Nat) (hb : Below w0.heap.size w0 w) (fpy : w0.heap.size ≤ py ∧ VRow w py 36 ((List.replicate 32 (0 : Int)).map (Value.int .u8))) :
    wpAnyH Tryd.prog .any witOps QQ S 6 listed ⟨#[u0, u1, u2, u3, u4, u5, u6, u7, u8, u9, u10, u11, u12, (.pointer (some ⟨py, 0, none⟩)), u14, u15, u16, u17, u18, u19, u20, u21, u22, u23, u24, u25, u26, iv, (.int .u8 k), (.agg NP.toArray), u30, iv, (.int .u8 k), (.agg NQ.toArray), u34, ov, (.int .i64 i), (.int .u8 k), u38, u39, u40], []⟩ w := by
  subst hl
  refine wpAnyH_ready (rs := [12, 13, 15]) (by kernel_rfl) (by simp) ?_
  refine AllReadyH.cons (o := { dst := some 38, op := Go.Op.call { callee := Go.Callee.value (Go.Operand.func 41), args := #[Go.Operand.tmp 35, Go.Operand.tmp 36, Go.Operand.tmp 37], argTypes := #[23, 3, 5] }, type := 36, pos := "witness.go:14", after := #[{ on := 9, ground := Go.Ground.data }, { on := 10, ground := Go.Ground.data }, { on := 11, ground := Go.Ground.data }, { on := 7, ground := Go.Ground.chain }], guard := none }) rfl (fun K hK => ?_) (AllReadyH.cons (o := { dst := some 12, op := Go.Op.alloc 36, type := 0, pos := "witness.go:14", after := #[], guard := none }) rfl (fun K hK => ?_) (AllReadyH.cons (o := { dst := some 14, op := Go.Op.alloc 36, type := 0, pos := "witness.go:14", after := #[], guard := none }) rfl (fun K hK => ?_) (AllReadyH.nil)))
  · as_aux_lemma =>
    go_simp
    refine (hO w hb).mono ?_
    rintro e w2 ⟨rfl, hb2⟩
    have hb3 : Below w0.heap.size w0 w2 := hb.trans (hb2.mono hb.size)
    have gpy := And.intro fpy.1 (fpy.2.below hb2 fpy.2.lt)
    refine hK.out _ _ ?_ (fun hHeld => ?_)
    · exact hS _ hb3
    clear hK K
    try simp only [List.setIfInBounds_toArray, List.set_cons_zero, List.set_cons_succ]
    exact wst_3_010 hS hP hQ hO iP iQ iO hE _ (by kernel_rfl) w2 py hb3 gpy
  · as_aux_lemma =>
    go_simp
    change K _ (w.alloc (.cells ((List.replicate 32 (0 : Int)).map (Value.int .u8)).toArray 36))
    have hb3 : Below w0.heap.size w0 (w.alloc (.cells ((List.replicate 32 (0 : Int)).map (Value.int .u8)).toArray 36)) := hb.alloc hb.size _
    have gpx : w0.heap.size ≤ w.heap.size ∧ VRow (w.alloc (.cells ((List.replicate 32 (0 : Int)).map (Value.int .u8)).toArray 36)) w.heap.size 36 ((List.replicate 32 (0 : Int)).map (Value.int .u8)) := ⟨hb.size, VRow.new _ _ _⟩
    have gpy := And.intro fpy.1 (fpy.2.below ((Below.refl _ w).alloc (Nat.le_refl _) (.cells ((List.replicate 32 (0 : Int)).map (Value.int .u8)).toArray 36)) fpy.2.lt)
    refine hK.out _ _ ?_ (fun hHeld => ?_)
    · exact hS _ hb3
    clear hK K
    try simp only [List.setIfInBounds_toArray, List.set_cons_zero, List.set_cons_succ]
    exact wst_2_110 hS hP hQ hO iP iQ iO hE _ (by kernel_rfl) _ w.heap.size py hb3 gpx gpy (fun e => by have := fpy.2.lt; omega)
  · as_aux_lemma =>
    go_simp
    change K _ (w.alloc (.cells ((List.replicate 32 (0 : Int)).map (Value.int .u8)).toArray 36))
    have hb3 : Below w0.heap.size w0 (w.alloc (.cells ((List.replicate 32 (0 : Int)).map (Value.int .u8)).toArray 36)) := hb.alloc hb.size _
    have gpz : w0.heap.size ≤ w.heap.size ∧ VRow (w.alloc (.cells ((List.replicate 32 (0 : Int)).map (Value.int .u8)).toArray 36)) w.heap.size 36 ((List.replicate 32 (0 : Int)).map (Value.int .u8)) := ⟨hb.size, VRow.new _ _ _⟩
    have gpy := And.intro fpy.1 (fpy.2.below ((Below.refl _ w).alloc (Nat.le_refl _) (.cells ((List.replicate 32 (0 : Int)).map (Value.int .u8)).toArray 36)) fpy.2.lt)
    refine hK.out _ _ ?_ (fun hHeld => ?_)
    · exact hS _ hb3
    clear hK K
    try simp only [List.setIfInBounds_toArray, List.set_cons_zero, List.set_cons_succ]
    exact wst_2_011 hS hP hQ hO iP iQ iO hE _ (by kernel_rfl) _ py w.heap.size hb3 gpy gpz (fun e => by have := fpy.2.lt; omega)
set_option maxRecDepth 100000 in
set_option maxHeartbeats 3200000 in
theorem wst_2_001 (hS : ∀ w, Below w0.heap.size w0 w → S w)
    (hP : ∀ w, Below w0.heap.size w0 w → Calls Tryd.prog 39 #[iv, .int .u8 k] w fun e w' => e = .returned (.agg NP.toArray) ∧ Below w.heap.size w w')
    (hQ : ∀ w, Below w0.heap.size w0 w → Calls Tryd.prog 40 #[iv, .int .u8 k] w fun e w' => e = .returned (.agg NQ.toArray) ∧ Below w.heap.size w w')
    (hO : ∀ w, Below w0.heap.size w0 w → Calls Tryd.prog 41 #[ov, .int .i64 i, .int .u8 k] w fun e w' => e = .returned (.agg NO.toArray) ∧ Below w.heap.size w w')
    (iP : Hash3 NP) (iQ : Hash3 NQ) (iO : Hash3 NO)
    (hE : ∀ w px py pz, Below w0.heap.size w0 w → (w0.heap.size ≤ px ∧ VRow w px 36 NP) → (w0.heap.size ≤ py ∧ VRow w py 36 NQ) → (w0.heap.size ≤ pz ∧ VRow w pz 36 NO) → QQ .normal ⟨#[u0, u1, u2, u3, u4, u5, u6, u7, u8, u9, u10, u11, (.pointer (some ⟨px, 0, none⟩)), (.pointer (some ⟨py, 0, none⟩)), (.pointer (some ⟨pz, 0, none⟩)), u15, u16, u17, u18, u19, u20, u21, u22, u23, u24, u25, u26, iv, (.int .u8 k), (.agg NP.toArray), u30, iv, (.int .u8 k), (.agg NQ.toArray), u34, ov, (.int .i64 i), (.int .u8 k), (.agg NO.toArray), u39, u40], []⟩ w)
    (listed : Array Bool) (hl : listed = #[true, true, true, true, true, true, true, true, true, true, true, true, false, false, false, true, false, false, false]) (w : World) (pz : Nat) (hb : Below w0.heap.size w0 w) (fpz : w0.heap.size ≤ pz ∧ VRow w pz 36 ((List.replicate 32 (0 : Int)).map (Value.int .u8))) :
    wpAnyH Tryd.prog .any witOps QQ S 6 listed ⟨#[u0, u1, u2, u3, u4, u5, u6, u7, u8, u9, u10, u11, u12, u13, (.pointer (some ⟨pz, 0, none⟩)), u15, u16, u17, u18, u19, u20, u21, u22, u23, u24, u25, u26, iv, (.int .u8 k), (.agg NP.toArray), u30, iv, (.int .u8 k), (.agg NQ.toArray), u34, ov, (.int .i64 i), (.int .u8 k), u38, u39, u40], []⟩ w := by
  subst hl
  refine wpAnyH_ready (rs := [12, 13, 14]) (by kernel_rfl) (by simp) ?_
  refine AllReadyH.cons (o := { dst := some 38, op := Go.Op.call { callee := Go.Callee.value (Go.Operand.func 41), args := #[Go.Operand.tmp 35, Go.Operand.tmp 36, Go.Operand.tmp 37], argTypes := #[23, 3, 5] }, type := 36, pos := "witness.go:14", after := #[{ on := 9, ground := Go.Ground.data }, { on := 10, ground := Go.Ground.data }, { on := 11, ground := Go.Ground.data }, { on := 7, ground := Go.Ground.chain }], guard := none }) rfl (fun K hK => ?_) (AllReadyH.cons (o := { dst := some 12, op := Go.Op.alloc 36, type := 0, pos := "witness.go:14", after := #[], guard := none }) rfl (fun K hK => ?_) (AllReadyH.cons (o := { dst := some 13, op := Go.Op.alloc 36, type := 0, pos := "witness.go:14", after := #[], guard := none }) rfl (fun K hK => ?_) (AllReadyH.nil)))
  · as_aux_lemma =>
    go_simp
    refine (hO w hb).mono ?_
    rintro e w2 ⟨rfl, hb2⟩
    have hb3 : Below w0.heap.size w0 w2 := hb.trans (hb2.mono hb.size)
    have gpz := And.intro fpz.1 (fpz.2.below hb2 fpz.2.lt)
    refine hK.out _ _ ?_ (fun hHeld => ?_)
    · exact hS _ hb3
    clear hK K
    try simp only [List.setIfInBounds_toArray, List.set_cons_zero, List.set_cons_succ]
    exact wst_3_001 hS hP hQ hO iP iQ iO hE _ (by kernel_rfl) w2 pz hb3 gpz
  · as_aux_lemma =>
    go_simp
    change K _ (w.alloc (.cells ((List.replicate 32 (0 : Int)).map (Value.int .u8)).toArray 36))
    have hb3 : Below w0.heap.size w0 (w.alloc (.cells ((List.replicate 32 (0 : Int)).map (Value.int .u8)).toArray 36)) := hb.alloc hb.size _
    have gpx : w0.heap.size ≤ w.heap.size ∧ VRow (w.alloc (.cells ((List.replicate 32 (0 : Int)).map (Value.int .u8)).toArray 36)) w.heap.size 36 ((List.replicate 32 (0 : Int)).map (Value.int .u8)) := ⟨hb.size, VRow.new _ _ _⟩
    have gpz := And.intro fpz.1 (fpz.2.below ((Below.refl _ w).alloc (Nat.le_refl _) (.cells ((List.replicate 32 (0 : Int)).map (Value.int .u8)).toArray 36)) fpz.2.lt)
    refine hK.out _ _ ?_ (fun hHeld => ?_)
    · exact hS _ hb3
    clear hK K
    try simp only [List.setIfInBounds_toArray, List.set_cons_zero, List.set_cons_succ]
    exact wst_2_101 hS hP hQ hO iP iQ iO hE _ (by kernel_rfl) _ w.heap.size pz hb3 gpx gpz (fun e => by have := fpz.2.lt; omega)
  · as_aux_lemma =>
    go_simp
    change K _ (w.alloc (.cells ((List.replicate 32 (0 : Int)).map (Value.int .u8)).toArray 36))
    have hb3 : Below w0.heap.size w0 (w.alloc (.cells ((List.replicate 32 (0 : Int)).map (Value.int .u8)).toArray 36)) := hb.alloc hb.size _
    have gpy : w0.heap.size ≤ w.heap.size ∧ VRow (w.alloc (.cells ((List.replicate 32 (0 : Int)).map (Value.int .u8)).toArray 36)) w.heap.size 36 ((List.replicate 32 (0 : Int)).map (Value.int .u8)) := ⟨hb.size, VRow.new _ _ _⟩
    have gpz := And.intro fpz.1 (fpz.2.below ((Below.refl _ w).alloc (Nat.le_refl _) (.cells ((List.replicate 32 (0 : Int)).map (Value.int .u8)).toArray 36)) fpz.2.lt)
    refine hK.out _ _ ?_ (fun hHeld => ?_)
    · exact hS _ hb3
    clear hK K
    try simp only [List.setIfInBounds_toArray, List.set_cons_zero, List.set_cons_succ]
    exact wst_2_011 hS hP hQ hO iP iQ iO hE _ (by kernel_rfl) _ w.heap.size pz hb3 gpy gpz (fun e => by have := fpz.2.lt; omega)
set_option maxRecDepth 100000 in
set_option maxHeartbeats 3200000 in
theorem wst_3_000 (hS : ∀ w, Below w0.heap.size w0 w → S w)
    (hP : ∀ w, Below w0.heap.size w0 w → Calls Tryd.prog 39 #[iv, .int .u8 k] w fun e w' => e = .returned (.agg NP.toArray) ∧ Below w.heap.size w w')
    (hQ : ∀ w, Below w0.heap.size w0 w → Calls Tryd.prog 40 #[iv, .int .u8 k] w fun e w' => e = .returned (.agg NQ.toArray) ∧ Below w.heap.size w w')
    (hO : ∀ w, Below w0.heap.size w0 w → Calls Tryd.prog 41 #[ov, .int .i64 i, .int .u8 k] w fun e w' => e = .returned (.agg NO.toArray) ∧ Below w.heap.size w w')
    (iP : Hash3 NP) (iQ : Hash3 NQ) (iO : Hash3 NO)
    (hE : ∀ w px py pz, Below w0.heap.size w0 w → (w0.heap.size ≤ px ∧ VRow w px 36 NP) → (w0.heap.size ≤ py ∧ VRow w py 36 NQ) → (w0.heap.size ≤ pz ∧ VRow w pz 36 NO) → QQ .normal ⟨#[u0, u1, u2, u3, u4, u5, u6, u7, u8, u9, u10, u11, (.pointer (some ⟨px, 0, none⟩)), (.pointer (some ⟨py, 0, none⟩)), (.pointer (some ⟨pz, 0, none⟩)), u15, u16, u17, u18, u19, u20, u21, u22, u23, u24, u25, u26, iv, (.int .u8 k), (.agg NP.toArray), u30, iv, (.int .u8 k), (.agg NQ.toArray), u34, ov, (.int .i64 i), (.int .u8 k), (.agg NO.toArray), u39, u40], []⟩ w)
    (listed : Array Bool) (hl : listed = #[true, true, true, true, true, true, true, true, true, true, true, true, true, false, false, false, false, false, false]) (w : World) (hb : Below w0.heap.size w0 w) :
    wpAnyH Tryd.prog .any witOps QQ S 6 listed ⟨#[u0, u1, u2, u3, u4, u5, u6, u7, u8, u9, u10, u11, u12, u13, u14, u15, u16, u17, u18, u19, u20, u21, u22, u23, u24, u25, u26, iv, (.int .u8 k), (.agg NP.toArray), u30, iv, (.int .u8 k), (.agg NQ.toArray), u34, ov, (.int .i64 i), (.int .u8 k), (.agg NO.toArray), u39, u40], []⟩ w := by
  subst hl
  refine wpAnyH_ready (rs := [13, 14, 15]) (by kernel_rfl) (by simp) ?_
  refine AllReadyH.cons (o := { dst := some 12, op := Go.Op.alloc 36, type := 0, pos := "witness.go:14", after := #[], guard := none }) rfl (fun K hK => ?_) (AllReadyH.cons (o := { dst := some 13, op := Go.Op.alloc 36, type := 0, pos := "witness.go:14", after := #[], guard := none }) rfl (fun K hK => ?_) (AllReadyH.cons (o := { dst := some 14, op := Go.Op.alloc 36, type := 0, pos := "witness.go:14", after := #[], guard := none }) rfl (fun K hK => ?_) (AllReadyH.nil)))
  · as_aux_lemma =>
    go_simp
    change K _ (w.alloc (.cells ((List.replicate 32 (0 : Int)).map (Value.int .u8)).toArray 36))
    have hb3 : Below w0.heap.size w0 (w.alloc (.cells ((List.replicate 32 (0 : Int)).map (Value.int .u8)).toArray 36)) := hb.alloc hb.size _
    have gpx : w0.heap.size ≤ w.heap.size ∧ VRow (w.alloc (.cells ((List.replicate 32 (0 : Int)).map (Value.int .u8)).toArray 36)) w.heap.size 36 ((List.replicate 32 (0 : Int)).map (Value.int .u8)) := ⟨hb.size, VRow.new _ _ _⟩
    refine hK.out _ _ ?_ (fun hHeld => ?_)
    · exact hS _ hb3
    clear hK K
    try simp only [List.setIfInBounds_toArray, List.set_cons_zero, List.set_cons_succ]
    exact wst_3_100 hS hP hQ hO iP iQ iO hE _ (by kernel_rfl) _ w.heap.size hb3 gpx
  · as_aux_lemma =>
    go_simp
    change K _ (w.alloc (.cells ((List.replicate 32 (0 : Int)).map (Value.int .u8)).toArray 36))
    have hb3 : Below w0.heap.size w0 (w.alloc (.cells ((List.replicate 32 (0 : Int)).map (Value.int .u8)).toArray 36)) := hb.alloc hb.size _
    have gpy : w0.heap.size ≤ w.heap.size ∧ VRow (w.alloc (.cells ((List.replicate 32 (0 : Int)).map (Value.int .u8)).toArray 36)) w.heap.size 36 ((List.replicate 32 (0 : Int)).map (Value.int .u8)) := ⟨hb.size, VRow.new _ _ _⟩
    refine hK.out _ _ ?_ (fun hHeld => ?_)
    · exact hS _ hb3
    clear hK K
    try simp only [List.setIfInBounds_toArray, List.set_cons_zero, List.set_cons_succ]
    exact wst_3_010 hS hP hQ hO iP iQ iO hE _ (by kernel_rfl) _ w.heap.size hb3 gpy
  · as_aux_lemma =>
    go_simp
    change K _ (w.alloc (.cells ((List.replicate 32 (0 : Int)).map (Value.int .u8)).toArray 36))
    have hb3 : Below w0.heap.size w0 (w.alloc (.cells ((List.replicate 32 (0 : Int)).map (Value.int .u8)).toArray 36)) := hb.alloc hb.size _
    have gpz : w0.heap.size ≤ w.heap.size ∧ VRow (w.alloc (.cells ((List.replicate 32 (0 : Int)).map (Value.int .u8)).toArray 36)) w.heap.size 36 ((List.replicate 32 (0 : Int)).map (Value.int .u8)) := ⟨hb.size, VRow.new _ _ _⟩
    refine hK.out _ _ ?_ (fun hHeld => ?_)
    · exact hS _ hb3
    clear hK K
    try simp only [List.setIfInBounds_toArray, List.set_cons_zero, List.set_cons_succ]
    exact wst_3_001 hS hP hQ hO iP iQ iO hE _ (by kernel_rfl) _ w.heap.size hb3 gpz
set_option maxRecDepth 100000 in
set_option maxHeartbeats 3200000 in
theorem wst_0_110 (hS : ∀ w, Below w0.heap.size w0 w → S w)
    (hP : ∀ w, Below w0.heap.size w0 w → Calls Tryd.prog 39 #[iv, .int .u8 k] w fun e w' => e = .returned (.agg NP.toArray) ∧ Below w.heap.size w w')
    (hQ : ∀ w, Below w0.heap.size w0 w → Calls Tryd.prog 40 #[iv, .int .u8 k] w fun e w' => e = .returned (.agg NQ.toArray) ∧ Below w.heap.size w w')
    (hO : ∀ w, Below w0.heap.size w0 w → Calls Tryd.prog 41 #[ov, .int .i64 i, .int .u8 k] w fun e w' => e = .returned (.agg NO.toArray) ∧ Below w.heap.size w w')
    (iP : Hash3 NP) (iQ : Hash3 NQ) (iO : Hash3 NO)
    (hE : ∀ w px py pz, Below w0.heap.size w0 w → (w0.heap.size ≤ px ∧ VRow w px 36 NP) → (w0.heap.size ≤ py ∧ VRow w py 36 NQ) → (w0.heap.size ≤ pz ∧ VRow w pz 36 NO) → QQ .normal ⟨#[u0, u1, u2, u3, u4, u5, u6, u7, u8, u9, u10, u11, (.pointer (some ⟨px, 0, none⟩)), (.pointer (some ⟨py, 0, none⟩)), (.pointer (some ⟨pz, 0, none⟩)), u15, u16, u17, u18, u19, u20, u21, u22, u23, u24, u25, u26, iv, (.int .u8 k), (.agg NP.toArray), u30, iv, (.int .u8 k), (.agg NQ.toArray), u34, ov, (.int .i64 i), (.int .u8 k), (.agg NO.toArray), u39, u40], []⟩ w)
    (listed : Array Bool) (hl : listed = #[true, true, true, false, true, true, true, false, true, true, true, true, false, true, true, false, false, false, false]) (w : World) (px py : Nat) (hb : Below w0.heap.size w0 w) (fpx : w0.heap.size ≤ px ∧ VRow w px 36 ((List.replicate 32 (0 : Int)).map (Value.int .u8))) (fpy : w0.heap.size ≤ py ∧ VRow w py 36 ((List.replicate 32 (0 : Int)).map (Value.int .u8))) (dpxpy : px ≠ py) :
    wpAnyH Tryd.prog .any witOps QQ S 7 listed ⟨#[u0, u1, u2, u3, u4, u5, u6, u7, u8, u9, u10, u11, (.pointer (some ⟨px, 0, none⟩)), (.pointer (some ⟨py, 0, none⟩)), u14, u15, u16, u17, u18, u19, u20, u21, u22, u23, u24, u25, u26, iv, (.int .u8 k), u29, u30, iv, (.int .u8 k), u33, u34, ov, (.int .i64 i), (.int .u8 k), u38, u39, u40], []⟩ w := by
  subst hl
  refine wpAnyH_ready (rs := [3, 15]) (by kernel_rfl) (by simp) ?_
  refine AllReadyH.cons (o := { dst := some 29, op := Go.Op.call { callee := Go.Callee.value (Go.Operand.func 39), args := #[Go.Operand.tmp 27, Go.Operand.tmp 28], argTypes := #[22, 5] }, type := 36, pos := "witness.go:14", after := #[{ on := 1, ground := Go.Ground.data }, { on := 2, ground := Go.Ground.data }], guard := none }) rfl (fun K hK => ?_) (AllReadyH.cons (o := { dst := some 14, op := Go.Op.alloc 36, type := 0, pos := "witness.go:14", after := #[], guard := none }) rfl (fun K hK => ?_) (AllReadyH.nil))
  · as_aux_lemma =>
    go_simp
    refine (hP w hb).mono ?_
    rintro e w2 ⟨rfl, hb2⟩
    have hb3 : Below w0.heap.size w0 w2 := hb.trans (hb2.mono hb.size)
    have gpx := And.intro fpx.1 (fpx.2.below hb2 fpx.2.lt)
    have gpy := And.intro fpy.1 (fpy.2.below hb2 fpy.2.lt)
    refine hK.out _ _ ?_ (fun hHeld => ?_)
    · exact hS _ hb3
    clear hK K
    try simp only [List.setIfInBounds_toArray, List.set_cons_zero, List.set_cons_succ]
    exact wst_1_110 hS hP hQ hO iP iQ iO hE _ (by kernel_rfl) w2 px py hb3 gpx gpy dpxpy
  · as_aux_lemma =>
    go_simp
    change K _ (w.alloc (.cells ((List.replicate 32 (0 : Int)).map (Value.int .u8)).toArray 36))
    have hb3 : Below w0.heap.size w0 (w.alloc (.cells ((List.replicate 32 (0 : Int)).map (Value.int .u8)).toArray 36)) := hb.alloc hb.size _
    have gpz : w0.heap.size ≤ w.heap.size ∧ VRow (w.alloc (.cells ((List.replicate 32 (0 : Int)).map (Value.int .u8)).toArray 36)) w.heap.size 36 ((List.replicate 32 (0 : Int)).map (Value.int .u8)) := ⟨hb.size, VRow.new _ _ _⟩
    have gpx := And.intro fpx.1 (fpx.2.below ((Below.refl _ w).alloc (Nat.le_refl _) (.cells ((List.replicate 32 (0 : Int)).map (Value.int .u8)).toArray 36)) fpx.2.lt)
    have gpy := And.intro fpy.1 (fpy.2.below ((Below.refl _ w).alloc (Nat.le_refl _) (.cells ((List.replicate 32 (0 : Int)).map (Value.int .u8)).toArray 36)) fpy.2.lt)
    refine hK.out _ _ ?_ (fun hHeld => ?_)
    · exact hS _ hb3
    clear hK K
    try simp only [List.setIfInBounds_toArray, List.set_cons_zero, List.set_cons_succ]
    exact wst_0_111 hS hP hQ hO iP iQ iO hE _ (by kernel_rfl) _ px py w.heap.size hb3 gpx gpy gpz dpxpy (fun e => by have := fpx.2.lt; omega) (fun e => by have := fpy.2.lt; omega)
set_option maxRecDepth 100000 in
set_option maxHeartbeats 3200000 in
theorem wst_0_101 (hS : ∀ w, Below w0.heap.size w0 w → S w)
    (hP : ∀ w, Below w0.heap.size w0 w → Calls Tryd.prog 39 #[iv, .int .u8 k] w fun e w' => e = .returned (.agg NP.toArray) ∧ Below w.heap.size w w')
    (hQ : ∀ w, Below w0.heap.size w0 w → Calls Tryd.prog 40 #[iv, .int .u8 k] w fun e w' => e = .returned (.agg NQ.toArray) ∧ Below w.heap.size w w')
    (hO : ∀ w, Below w0.heap.size w0 w → Calls Tryd.prog 41 #[ov, .int .i64 i, .int .u8 k] w fun e w' => e = .returned (.agg NO.toArray) ∧ Below w.heap.size w w')
    (iP : Hash3 NP) (iQ : Hash3 NQ) (iO : Hash3 NO)
    (hE : ∀ w px py pz, Below w0.heap.size w0 w → (w0.heap.size ≤ px ∧ VRow w px 36 NP) → (w0.heap.size ≤ py ∧ VRow w py 36 NQ) → (w0.heap.size ≤ pz ∧ VRow w pz 36 NO) → QQ .normal ⟨#[u0, u1, u2, u3, u4, u5, u6, u7, u8, u9, u10, u11, (.pointer (some ⟨px, 0, none⟩)), (.pointer (some ⟨py, 0, none⟩)), (.pointer (some ⟨pz, 0, none⟩)), u15, u16, u17, u18, u19, u20, u21, u22, u23, u24, u25, u26, iv, (.int .u8 k), (.agg NP.toArray), u30, iv, (.int .u8 k), (.agg NQ.toArray), u34, ov, (.int .i64 i), (.int .u8 k), (.agg NO.toArray), u39, u40], []⟩ w)
    (listed : Array Bool) (hl : listed = #[true, true, true, false, true, true, true, false, true, true, true, true, false, true, false, true, false, false, false]) (w : World) (px pz : Nat) (hb : Below w0.heap.size w0 w) (fpx : w0.heap.size ≤ px ∧ VRow w px 36 ((List.replicate 32 (0 : Int)).map (Value.int .u8))) (fpz : w0.heap.size ≤ pz ∧ VRow w pz 36 ((List.replicate 32 (0 : Int)).map (Value.int .u8))) (dpxpz : px ≠ pz) :
    wpAnyH Tryd.prog .any witOps QQ S 7 listed ⟨#[u0, u1, u2, u3, u4, u5, u6, u7, u8, u9, u10, u11, (.pointer (some ⟨px, 0, none⟩)), u13, (.pointer (some ⟨pz, 0, none⟩)), u15, u16, u17, u18, u19, u20, u21, u22, u23, u24, u25, u26, iv, (.int .u8 k), u29, u30, iv, (.int .u8 k), u33, u34, ov, (.int .i64 i), (.int .u8 k), u38, u39, u40], []⟩ w := by
  subst hl
  refine wpAnyH_ready (rs := [3, 14]) (by kernel_rfl) (by simp) ?_
  refine AllReadyH.cons (o := { dst := some 29, op := Go.Op.call { callee := Go.Callee.value (Go.Operand.func 39), args := #[Go.Operand.tmp 27, Go.Operand.tmp 28], argTypes := #[22, 5] }, type := 36, pos := "witness.go:14", after := #[{ on := 1, ground := Go.Ground.data }, { on := 2, ground := Go.Ground.data }], guard := none }) rfl (fun K hK => ?_) (AllReadyH.cons (o := { dst := some 13, op := Go.Op.alloc 36, type := 0, pos := "witness.go:14", after := #[], guard := none }) rfl (fun K hK => ?_) (AllReadyH.nil))
  · as_aux_lemma =>
    go_simp
    refine (hP w hb).mono ?_
    rintro e w2 ⟨rfl, hb2⟩
    have hb3 : Below w0.heap.size w0 w2 := hb.trans (hb2.mono hb.size)
    have gpx := And.intro fpx.1 (fpx.2.below hb2 fpx.2.lt)
    have gpz := And.intro fpz.1 (fpz.2.below hb2 fpz.2.lt)
    refine hK.out _ _ ?_ (fun hHeld => ?_)
    · exact hS _ hb3
    clear hK K
    try simp only [List.setIfInBounds_toArray, List.set_cons_zero, List.set_cons_succ]
    exact wst_1_101 hS hP hQ hO iP iQ iO hE _ (by kernel_rfl) w2 px pz hb3 gpx gpz dpxpz
  · as_aux_lemma =>
    go_simp
    change K _ (w.alloc (.cells ((List.replicate 32 (0 : Int)).map (Value.int .u8)).toArray 36))
    have hb3 : Below w0.heap.size w0 (w.alloc (.cells ((List.replicate 32 (0 : Int)).map (Value.int .u8)).toArray 36)) := hb.alloc hb.size _
    have gpy : w0.heap.size ≤ w.heap.size ∧ VRow (w.alloc (.cells ((List.replicate 32 (0 : Int)).map (Value.int .u8)).toArray 36)) w.heap.size 36 ((List.replicate 32 (0 : Int)).map (Value.int .u8)) := ⟨hb.size, VRow.new _ _ _⟩
    have gpx := And.intro fpx.1 (fpx.2.below ((Below.refl _ w).alloc (Nat.le_refl _) (.cells ((List.replicate 32 (0 : Int)).map (Value.int .u8)).toArray 36)) fpx.2.lt)
    have gpz := And.intro fpz.1 (fpz.2.below ((Below.refl _ w).alloc (Nat.le_refl _) (.cells ((List.replicate 32 (0 : Int)).map (Value.int .u8)).toArray 36)) fpz.2.lt)
    refine hK.out _ _ ?_ (fun hHeld => ?_)
    · exact hS _ hb3
    clear hK K
    try simp only [List.setIfInBounds_toArray, List.set_cons_zero, List.set_cons_succ]
    exact wst_0_111 hS hP hQ hO iP iQ iO hE _ (by kernel_rfl) _ px w.heap.size pz hb3 gpx gpy gpz (fun e => by have := fpx.2.lt; omega) dpxpz (fun e => by have := fpz.2.lt; omega)
set_option maxRecDepth 100000 in
set_option maxHeartbeats 3200000 in
theorem wst_0_011 (hS : ∀ w, Below w0.heap.size w0 w → S w)
    (hP : ∀ w, Below w0.heap.size w0 w → Calls Tryd.prog 39 #[iv, .int .u8 k] w fun e w' => e = .returned (.agg NP.toArray) ∧ Below w.heap.size w w')
    (hQ : ∀ w, Below w0.heap.size w0 w → Calls Tryd.prog 40 #[iv, .int .u8 k] w fun e w' => e = .returned (.agg NQ.toArray) ∧ Below w.heap.size w w')
    (hO : ∀ w, Below w0.heap.size w0 w → Calls Tryd.prog 41 #[ov, .int .i64 i, .int .u8 k] w fun e w' => e = .returned (.agg NO.toArray) ∧ Below w.heap.size w w')
    (iP : Hash3 NP) (iQ : Hash3 NQ) (iO : Hash3 NO)
    (hE : ∀ w px py pz, Below w0.heap.size w0 w → (w0.heap.size ≤ px ∧ VRow w px 36 NP) → (w0.heap.size ≤ py ∧ VRow w py 36 NQ) → (w0.heap.size ≤ pz ∧ VRow w pz 36 NO) → QQ .normal ⟨#[u0, u1, u2, u3, u4, u5, u6, u7, u8, u9, u10, u11, (.pointer (some ⟨px, 0, none⟩)), (.pointer (some ⟨py, 0, none⟩)), (.pointer (some ⟨pz, 0, none⟩)), u15, u16, u17, u18, u19, u20, u21, u22, u23, u24, u25, u26, iv, (.int .u8 k), (.agg NP.toArray), u30, iv, (.int .u8 k), (.agg NQ.toArray), u34, ov, (.int .i64 i), (.int .u8 k), (.agg NO.toArray), u39, u40], []⟩ w)
    (listed : Array Bool) (hl : listed = #[true, true, true, false, true, true, true, false, true, true, true, true, false, false, true, true, false, false, false]) (w : World) (py pz : Nat) (hb : Below w0.heap.size w0 w) (fpy : w0.heap.size ≤ py ∧ VRow w py 36 ((List.replicate 32 (0 : Int)).map (Value.int .u8))) (fpz : w0.heap.size ≤ pz ∧ VRow w pz 36 ((List.replicate 32 (0 : Int)).map (Value.int .u8))) (dpypz : py ≠ pz) :
    wpAnyH Tryd.prog .any witOps QQ S 7 listed ⟨#[u0, u1, u2, u3, u4, u5, u6, u7, u8, u9, u10, u11, u12, (.pointer (some ⟨py, 0, none⟩)), (.pointer (some ⟨pz, 0, none⟩)), u15, u16, u17, u18, u19, u20, u21, u22, u23, u24, u25, u26, iv, (.int .u8 k), u29, u30, iv, (.int .u8 k), u33, u34, ov, (.int .i64 i), (.int .u8 k), u38, u39, u40], []⟩ w := by
  subst hl
  refine wpAnyH_ready (rs := [3, 13]) (by kernel_rfl) (by simp) ?_
  refine AllReadyH.cons (o := { dst := some 29, op := Go.Op.call { callee := Go.Callee.value (Go.Operand.func 39), args := #[Go.Operand.tmp 27, Go.Operand.tmp 28], argTypes := #[22, 5] }, type := 36, pos := "witness.go:14", after := #[{ on := 1, ground := Go.Ground.data }, { on := 2, ground := Go.Ground.data }], guard := none }) rfl (fun K hK => ?_) (AllReadyH.cons (o := { dst := some 12, op := Go.Op.alloc 36, type := 0, pos := "witness.go:14", after := #[], guard := none }) rfl (fun K hK => ?_) (AllReadyH.nil))
  · as_aux_lemma =>
    go_simp
    refine (hP w hb).mono ?_
    rintro e w2 ⟨rfl, hb2⟩
    have hb3 : Below w0.heap.size w0 w2 := hb.trans (hb2.mono hb.size)
    have gpy := And.intro fpy.1 (fpy.2.below hb2 fpy.2.lt)
    have gpz := And.intro fpz.1 (fpz.2.below hb2 fpz.2.lt)
    refine hK.out _ _ ?_ (fun hHeld => ?_)
    · exact hS _ hb3
    clear hK K
    try simp only [List.setIfInBounds_toArray, List.set_cons_zero, List.set_cons_succ]
    exact wst_1_011 hS hP hQ hO iP iQ iO hE _ (by kernel_rfl) w2 py pz hb3 gpy gpz dpypz
  · as_aux_lemma =>
    go_simp
    change K _ (w.alloc (.cells ((List.replicate 32 (0 : Int)).map (Value.int .u8)).toArray 36))
    have hb3 : Below w0.heap.size w0 (w.alloc (.cells ((List.replicate 32 (0 : Int)).map (Value.int .u8)).toArray 36)) := hb.alloc hb.size _
    have gpx : w0.heap.size ≤ w.heap.size ∧ VRow (w.alloc (.cells ((List.replicate 32 (0 : Int)).map (Value.int .u8)).toArray 36)) w.heap.size 36 ((List.replicate 32 (0 : Int)).map (Value.int .u8)) := ⟨hb.size, VRow.new _ _ _⟩
    have gpy := And.intro fpy.1 (fpy.2.below ((Below.refl _ w).alloc (Nat.le_refl _) (.cells ((List.replicate 32 (0 : Int)).map (Value.int .u8)).toArray 36)) fpy.2.lt)
    have gpz := And.intro fpz.1 (fpz.2.below ((Below.refl _ w).alloc (Nat.le_refl _) (.cells ((List.replicate 32 (0 : Int)).map (Value.int .u8)).toArray 36)) fpz.2.lt)
    refine hK.out _ _ ?_ (fun hHeld => ?_)
    · exact hS _ hb3
    clear hK K
    try simp only [List.setIfInBounds_toArray, List.set_cons_zero, List.set_cons_succ]
    exact wst_0_111 hS hP hQ hO iP iQ iO hE _ (by kernel_rfl) _ w.heap.size py pz hb3 gpx gpy gpz (fun e => by have := fpy.2.lt; omega) (fun e => by have := fpz.2.lt; omega) dpypz
set_option maxRecDepth 100000 in
set_option maxHeartbeats 3200000 in
theorem wst_1_100 (hS : ∀ w, Below w0.heap.size w0 w → S w)
    (hP : ∀ w, Below w0.heap.size w0 w → Calls Tryd.prog 39 #[iv, .int .u8 k] w fun e w' => e = .returned (.agg NP.toArray) ∧ Below w.heap.size w w')
    (hQ : ∀ w, Below w0.heap.size w0 w → Calls Tryd.prog 40 #[iv, .int .u8 k] w fun e w' => e = .returned (.agg NQ.toArray) ∧ Below w.heap.size w w')
    (hO : ∀ w, Below w0.heap.size w0 w → Calls Tryd.prog 41 #[ov, .int .i64 i, .int .u8 k] w fun e w' => e = .returned (.agg NO.toArray) ∧ Below w.heap.size w w')
    (iP : Hash3 NP) (iQ : Hash3 NQ) (iO : Hash3 NO)
    (hE : ∀ w px py pz, Below w0.heap.size w0 w → (w0.heap.size ≤ px ∧ VRow w px 36 NP) → (w0.heap.size ≤ py ∧ VRow w py 36 NQ) → (w0.heap.size ≤ pz ∧ VRow w pz 36 NO) → QQ .normal ⟨#[u0, u1, u2, u3, u4, u5, u6, u7, u8, u9, u10, u11, (.pointer (some ⟨px, 0, none⟩)), (.pointer (some ⟨py, 0, none⟩)), (.pointer (some ⟨pz, 0, none⟩)), u15, u16, u17, u18, u19, u20, u21, u22, u23, u24, u25, u26, iv, (.int .u8 k), (.agg NP.toArray), u30, iv, (.int .u8 k), (.agg NQ.toArray), u34, ov, (.int .i64 i), (.int .u8 k), (.agg NO.toArray), u39, u40], []⟩ w)
    (listed : Array Bool) (hl : listed = #[true, true, true, true, true, true, true, false, true, true, true, true, false, true, false, false, false, false, false]) (w : World) (px : Nat) (hb : Below w0.heap.size w0 w) (fpx : w0.heap.size ≤ px ∧ VRow w px 36 ((List.replicate 32 (0 : Int)).map (Value.int .u8))) :
    wpAnyH Tryd.prog .any witOps QQ S 7 listed ⟨#[u0, u1, u2, u3, u4, u5, u6, u7, u8, u9, u10, u11, (.pointer (some ⟨px, 0, none⟩)), u13, u14, u15, u16, u17, u18, u19, u20, u21, u22, u23, u24, u25, u26, iv, (.int .u8 k), (.agg NP.toArray), u30, iv, (.int .u8 k), u33, u34, ov, (.int .i64 i), (.int .u8 k), u38, u39, u40], []⟩ w := by
  subst hl
  refine wpAnyH_ready (rs := [7, 14, 15]) (by kernel_rfl) (by simp) ?_
  refine AllReadyH.cons (o := { dst := some 33, op := Go.Op.call { callee := Go.Callee.value (Go.Operand.func 40), args := #[Go.Operand.tmp 31, Go.Operand.tmp 32], argTypes := #[22, 5] }, type := 36, pos := "witness.go:14", after := #[{ on := 5, ground := Go.Ground.data }, { on := 6, ground := Go.Ground.data }, { on := 3, ground := Go.Ground.chain }], guard := none }) rfl (fun K hK => ?_) (AllReadyH.cons (o := { dst := some 13, op := Go.Op.alloc 36, type := 0, pos := "witness.go:14", after := #[], guard := none }) rfl (fun K hK => ?_) (AllReadyH.cons (o := { dst := some 14, op := Go.Op.alloc 36, type := 0, pos := "witness.go:14", after := #[], guard := none }) rfl (fun K hK => ?_) (AllReadyH.nil)))
  · as_aux_lemma =>
    go_simp
    refine (hQ w hb).mono ?_
    rintro e w2 ⟨rfl, hb2⟩
    have hb3 : Below w0.heap.size w0 w2 := hb.trans (hb2.mono hb.size)
    have gpx := And.intro fpx.1 (fpx.2.below hb2 fpx.2.lt)
    refine hK.out _ _ ?_ (fun hHeld => ?_)
    · exact hS _ hb3
    clear hK K
    try simp only [List.setIfInBounds_toArray, List.set_cons_zero, List.set_cons_succ]
    exact wst_2_100 hS hP hQ hO iP iQ iO hE _ (by kernel_rfl) w2 px hb3 gpx
  · as_aux_lemma =>
    go_simp
    change K _ (w.alloc (.cells ((List.replicate 32 (0 : Int)).map (Value.int .u8)).toArray 36))
    have hb3 : Below w0.heap.size w0 (w.alloc (.cells ((List.replicate 32 (0 : Int)).map (Value.int .u8)).toArray 36)) := hb.alloc hb.size _
    have gpy : w0.heap.size ≤ w.heap.size ∧ VRow (w.alloc (.cells ((List.replicate 32 (0 : Int)).map (Value.int .u8)).toArray 36)) w.heap.size 36 ((List.replicate 32 (0 : Int)).map (Value.int .u8)) := ⟨hb.size, VRow.new _ _ _⟩
    have gpx := And.intro fpx.1 (fpx.2.below ((Below.refl _ w).alloc (Nat.le_refl _) (.cells ((List.replicate 32 (0 : Int)).map (Value.int .u8)).toArray 36)) fpx.2.lt)
    refine hK.out _ _ ?_ (fun hHeld => ?_)
    · exact hS _ hb3
    clear hK K
    try simp only [List.setIfInBounds_toArray, List.set_cons_zero, List.set_cons_succ]
    exact wst_1_110 hS hP hQ hO iP iQ iO hE _ (by kernel_rfl) _ px w.heap.size hb3 gpx gpy (fun e => by have := fpx.2.lt; omega)
  · as_aux_lemma =>
    go_simp
    change K _ (w.alloc (.cells ((List.replicate 32 (0 : Int)).map (Value.int .u8)).toArray 36))
    have hb3 : Below w0.heap.size w0 (w.alloc (.cells ((List.replicate 32 (0 : Int)).map (Value.int .u8)).toArray 36)) := hb.alloc hb.size _
    have gpz : w0.heap.size ≤ w.heap.size ∧ VRow (w.alloc (.cells ((List.replicate 32 (0 : Int)).map (Value.int .u8)).toArray 36)) w.heap.size 36 ((List.replicate 32 (0 : Int)).map (Value.int .u8)) := ⟨hb.size, VRow.new _ _ _⟩
    have gpx := And.intro fpx.1 (fpx.2.below ((Below.refl _ w).alloc (Nat.le_refl _) (.cells ((List.replicate 32 (0 : Int)).map (Value.int .u8)).toArray 36)) fpx.2.lt)
    refine hK.out _ _ ?_ (fun hHeld => ?_)
    · exact hS _ hb3
    clear hK K
    try simp only [List.setIfInBounds_toArray, List.set_cons_zero, List.set_cons_succ]
    exact wst_1_101 hS hP hQ hO iP iQ iO hE _ (by kernel_rfl) _ px w.heap.size hb3 gpx gpz (fun e => by have := fpx.2.lt; omega)
set_option maxRecDepth 100000 in
set_option maxHeartbeats 3200000 in
theorem wst_1_010 (hS : ∀ w, Below w0.heap.size w0 w → S w)
    (hP : ∀ w, Below w0.heap.size w0 w → Calls Tryd.prog 39 #[iv, .int .u8 k] w fun e w' => e = .returned (.agg NP.toArray) ∧ Below w.heap.size w w')
    (hQ : ∀ w, Below w0.heap.size w0 w → Calls Tryd.prog 40 #[iv, .int .u8 k] w fun e w' => e = .returned (.agg NQ.toArray) ∧ Below w.heap.size w w')
    (hO : ∀ w, Below w0.heap.size w0 w → Calls Tryd.prog 41 #[ov, .int .i64 i, .int .u8 k] w fun e w' => e = .returned (.agg NO.toArray) ∧ Below w.heap.size w w')
    (iP : Hash3 NP) (iQ : Hash3 NQ) (iO : Hash3 NO)
    (hE : ∀ w px py pz, Below w0.heap.size w0 w → (w0.heap.size ≤ px ∧ VRow w px 36 NP) → (w0.heap.size ≤ py ∧ VRow w py 36 NQ) → (w0.heap.size ≤ pz ∧ VRow w pz 36 NO) → QQ .normal ⟨#[u0, u1, u2, u3, u4, u5, u6, u7, u8, u9, u10, u11, (.pointer (some ⟨px, 0, none⟩)), (.pointer (some ⟨py, 0, none⟩)), (.pointer (some ⟨pz, 0, none⟩)), u15, u16, u17, u18, u19, u20, u21, u22, u23, u24, u25, u26, iv, (.int .u8 k), (.agg NP.toArray), u30, iv, (.int .u8 k), (.agg NQ.toArray), u34, ov, (.int .i64 i), (.int .u8 k), (.agg NO.toArray), u39, u40], []⟩ w)
    (listed : Array Bool) (hl : listed = #[true, true, true, true, true, true, true, false, true, true, true, true, false, false, true, false, false, false, false]) (w : World) (py : Nat) (hb : Below w0.heap.size w0 w) (fpy : w0.heap.size ≤ py ∧ VRow w py 36 ((List.replicate 32 (0 : Int)).map (Value.int .u8))) :
    wpAnyH Tryd.prog .any witOps QQ S 7 listed ⟨#[u0, u1, u2, u3, u4, u5, u6, u7, u8, u9, u10, u11, u12, (.pointer (some ⟨py, 0, none⟩)), u14, u15, u16, u17, u18, u19, u20, u21, u22, u23, u24, u25, u26, iv, (.int .u8 k), (.agg NP.toArray), u30, iv, (.int .u8 k), u33, u34, ov, (.int .i64 i), (.int .u8 k), u38, u39, u40], []⟩ w := by
  subst hl
  refine wpAnyH_ready (rs := [7, 13, 15]) (by kernel_rfl) (by simp) ?_
  refine AllReadyH.cons (o := { dst := some 33, op := Go.Op.call { callee := Go.Callee.value (Go.Operand.func 40), args := #[Go.Operand.tmp 31, Go.Operand.tmp 32], argTypes := #[22, 5] }, type := 36, pos := "witness.go:14", after := #[{ on := 5, ground := Go.Ground.data }, { on := 6, ground := Go.Ground.data }, { on := 3, ground := Go.Ground.chain }], guard := none }) rfl (fun K hK => ?_) (AllReadyH.cons (o := { dst := some 12, op := Go.Op.alloc 36, type := 0, pos := "witness.go:14", after := #[], guard := none }) rfl (fun K hK => ?_) (AllReadyH.cons (o := { dst := some 14, op := Go.Op.alloc 36, type := 0, pos := "witness.go:14", after := #[], guard := none }) rfl (fun K hK => ?_) (AllReadyH.nil)))
  · as_aux_lemma =>
    go_simp
    refine (hQ w hb).mono ?_
    rintro e w2 ⟨rfl, hb2⟩
    have hb3 : Below w0.heap.size w0 w2 := hb.trans (hb2.mono hb.size)
    have gpy := And.intro fpy.1 (fpy.2.below hb2 fpy.2.lt)
    refine hK.out _ _ ?_ (fun hHeld => ?_)
    · exact hS _ hb3
    clear hK K
    try simp only [List.setIfInBounds_toArray, List.set_cons_zero, List.set_cons_succ]
    exact wst_2_010 hS hP hQ hO iP iQ iO hE _ (by kernel_rfl) w2 py hb3 gpy
  · as_aux_lemma =>
    go_simp
    change K _ (w.alloc (.cells ((List.replicate 32 (0 : Int)).map (Value.int .u8)).toArray 36))
    have hb3 : Below w0.heap.size w0 (w.alloc (.cells ((List.replicate 32 (0 : Int)).map (Value.int .u8)).toArray 36)) := hb.alloc hb.size _
    have gpx : w0.heap.size ≤ w.heap.size ∧ VRow (w.alloc (.cells ((List.replicate 32 (0 : Int)).map (Value.int .u8)).toArray 36)) w.heap.size 36 ((List.replicate 32 (0 : Int)).map (Value.int .u8)) := ⟨hb.size, VRow.new _ _ _⟩
    have gpy := And.intro fpy.1 (fpy.2.below ((Below.refl _ w).alloc (Nat.le_refl _) (.cells ((List.replicate 32 (0 : Int)).map (Value.int .u8)).toArray 36)) fpy.2.lt)
    refine hK.out _ _ ?_ (fun hHeld => ?_)
    · exact hS _ hb3
    clear hK K
    try simp only [List.setIfInBounds_toArray, List.set_cons_zero, List.set_cons_succ]
    exact wst_1_110 hS hP hQ hO iP iQ iO hE _ (by kernel_rfl) _ w.heap.size py hb3 gpx gpy (fun e => by have := fpy.2.lt; omega)
  · as_aux_lemma =>
    go_simp
    change K _ (w.alloc (.cells ((List.replicate 32 (0 : Int)).map (Value.int .u8)).toArray 36))
    have hb3 : Below w0.heap.size w0 (w.alloc (.cells ((List.replicate 32 (0 : Int)).map (Value.int .u8)).toArray 36)) := hb.alloc hb.size _
    have gpz : w0.heap.size ≤ w.heap.size ∧ VRow (w.alloc (.cells ((List.replicate 32 (0 : Int)).map (Value.int .u8)).toArray 36)) w.heap.size 36 ((List.replicate 32 (0 : Int)).map (Value.int .u8)) := ⟨hb.size, VRow.new _ _ _⟩
    have gpy := And.intro fpy.1 (fpy.2.below ((Below.refl _ w).alloc (Nat.le_refl _) (.cells ((List.replicate 32 (0 : Int)).map (Value.int .u8)).toArray 36)) fpy.2.lt)
    refine hK.out _ _ ?_ (fun hHeld => ?_)
    · exact hS _ hb3
    clear hK K
    try simp only [List.setIfInBounds_toArray, List.set_cons_zero, List.set_cons_succ]
    exact wst_1_011 hS hP hQ hO iP iQ iO hE _ (by kernel_rfl) _ py w.heap.size hb3 gpy gpz (fun e => by have := fpy.2.lt; omega)
set_option maxRecDepth 100000 in
set_option maxHeartbeats 3200000 in
theorem wst_1_001 (hS : ∀ w, Below w0.heap.size w0 w → S w)
    (hP : ∀ w, Below w0.heap.size w0 w → Calls Tryd.prog 39 #[iv, .int .u8 k] w fun e w' => e = .returned (.agg NP.toArray) ∧ Below w.heap.size w w')
    (hQ : ∀ w, Below w0.heap.size w0 w → Calls Tryd.prog 40 #[iv, .int .u8 k] w fun e w' => e = .returned (.agg NQ.toArray) ∧ Below w.heap.size w w')
    (hO : ∀ w, Below w0.heap.size w0 w → Calls Tryd.prog 41 #[ov, .int .i64 i, .int .u8 k] w fun e w' => e = .returned (.agg NO.toArray) ∧ Below w.heap.size w w')
    (iP : Hash3 NP) (iQ : Hash3 NQ) (iO : Hash3 NO)
    (hE : ∀ w px py pz, Below w0.heap.size w0 w → (w0.heap.size ≤ px ∧ VRow w px 36 NP) → (w0.heap.size ≤ py ∧ VRow w py 36 NQ) → (w0.heap.size ≤ pz ∧ VRow w pz 36 NO) → QQ .normal ⟨#[u0, u1, u2, u3, u4, u5, u6, u7, u8, u9, u10, u11, (.pointer (some ⟨px, 0, none⟩)), (.pointer (some ⟨py, 0, none⟩)), (.pointer (some ⟨pz, 0, none⟩)), u15, u16, u17, u18, u19, u20, u21, u22, u23, u24, u25, u26, iv, (.int .u8 k), (.agg NP.toArray), u30, iv, (.int .u8 k), (.agg NQ.toArray), u34, ov, (.int .i64 i), (.int .u8 k), (.agg NO.toArray), u39, u40], []⟩ w)
    (listed : Array Bool) (hl : listed = #[true, true, true, true, true, true, true, false, true, true, true, true, false, false, false, true, false, false, false]) (w : World) (pz : Nat) (hb : Below w0.heap.size w0 w) (fpz : w0.heap.size ≤ pz ∧ VRow w pz 36 ((List.replicate 32 (0 : Int)).map (Value.int .u8))) :
    wpAnyH Tryd.prog .any witOps QQ S 7 listed ⟨#[u0, u1, u2, u3, u4, u5, u6, u7, u8, u9, u10, u11, u12, u13, (.pointer (some ⟨pz, 0, none⟩)), u15, u16, u17, u18, u19, u20, u21, u22, u23, u24, u25, u26, iv, (.int .u8 k), (.agg NP.toArray), u30, iv, (.int .u8 k), u33, u34, ov, (.int .i64 i), (.int .u8 k), u38, u39, u40], []⟩ w := by
  subst hl
  refine wpAnyH_ready (rs := [7, 13, 14]) (by kernel_rfl) (by simp) ?_
  refine AllReadyH.cons (o := { dst := some 33, op := Go.Op.call { callee := Go.Callee.value (Go.Operand.func 40), args := #[Go.Operand.tmp 31, Go.Operand.tmp 32], argTypes := #[22, 5] }, type := 36, pos := "witness.go:14", after := #[{ on := 5, ground := Go.Ground.data }, { on := 6, ground := Go.Ground.data }, { on := 3, ground := Go.Ground.chain }], guard := none }) rfl (fun K hK => ?_) (AllReadyH.cons (o := { dst := some 12, op := Go.Op.alloc 36, type := 0, pos := "witness.go:14", after := #[], guard := none }) rfl (fun K hK => ?_) (AllReadyH.cons (o := { dst := some 13, op := Go.Op.alloc 36, type := 0, pos := "witness.go:14", after := #[], guard := none }) rfl (fun K hK => ?_) (AllReadyH.nil)))
  · as_aux_lemma =>
    go_simp
    refine (hQ w hb).mono ?_
    rintro e w2 ⟨rfl, hb2⟩
    have hb3 : Below w0.heap.size w0 w2 := hb.trans (hb2.mono hb.size)
    have gpz := And.intro fpz.1 (fpz.2.below hb2 fpz.2.lt)
    refine hK.out _ _ ?_ (fun hHeld => ?_)
    · exact hS _ hb3
    clear hK K
    try simp only [List.setIfInBounds_toArray, List.set_cons_zero, List.set_cons_succ]
    exact wst_2_001 hS hP hQ hO iP iQ iO hE _ (by kernel_rfl) w2 pz hb3 gpz
  · as_aux_lemma =>
    go_simp
    change K _ (w.alloc (.cells ((List.replicate 32 (0 : Int)).map (Value.int .u8)).toArray 36))
    have hb3 : Below w0.heap.size w0 (w.alloc (.cells ((List.replicate 32 (0 : Int)).map (Value.int .u8)).toArray 36)) := hb.alloc hb.size _
    have gpx : w0.heap.size ≤ w.heap.size ∧ VRow (w.alloc (.cells ((List.replicate 32 (0 : Int)).map (Value.int .u8)).toArray 36)) w.heap.size 36 ((List.replicate 32 (0 : Int)).map (Value.int .u8)) := ⟨hb.size, VRow.new _ _ _⟩
    have gpz := And.intro fpz.1 (fpz.2.below ((Below.refl _ w).alloc (Nat.le_refl _) (.cells ((List.replicate 32 (0 : Int)).map (Value.int .u8)).toArray 36)) fpz.2.lt)
    refine hK.out _ _ ?_ (fun hHeld => ?_)
    · exact hS _ hb3
    clear hK K
    try simp only [List.setIfInBounds_toArray, List.set_cons_zero, List.set_cons_succ]
    exact wst_1_101 hS hP hQ hO iP iQ iO hE _ (by kernel_rfl) _ w.heap.size pz hb3 gpx gpz (fun e => by have := fpz.2.lt; omega)
  · as_aux_lemma =>
    go_simp
    change K _ (w.alloc (.cells ((List.replicate 32 (0 : Int)).map (Value.int .u8)).toArray 36))
    have hb3 : Below w0.heap.size w0 (w.alloc (.cells ((List.replicate 32 (0 : Int)).map (Value.int .u8)).toArray 36)) := hb.alloc hb.size _
    have gpy : w0.heap.size ≤ w.heap.size ∧ VRow (w.alloc (.cells ((List.replicate 32 (0 : Int)).map (Value.int .u8)).toArray 36)) w.heap.size 36 ((List.replicate 32 (0 : Int)).map (Value.int .u8)) := ⟨hb.size, VRow.new _ _ _⟩
    have gpz := And.intro fpz.1 (fpz.2.below ((Below.refl _ w).alloc (Nat.le_refl _) (.cells ((List.replicate 32 (0 : Int)).map (Value.int .u8)).toArray 36)) fpz.2.lt)
    refine hK.out _ _ ?_ (fun hHeld => ?_)
    · exact hS _ hb3
    clear hK K
    try simp only [List.setIfInBounds_toArray, List.set_cons_zero, List.set_cons_succ]
    exact wst_1_011 hS hP hQ hO iP iQ iO hE _ (by kernel_rfl) _ w.heap.size pz hb3 gpy gpz (fun e => by have := fpz.2.lt; omega)
set_option maxRecDepth 100000 in
set_option maxHeartbeats 3200000 in
theorem wst_2_000 (hS : ∀ w, Below w0.heap.size w0 w → S w)
    (hP : ∀ w, Below w0.heap.size w0 w → Calls Tryd.prog 39 #[iv, .int .u8 k] w fun e w' => e = .returned (.agg NP.toArray) ∧ Below w.heap.size w w')
    (hQ : ∀ w, Below w0.heap.size w0 w → Calls Tryd.prog 40 #[iv, .int .u8 k] w fun e w' => e = .returned (.agg NQ.toArray) ∧ Below w.heap.size w w')
    (hO : ∀ w, Below w0.heap.size w0 w → Calls Tryd.prog 41 #[ov, .int .i64 i, .int .u8 k] w fun e w' => e = .returned (.agg NO.toArray) ∧ Below w.heap.size w w')
    (iP : Hash3 NP) (iQ : Hash3 NQ) (iO : Hash3 NO)
    (hE : ∀ w px py pz, Below w0.heap.size w0 w → (w0.heap.size ≤ px ∧ VRow w px 36 NP) → (w0.heap.size ≤ py ∧ VRow w py 36 NQ) → (w0.heap.size ≤ pz ∧ VRow w pz 36 NO) → QQ .normal ⟨#[u0, u1, u2, u3, u4, u5, u6, u7, u8, u9, u10, u11, (.pointer (some ⟨px, 0, none⟩)), (.pointer (some ⟨py, 0, none⟩)), (.pointer (some ⟨pz, 0, none⟩)), u15, u16, u17, u18, u19, u20, u21, u22, u23, u24, u25, u26, iv, (.int .u8 k), (.agg NP.toArray), u30, iv, (.int .u8 k), (.agg NQ.toArray), u34, ov, (.int .i64 i), (.int .u8 k), (.agg NO.toArray), u39, u40], []⟩ w)
    (listed : Array Bool) (hl : listed = #[true, true, true, true, true, true, true, true, true, true, true, true, false, false, false, false, false, false, false]) (w : World) (hb : Below w0.heap.size w0 w) :
    wpAnyH Tryd.prog .any witOps QQ S 7 listed ⟨#[u0, u1, u2, u3, u4, u5, u6, u7, u8, u9, u10, u11, u12, u13, u14, u15, u16, u17, u18, u19, u20, u21, u22, u23, u24, u25, u26, iv, (.int .u8 k), (.agg NP.toArray), u30, iv, (.int .u8 k), (.agg NQ.toArray), u34, ov, (.int .i64 i), (.int .u8 k), u38, u39, u40], []⟩ w := by
  subst hl
  refine wpAnyH_ready (rs := [12, 13, 14, 15]) (by kernel_rfl) (by simp) ?_
  refine AllReadyH.cons (o := { dst := some 38, op := Go.Op.call { callee := Go.Callee.value (Go.Operand.func 41), args := #[Go.Operand.tmp 35, Go.Operand.tmp 36, Go.Operand.tmp 37], argTypes := #[23, 3, 5] }, type := 36, pos := "witness.go:14", after := #[{ on := 9, ground := Go.Ground.data }, { on := 10, ground := Go.Ground.data }, { on := 11, ground := Go.Ground.data }, { on := 7, ground := Go.Ground.chain }], guard := none }) rfl (fun K hK => ?_) (AllReadyH.cons (o := { dst := some 12, op := Go.Op.alloc 36, type := 0, pos := "witness.go:14", after := #[], guard := none }) rfl (fun K hK => ?_) (AllReadyH.cons (o := { dst := some 13, op := Go.Op.alloc 36, type := 0, pos := "witness.go:14", after := #[], guard := none }) rfl (fun K hK => ?_) (AllReadyH.cons (o := { dst := some 14, op := Go.Op.alloc 36, type := 0, pos := "witness.go:14", after := #[], guard := none }) rfl (fun K hK => ?_) (AllReadyH.nil))))
  · as_aux_lemma =>
    go_simp
    refine (hO w hb).mono ?_
    rintro e w2 ⟨rfl, hb2⟩
    have hb3 : Below w0.heap.size w0 w2 := hb.trans (hb2.mono hb.size)
    refine hK.out _ _ ?_ (fun hHeld => ?_)
    · exact hS _ hb3
    clear hK K
    try simp only [List.setIfInBounds_toArray, List.set_cons_zero, List.set_cons_succ]
    exact wst_3_000 hS hP hQ hO iP iQ iO hE _ (by kernel_rfl) w2  hb3
  · as_aux_lemma =>
    go_simp
    change K _ (w.alloc (.cells ((List.replicate 32 (0 : Int)).map (Value.int .u8)).toArray 36))
    have hb3 : Below w0.heap.size w0 (w.alloc (.cells ((List.replicate 32 (0 : Int)).map (Value.int .u8)).toArray 36)) := hb.alloc hb.size _
    have gpx : w0.heap.size ≤ w.heap.size ∧ VRow (w.alloc (.cells ((List.replicate 32 (0 : Int)).map (Value.int .u8)).toArray 36)) w.heap.size 36 ((List.replicate 32 (0 : Int)).map (Value.int .u8)) := ⟨hb.size, VRow.new _ _ _⟩
    refine hK.out _ _ ?_ (fun hHeld => ?_)
    · exact hS _ hb3
    clear hK K
    try simp only [List.setIfInBounds_toArray, List.set_cons_zero, List.set_cons_succ]
    exact wst_2_100 hS hP hQ hO iP iQ iO hE _ (by kernel_rfl) _ w.heap.size hb3 gpx
  · as_aux_lemma =>
    go_simp
    change K _ (w.alloc (.cells ((List.replicate 32 (0 : Int)).map (Value.int .u8)).toArray 36))
    have hb3 : Below w0.heap.size w0 (w.alloc (.cells ((List.replicate 32 (0 : Int)).map (Value.int .u8)).toArray 36)) := hb.alloc hb.size _
    have gpy : w0.heap.size ≤ w.heap.size ∧ VRow (w.alloc (.cells ((List.replicate 32 (0 : Int)).map (Value.int .u8)).toArray 36)) w.heap.size 36 ((List.replicate 32 (0 : Int)).map (Value.int .u8)) := ⟨hb.size, VRow.new _ _ _⟩
    refine hK.out _ _ ?_ (fun hHeld => ?_)
    · exact hS _ hb3
    clear hK K
    try simp only [List.setIfInBounds_toArray, List.set_cons_zero, List.set_cons_succ]
    exact wst_2_010 hS hP hQ hO iP iQ iO hE _ (by kernel_rfl) _ w.heap.size hb3 gpy
  · as_aux_lemma =>
    go_simp
    change K _ (w.alloc (.cells ((List.replicate 32 (0 : Int)).map (Value.int .u8)).toArray 36))
    have hb3 : Below w0.heap.size w0 (w.alloc (.cells ((List.replicate 32 (0 : Int)).map (Value.int .u8)).toArray 36)) := hb.alloc hb.size _
    have gpz : w0.heap.size ≤ w.heap.size ∧ VRow (w.alloc (.cells ((List.replicate 32 (0 : Int)).map (Value.int .u8)).toArray 36)) w.heap.size 36 ((List.replicate 32 (0 : Int)).map (Value.int .u8)) := ⟨hb.size, VRow.new _ _ _⟩
    refine hK.out _ _ ?_ (fun hHeld => ?_)
    · exact hS _ hb3
    clear hK K
    try simp only [List.setIfInBounds_toArray, List.set_cons_zero, List.set_cons_succ]
    exact wst_2_001 hS hP hQ hO iP iQ iO hE _ (by kernel_rfl) _ w.heap.size hb3 gpz
set_option maxRecDepth 100000 in
set_option maxHeartbeats 3200000 in
theorem wst_0_100 (hS : ∀ w, Below w0.heap.size w0 w → S w)
    (hP : ∀ w, Below w0.heap.size w0 w → Calls Tryd.prog 39 #[iv, .int .u8 k] w fun e w' => e = .returned (.agg NP.toArray) ∧ Below w.heap.size w w')
    (hQ : ∀ w, Below w0.heap.size w0 w → Calls Tryd.prog 40 #[iv, .int .u8 k] w fun e w' => e = .returned (.agg NQ.toArray) ∧ Below w.heap.size w w')
    (hO : ∀ w, Below w0.heap.size w0 w → Calls Tryd.prog 41 #[ov, .int .i64 i, .int .u8 k] w fun e w' => e = .returned (.agg NO.toArray) ∧ Below w.heap.size w w')
    (iP : Hash3 NP) (iQ : Hash3 NQ) (iO : Hash3 NO)
    (hE : ∀ w px py pz, Below w0.heap.size w0 w → (w0.heap.size ≤ px ∧ VRow w px 36 NP) → (w0.heap.size ≤ py ∧ VRow w py 36 NQ) → (w0.heap.size ≤ pz ∧ VRow w pz 36 NO) → QQ .normal ⟨#[u0, u1, u2, u3, u4, u5, u6, u7, u8, u9, u10, u11, (.pointer (some ⟨px, 0, none⟩)), (.pointer (some ⟨py, 0, none⟩)), (.pointer (some ⟨pz, 0, none⟩)), u15, u16, u17, u18, u19, u20, u21, u22, u23, u24, u25, u26, iv, (.int .u8 k), (.agg NP.toArray), u30, iv, (.int .u8 k), (.agg NQ.toArray), u34, ov, (.int .i64 i), (.int .u8 k), (.agg NO.toArray), u39, u40], []⟩ w)
    (listed : Array Bool) (hl : listed = #[true, true, true, false, true, true, true, false, true, true, true, true, false, true, false, false, false, false, false]) (w : World) (px : Nat) (hb : Below w0.heap.size w0 w) (fpx : w0.heap.size ≤ px ∧ VRow w px 36 ((List.replicate 32 (0 : Int)).map (Value.int .u8))) :
    wpAnyH Tryd.prog .any witOps QQ S 8 listed ⟨#[u0, u1, u2, u3, u4, u5, u6, u7, u8, u9, u10, u11, (.pointer (some ⟨px, 0, none⟩)), u13, u14, u15, u16, u17, u18, u19, u20, u21, u22, u23, u24, u25, u26, iv, (.int .u8 k), u29, u30, iv, (.int .u8 k), u33, u34, ov, (.int .i64 i), (.int .u8 k), u38, u39, u40], []⟩ w := by
  subst hl
  refine wpAnyH_ready (rs := [3, 14, 15]) (by kernel_rfl) (by simp) ?_
  refine AllReadyH.cons (o := { dst := some 29, op := Go.Op.call { callee := Go.Callee.value (Go.Operand.func 39), args := #[Go.Operand.tmp 27, Go.Operand.tmp 28], argTypes := #[22, 5] }, type := 36, pos := "witness.go:14", after := #[{ on := 1, ground := Go.Ground.data }, { on := 2, ground := Go.Ground.data }], guard := none }) rfl (fun K hK => ?_) (AllReadyH.cons (o := { dst := some 13, op := Go.Op.alloc 36, type := 0, pos := "witness.go:14", after := #[], guard := none }) rfl (fun K hK => ?_) (AllReadyH.cons (o := { dst := some 14, op := Go.Op.alloc 36, type := 0, pos := "witness.go:14", after := #[], guard := none }) rfl (fun K hK => ?_) (AllReadyH.nil)))
  · as_aux_lemma =>
    go_simp
    refine (hP w hb).mono ?_
    rintro e w2 ⟨rfl, hb2⟩
    have hb3 : Below w0.heap.size w0 w2 := hb.trans (hb2.mono hb.size)
    have gpx := And.intro fpx.1 (fpx.2.below hb2 fpx.2.lt)
    refine hK.out _ _ ?_ (fun hHeld => ?_)
    · exact hS _ hb3
    clear hK K
    try simp only [List.setIfInBounds_toArray, List.set_cons_zero, List.set_cons_succ]
    exact wst_1_100 hS hP hQ hO iP iQ iO hE _ (by kernel_rfl) w2 px hb3 gpx
  · as_aux_lemma =>
    go_simp
    change K _ (w.alloc (.cells ((List.replicate 32 (0 : Int)).map (Value.int .u8)).toArray 36))
    have hb3 : Below w0.heap.size w0 (w.alloc (.cells ((List.replicate 32 (0 : Int)).map (Value.int .u8)).toArray 36)) := hb.alloc hb.size _
    have gpy : w0.heap.size ≤ w.heap.size ∧ VRow (w.alloc (.cells ((List.replicate 32 (0 : Int)).map (Value.int .u8)).toArray 36)) w.heap.size 36 ((List.replicate 32 (0 : Int)).map (Value.int .u8)) := ⟨hb.size, VRow.new _ _ _⟩
    have gpx := And.intro fpx.1 (fpx.2.below ((Below.refl _ w).alloc (Nat.le_refl _) (.cells ((List.replicate 32 (0 : Int)).map (Value.int .u8)).toArray 36)) fpx.2.lt)
    refine hK.out _ _ ?_ (fun hHeld => ?_)
    · exact hS _ hb3
    clear hK K
    try simp only [List.setIfInBounds_toArray, List.set_cons_zero, List.set_cons_succ]
    exact wst_0_110 hS hP hQ hO iP iQ iO hE _ (by kernel_rfl) _ px w.heap.size hb3 gpx gpy (fun e => by have := fpx.2.lt; omega)
  · as_aux_lemma =>
    go_simp
    change K _ (w.alloc (.cells ((List.replicate 32 (0 : Int)).map (Value.int .u8)).toArray 36))
    have hb3 : Below w0.heap.size w0 (w.alloc (.cells ((List.replicate 32 (0 : Int)).map (Value.int .u8)).toArray 36)) := hb.alloc hb.size _
    have gpz : w0.heap.size ≤ w.heap.size ∧ VRow (w.alloc (.cells ((List.replicate 32 (0 : Int)).map (Value.int .u8)).toArray 36)) w.heap.size 36 ((List.replicate 32 (0 : Int)).map (Value.int .u8)) := ⟨hb.size, VRow.new _ _ _⟩
    have gpx := And.intro fpx.1 (fpx.2.below ((Below.refl _ w).alloc (Nat.le_refl _) (.cells ((List.replicate 32 (0 : Int)).map (Value.int .u8)).toArray 36)) fpx.2.lt)
    refine hK.out _ _ ?_ (fun hHeld => ?_)
    · exact hS _ hb3
    clear hK K
    try simp only [List.setIfInBounds_toArray, List.set_cons_zero, List.set_cons_succ]
    exact wst_0_101 hS hP hQ hO iP iQ iO hE _ (by kernel_rfl) _ px w.heap.size hb3 gpx gpz (fun e => by have := fpx.2.lt; omega)
set_option maxRecDepth 100000 in
set_option maxHeartbeats 3200000 in
theorem wst_0_010 (hS : ∀ w, Below w0.heap.size w0 w → S w)
    (hP : ∀ w, Below w0.heap.size w0 w → Calls Tryd.prog 39 #[iv, .int .u8 k] w fun e w' => e = .returned (.agg NP.toArray) ∧ Below w.heap.size w w')
    (hQ : ∀ w, Below w0.heap.size w0 w → Calls Tryd.prog 40 #[iv, .int .u8 k] w fun e w' => e = .returned (.agg NQ.toArray) ∧ Below w.heap.size w w')
    (hO : ∀ w, Below w0.heap.size w0 w → Calls Tryd.prog 41 #[ov, .int .i64 i, .int .u8 k] w fun e w' => e = .returned (.agg NO.toArray) ∧ Below w.heap.size w w')
    (iP : Hash3 NP) (iQ : Hash3 NQ) (iO : Hash3 NO)
    (hE : ∀ w px py pz, Below w0.heap.size w0 w → (w0.heap.size ≤ px ∧ VRow w px 36 NP) → (w0.heap.size ≤ py ∧ VRow w py 36 NQ) → (w0.heap.size ≤ pz ∧ VRow w pz 36 NO) → QQ .normal ⟨#[u0, u1, u2, u3, u4, u5, u6, u7, u8, u9, u10, u11, (.pointer (some ⟨px, 0, none⟩)), (.pointer (some ⟨py, 0, none⟩)), (.pointer (some ⟨pz, 0, none⟩)), u15, u16, u17, u18, u19, u20, u21, u22, u23, u24, u25, u26, iv, (.int .u8 k), (.agg NP.toArray), u30, iv, (.int .u8 k), (.agg NQ.toArray), u34, ov, (.int .i64 i), (.int .u8 k), (.agg NO.toArray), u39, u40], []⟩ w)
    (listed : Array Bool) (hl : listed = #[true, true, true, false, true, true, true, false, true, true, true, true, false, false, true, false, false, false, false]) (w : World) (py : Nat) (hb : Below w0.heap.size w0 w) (fpy : w0.heap.size ≤ py ∧ VRow w py 36 ((List.replicate 32 (0 : Int)).map (Value.int .u8))) :
    wpAnyH Tryd.prog .any witOps QQ S 8 listed ⟨#[u0, u1, u2, u3, u4, u5, u6, u7, u8, u9, u10, u11, u12, (.pointer (some ⟨py, 0, none⟩)), u14, u15, u16, u17, u18, u19, u20, u21, u22, u23, u24, u25, u26, iv, (.int .u8 k), u29, u30, iv, (.int .u8 k), u33, u34, ov, (.int .i64 i), (.int .u8 k), u38, u39, u40], []⟩ w := by
  subst hl
  refine wpAnyH_ready (rs := [3, 13, 15]) (by kernel_rfl) (by simp) ?_
  refine AllReadyH.cons (o := { dst := some 29, op := Go.Op.call { callee := Go.Callee.value (Go.Operand.func 39), args := #[Go.Operand.tmp 27, Go.Operand.tmp 28], argTypes := #[22, 5] }, type := 36, pos := "witness.go:14", after := #[{ on := 1, ground := Go.Ground.data }, { on := 2, ground := Go.Ground.data }], guard := none }) rfl (fun K hK => ?_) (AllReadyH.cons (o := { dst := some 12, op := Go.Op.alloc 36, type := 0, pos := "witness.go:14", after := #[], guard := none }) rfl (fun K hK => ?_) (AllReadyH.cons (o := { dst := some 14, op := Go.Op.alloc 36, type := 0, pos := "witness.go:14", after := #[], guard := none }) rfl (fun K hK => ?_) (AllReadyH.nil)))
  · as_aux_lemma =>
    go_simp
    refine (hP w hb).mono ?_
    rintro e w2 ⟨rfl, hb2⟩
    have hb3 : Below w0.heap.size w0 w2 := hb.trans (hb2.mono hb.size)
    have gpy := And.intro fpy.1 (fpy.2.below hb2 fpy.2.lt)
    refine hK.out _ _ ?_ (fun hHeld => ?_)
    · exact hS _ hb3
    clear hK K
    try simp only [List.setIfInBounds_toArray, List.set_cons_zero, List.set_cons_succ]
    exact wst_1_010 hS hP hQ hO iP iQ iO hE _ (by kernel_rfl) w2 py hb3 gpy
  · as_aux_lemma =>
    go_simp
    change K _ (w.alloc (.cells ((List.replicate 32 (0 : Int)).map (Value.int .u8)).toArray 36))
    have hb3 : Below w0.heap.size w0 (w.alloc (.cells ((List.replicate 32 (0 : Int)).map (Value.int .u8)).toArray 36)) := hb.alloc hb.size _
    have gpx : w0.heap.size ≤ w.heap.size ∧ VRow (w.alloc (.cells ((List.replicate 32 (0 : Int)).map (Value.int .u8)).toArray 36)) w.heap.size 36 ((List.replicate 32 (0 : Int)).map (Value.int .u8)) := ⟨hb.size, VRow.new _ _ _⟩
    have gpy := And.intro fpy.1 (fpy.2.below ((Below.refl _ w).alloc (Nat.le_refl _) (.cells ((List.replicate 32 (0 : Int)).map (Value.int .u8)).toArray 36)) fpy.2.lt)
    refine hK.out _ _ ?_ (fun hHeld => ?_)
    · exact hS _ hb3
    clear hK K
    try simp only [List.setIfInBounds_toArray, List.set_cons_zero, List.set_cons_succ]
    exact wst_0_110 hS hP hQ hO iP iQ iO hE _ (by kernel_rfl) _ w.heap.size py hb3 gpx gpy (fun e => by have := fpy.2.lt; omega)
  · as_aux_lemma =>
    go_simp
    change K _ (w.alloc (.cells ((List.replicate 32 (0 : Int)).map (Value.int .u8)).toArray 36))
    have hb3 : Below w0.heap.size w0 (w.alloc (.cells ((List.replicate 32 (0 : Int)).map (Value.int .u8)).toArray 36)) := hb.alloc hb.size _
    have gpz : w0.heap.size ≤ w.heap.size ∧ VRow (w.alloc (.cells ((List.replicate 32 (0 : Int)).map (Value.int .u8)).toArray 36)) w.heap.size 36 ((List.replicate 32 (0 : Int)).map (Value.int .u8)) := ⟨hb.size, VRow.new _ _ _⟩
    have gpy := And.intro fpy.1 (fpy.2.below ((Below.refl _ w).alloc (Nat.le_refl _) (.cells ((List.replicate 32 (0 : Int)).map (Value.int .u8)).toArray 36)) fpy.2.lt)
    refine hK.out _ _ ?_ (fun hHeld => ?_)
    · exact hS _ hb3
    clear hK K
    try simp only [List.setIfInBounds_toArray, List.set_cons_zero, List.set_cons_succ]
    exact wst_0_011 hS hP hQ hO iP iQ iO hE _ (by kernel_rfl) _ py w.heap.size hb3 gpy gpz (fun e => by have := fpy.2.lt; omega)
set_option maxRecDepth 100000 in
set_option maxHeartbeats 3200000 in
theorem wst_0_001 (hS : ∀ w, Below w0.heap.size w0 w → S w)
    (hP : ∀ w, Below w0.heap.size w0 w → Calls Tryd.prog 39 #[iv, .int .u8 k] w fun e w' => e = .returned (.agg NP.toArray) ∧ Below w.heap.size w w')
    (hQ : ∀ w, Below w0.heap.size w0 w → Calls Tryd.prog 40 #[iv, .int .u8 k] w fun e w' => e = .returned (.agg NQ.toArray) ∧ Below w.heap.size w w')
    (hO : ∀ w, Below w0.heap.size w0 w → Calls Tryd.prog 41 #[ov, .int .i64 i, .int .u8 k] w fun e w' => e = .returned (.agg NO.toArray) ∧ Below w.heap.size w w')
    (iP : Hash3 NP) (iQ : Hash3 NQ) (iO : Hash3 NO)
    (hE : ∀ w px py pz, Below w0.heap.size w0 w → (w0.heap.size ≤ px ∧ VRow w px 36 NP) → (w0.heap.size ≤ py ∧ VRow w py 36 NQ) → (w0.heap.size ≤ pz ∧ VRow w pz 36 NO) → QQ .normal ⟨#[u0, u1, u2, u3, u4, u5, u6, u7, u8, u9, u10, u11, (.pointer (some ⟨px, 0, none⟩)), (.pointer (some ⟨py, 0, none⟩)), (.pointer (some ⟨pz, 0, none⟩)), u15, u16, u17, u18, u19, u20, u21, u22, u23, u24, u25, u26, iv, (.int .u8 k), (.agg NP.toArray), u30, iv, (.int .u8 k), (.agg NQ.toArray), u34, ov, (.int .i64 i), (.int .u8 k), (.agg NO.toArray), u39, u40], []⟩ w)
    (listed : Array Bool) (hl : listed = #[true, true, true, false, true, true, true, false, true, true, true, true, false, false, false, true, false, false, false]) (w : World) (pz : Nat) (hb : Below w0.heap.size w0 w) (fpz : w0.heap.size ≤ pz ∧ VRow w pz 36 ((List.replicate 32 (0 : Int)).map (Value.int .u8))) :
    wpAnyH Tryd.prog .any witOps QQ S 8 listed ⟨#[u0, u1, u2, u3, u4, u5, u6, u7, u8, u9, u10, u11, u12, u13, (.pointer (some ⟨pz, 0, none⟩)), u15, u16, u17, u18, u19, u20, u21, u22, u23, u24, u25, u26, iv, (.int .u8 k), u29, u30, iv, (.int .u8 k), u33, u34, ov, (.int .i64 i), (.int .u8 k), u38, u39, u40], []⟩ w := by
  subst hl
  refine wpAnyH_ready (rs := [3, 13, 14]) (by kernel_rfl) (by simp) ?_
  refine AllReadyH.cons (o := { dst := some 29, op := Go.Op.call { callee := Go.Callee.value (Go.Operand.func 39), args := #[Go.Operand.tmp 27, Go.Operand.tmp 28], argTypes := #[22, 5] }, type := 36, pos := "witness.go:14", after := #[{ on := 1, ground := Go.Ground.data }, { on := 2, ground := Go.Ground.data }], guard := none }) rfl (fun K hK => ?_) (AllReadyH.cons (o := { dst := some 12, op := Go.Op.alloc 36, type := 0, pos := "witness.go:14", after := #[], guard := none }) rfl (fun K hK => ?_) (AllReadyH.cons (o := { dst := some 13, op := Go.Op.alloc 36, type := 0, pos := "witness.go:14", after := #[], guard := none }) rfl (fun K hK => ?_) (AllReadyH.nil)))
  · as_aux_lemma =>
    go_simp
    refine (hP w hb).mono ?_
    rintro e w2 ⟨rfl, hb2⟩
    have hb3 : Below w0.heap.size w0 w2 := hb.trans (hb2.mono hb.size)
    have gpz := And.intro fpz.1 (fpz.2.below hb2 fpz.2.lt)
    refine hK.out _ _ ?_ (fun hHeld => ?_)
    · exact hS _ hb3
    clear hK K
    try simp only [List.setIfInBounds_toArray, List.set_cons_zero, List.set_cons_succ]
    exact wst_1_001 hS hP hQ hO iP iQ iO hE _ (by kernel_rfl) w2 pz hb3 gpz
  · as_aux_lemma =>
    go_simp
    change K _ (w.alloc (.cells ((List.replicate 32 (0 : Int)).map (Value.int .u8)).toArray 36))
    have hb3 : Below w0.heap.size w0 (w.alloc (.cells ((List.replicate 32 (0 : Int)).map (Value.int .u8)).toArray 36)) := hb.alloc hb.size _
    have gpx : w0.heap.size ≤ w.heap.size ∧ VRow (w.alloc (.cells ((List.replicate 32 (0 : Int)).map (Value.int .u8)).toArray 36)) w.heap.size 36 ((List.replicate 32 (0 : Int)).map (Value.int .u8)) := ⟨hb.size, VRow.new _ _ _⟩
    have gpz := And.intro fpz.1 (fpz.2.below ((Below.refl _ w).alloc (Nat.le_refl _) (.cells ((List.replicate 32 (0 : Int)).map (Value.int .u8)).toArray 36)) fpz.2.lt)
    refine hK.out _ _ ?_ (fun hHeld => ?_)
    · exact hS _ hb3
    clear hK K
    try simp only [List.setIfInBounds_toArray, List.set_cons_zero, List.set_cons_succ]
    exact wst_0_101 hS hP hQ hO iP iQ iO hE _ (by kernel_rfl) _ w.heap.size pz hb3 gpx gpz (fun e => by have := fpz.2.lt; omega)
  · as_aux_lemma =>
    go_simp
    change K _ (w.alloc (.cells ((List.replicate 32 (0 : Int)).map (Value.int .u8)).toArray 36))
    have hb3 : Below w0.heap.size w0 (w.alloc (.cells ((List.replicate 32 (0 : Int)).map (Value.int .u8)).toArray 36)) := hb.alloc hb.size _
    have gpy : w0.heap.size ≤ w.heap.size ∧ VRow (w.alloc (.cells ((List.replicate 32 (0 : Int)).map (Value.int .u8)).toArray 36)) w.heap.size 36 ((List.replicate 32 (0 : Int)).map (Value.int .u8)) := ⟨hb.size, VRow.new _ _ _⟩
    have gpz := And.intro fpz.1 (fpz.2.below ((Below.refl _ w).alloc (Nat.le_refl _) (.cells ((List.replicate 32 (0 : Int)).map (Value.int .u8)).toArray 36)) fpz.2.lt)
    refine hK.out _ _ ?_ (fun hHeld => ?_)
    · exact hS _ hb3
    clear hK K
    try simp only [List.setIfInBounds_toArray, List.set_cons_zero, List.set_cons_succ]
    exact wst_0_011 hS hP hQ hO iP iQ iO hE _ (by kernel_rfl) _ w.heap.size pz hb3 gpy gpz (fun e => by have := fpz.2.lt; omega)
set_option maxRecDepth 100000 in
set_option maxHeartbeats 3200000 in
theorem wst_1_000 (hS : ∀ w, Below w0.heap.size w0 w → S w)
    (hP : ∀ w, Below w0.heap.size w0 w → Calls Tryd.prog 39 #[iv, .int .u8 k] w fun e w' => e = .returned (.agg NP.toArray) ∧ Below w.heap.size w w')
    (hQ : ∀ w, Below w0.heap.size w0 w → Calls Tryd.prog 40 #[iv, .int .u8 k] w fun e w' => e = .returned (.agg NQ.toArray) ∧ Below w.heap.size w w')
    (hO : ∀ w, Below w0.heap.size w0 w → Calls Tryd.prog 41 #[ov, .int .i64 i, .int .u8 k] w fun e w' => e = .returned (.agg NO.toArray) ∧ Below w.heap.size w w')
    (iP : Hash3 NP) (iQ : Hash3 NQ) (iO : Hash3 NO)
    (hE : ∀ w px py pz, Below w0.heap.size w0 w → (w0.heap.size ≤ px ∧ VRow w px 36 NP) → (w0.heap.size ≤ py ∧ VRow w py 36 NQ) → (w0.heap.size ≤ pz ∧ VRow w pz 36 NO) → QQ .normal ⟨#[u0, u1, u2, u3, u4, u5, u6, u7, u8, u9, u10, u11, (.pointer (some ⟨px, 0, none⟩)), (.pointer (some ⟨py, 0, none⟩)), (.pointer (some ⟨pz, 0, none⟩)), u15, u16, u17, u18, u19, u20, u21, u22, u23, u24, u25, u26, iv, (.int .u8 k), (.agg NP.toArray), u30, iv, (.int .u8 k), (.agg NQ.toArray), u34, ov, (.int .i64 i), (.int .u8 k), (.agg NO.toArray), u39, u40], []⟩ w)
    (listed : Array Bool) (hl : listed = #[true, true, true, true, true, true, true, false, true, true, true, true, false, false, false, false, false, false, false]) (w : World) (hb : Below w0.heap.size w0 w) :
    wpAnyH Tryd.prog .any witOps QQ S 8 listed ⟨#[u0, u1, u2, u3, u4, u5, u6, u7, u8, u9, u10, u11, u12, u13, u14, u15, u16, u17, u18, u19, u20, u21, u22, u23, u24, u25, u26, iv, (.int .u8 k), (.agg NP.toArray), u30, iv, (.int .u8 k), u33, u34, ov, (.int .i64 i), (.int .u8 k), u38, u39, u40], []⟩ w := by
  subst hl
  refine wpAnyH_ready (rs := [7, 13, 14, 15]) (by kernel_rfl) (by simp) ?_
  refine AllReadyH.cons (o := { dst := some 33, op := Go.Op.call { callee := Go.Callee.value (Go.Operand.func 40), args := #[Go.Operand.tmp 31, Go.Operand.tmp 32], argTypes := #[22, 5] }, type := 36, pos := "witness.go:14", after := #[{ on := 5, ground := Go.Ground.data }, { on := 6, ground := Go.Ground.data }, { on := 3, ground := Go.Ground.chain }], guard := none }) rfl (fun K hK => ?_) (AllReadyH.cons (o := { dst := some 12, op := Go.Op.alloc 36, type := 0, pos := "witness.go:14", after := #[], guard := none }) rfl (fun K hK => ?_) (AllReadyH.cons (o := { dst := some 13, op := Go.Op.alloc 36, type := 0, pos := "witness.go:14", after := #[], guard := none }) rfl (fun K hK => ?_) (AllReadyH.cons (o := { dst := some 14, op := Go.Op.alloc 36, type := 0, pos := "witness.go:14", after := #[], guard := none }) rfl (fun K hK => ?_) (AllReadyH.nil))))
  · as_aux_lemma =>
    go_simp
    refine (hQ w hb).mono ?_
    rintro e w2 ⟨rfl, hb2⟩
    have hb3 : Below w0.heap.size w0 w2 := hb.trans (hb2.mono hb.size)
    refine hK.out _ _ ?_ (fun hHeld => ?_)
    · exact hS _ hb3
    clear hK K
    try simp only [List.setIfInBounds_toArray, List.set_cons_zero, List.set_cons_succ]
    exact wst_2_000 hS hP hQ hO iP iQ iO hE _ (by kernel_rfl) w2  hb3
  · as_aux_lemma =>
    go_simp
    change K _ (w.alloc (.cells ((List.replicate 32 (0 : Int)).map (Value.int .u8)).toArray 36))
    have hb3 : Below w0.heap.size w0 (w.alloc (.cells ((List.replicate 32 (0 : Int)).map (Value.int .u8)).toArray 36)) := hb.alloc hb.size _
    have gpx : w0.heap.size ≤ w.heap.size ∧ VRow (w.alloc (.cells ((List.replicate 32 (0 : Int)).map (Value.int .u8)).toArray 36)) w.heap.size 36 ((List.replicate 32 (0 : Int)).map (Value.int .u8)) := ⟨hb.size, VRow.new _ _ _⟩
    refine hK.out _ _ ?_ (fun hHeld => ?_)
    · exact hS _ hb3
    clear hK K
    try simp only [List.setIfInBounds_toArray, List.set_cons_zero, List.set_cons_succ]
    exact wst_1_100 hS hP hQ hO iP iQ iO hE _ (by kernel_rfl) _ w.heap.size hb3 gpx
  · as_aux_lemma =>
    go_simp
    change K _ (w.alloc (.cells ((List.replicate 32 (0 : Int)).map (Value.int .u8)).toArray 36))
    have hb3 : Below w0.heap.size w0 (w.alloc (.cells ((List.replicate 32 (0 : Int)).map (Value.int .u8)).toArray 36)) := hb.alloc hb.size _
    have gpy : w0.heap.size ≤ w.heap.size ∧ VRow (w.alloc (.cells ((List.replicate 32 (0 : Int)).map (Value.int .u8)).toArray 36)) w.heap.size 36 ((List.replicate 32 (0 : Int)).map (Value.int .u8)) := ⟨hb.size, VRow.new _ _ _⟩
    refine hK.out _ _ ?_ (fun hHeld => ?_)
    · exact hS _ hb3
    clear hK K
    try simp only [List.setIfInBounds_toArray, List.set_cons_zero, List.set_cons_succ]
    exact wst_1_010 hS hP hQ hO iP iQ iO hE _ (by kernel_rfl) _ w.heap.size hb3 gpy
  · as_aux_lemma =>
    go_simp
    change K _ (w.alloc (.cells ((List.replicate 32 (0 : Int)).map (Value.int .u8)).toArray 36))
    have hb3 : Below w0.heap.size w0 (w.alloc (.cells ((List.replicate 32 (0 : Int)).map (Value.int .u8)).toArray 36)) := hb.alloc hb.size _
    have gpz : w0.heap.size ≤ w.heap.size ∧ VRow (w.alloc (.cells ((List.replicate 32 (0 : Int)).map (Value.int .u8)).toArray 36)) w.heap.size 36 ((List.replicate 32 (0 : Int)).map (Value.int .u8)) := ⟨hb.size, VRow.new _ _ _⟩
    refine hK.out _ _ ?_ (fun hHeld => ?_)
    · exact hS _ hb3
    clear hK K
    try simp only [List.setIfInBounds_toArray, List.set_cons_zero, List.set_cons_succ]
    exact wst_1_001 hS hP hQ hO iP iQ iO hE _ (by kernel_rfl) _ w.heap.size hb3 gpz
set_option maxRecDepth 100000 in
set_option maxHeartbeats 3200000 in
theorem wst_0_000 (hS : ∀ w, Below w0.heap.size w0 w → S w)
    (hP : ∀ w, Below w0.heap.size w0 w → Calls Tryd.prog 39 #[iv, .int .u8 k] w fun e w' => e = .returned (.agg NP.toArray) ∧ Below w.heap.size w w')
    (hQ : ∀ w, Below w0.heap.size w0 w → Calls Tryd.prog 40 #[iv, .int .u8 k] w fun e w' => e = .returned (.agg NQ.toArray) ∧ Below w.heap.size w w')
    (hO : ∀ w, Below w0.heap.size w0 w → Calls Tryd.prog 41 #[ov, .int .i64 i, .int .u8 k] w fun e w' => e = .returned (.agg NO.toArray) ∧ Below w.heap.size w w')
    (iP : Hash3 NP) (iQ : Hash3 NQ) (iO : Hash3 NO)
    (hE : ∀ w px py pz, Below w0.heap.size w0 w → (w0.heap.size ≤ px ∧ VRow w px 36 NP) → (w0.heap.size ≤ py ∧ VRow w py 36 NQ) → (w0.heap.size ≤ pz ∧ VRow w pz 36 NO) → QQ .normal ⟨#[u0, u1, u2, u3, u4, u5, u6, u7, u8, u9, u10, u11, (.pointer (some ⟨px, 0, none⟩)), (.pointer (some ⟨py, 0, none⟩)), (.pointer (some ⟨pz, 0, none⟩)), u15, u16, u17, u18, u19, u20, u21, u22, u23, u24, u25, u26, iv, (.int .u8 k), (.agg NP.toArray), u30, iv, (.int .u8 k), (.agg NQ.toArray), u34, ov, (.int .i64 i), (.int .u8 k), (.agg NO.toArray), u39, u40], []⟩ w)
    (listed : Array Bool) (hl : listed = #[true, true, true, false, true, true, true, false, true, true, true, true, false, false, false, false, false, false, false]) (w : World) (hb : Below w0.heap.size w0 w) :
    wpAnyH Tryd.prog .any witOps QQ S 9 listed ⟨#[u0, u1, u2, u3, u4, u5, u6, u7, u8, u9, u10, u11, u12, u13, u14, u15, u16, u17, u18, u19, u20, u21, u22, u23, u24, u25, u26, iv, (.int .u8 k), u29, u30, iv, (.int .u8 k), u33, u34, ov, (.int .i64 i), (.int .u8 k), u38, u39, u40], []⟩ w := by
  subst hl
  refine wpAnyH_ready (rs := [3, 13, 14, 15]) (by kernel_rfl) (by simp) ?_
  refine AllReadyH.cons (o := { dst := some 29, op := Go.Op.call { callee := Go.Callee.value (Go.Operand.func 39), args := #[Go.Operand.tmp 27, Go.Operand.tmp 28], argTypes := #[22, 5] }, type := 36, pos := "witness.go:14", after := #[{ on := 1, ground := Go.Ground.data }, { on := 2, ground := Go.Ground.data }], guard := none }) rfl (fun K hK => ?_) (AllReadyH.cons (o := { dst := some 12, op := Go.Op.alloc 36, type := 0, pos := "witness.go:14", after := #[], guard := none }) rfl (fun K hK => ?_) (AllReadyH.cons (o := { dst := some 13, op := Go.Op.alloc 36, type := 0, pos := "witness.go:14", after := #[], guard := none }) rfl (fun K hK => ?_) (AllReadyH.cons (o := { dst := some 14, op := Go.Op.alloc 36, type := 0, pos := "witness.go:14", after := #[], guard := none }) rfl (fun K hK => ?_) (AllReadyH.nil))))
  · as_aux_lemma =>
    go_simp
    refine (hP w hb).mono ?_
    rintro e w2 ⟨rfl, hb2⟩
    have hb3 : Below w0.heap.size w0 w2 := hb.trans (hb2.mono hb.size)
    refine hK.out _ _ ?_ (fun hHeld => ?_)
    · exact hS _ hb3
    clear hK K
    try simp only [List.setIfInBounds_toArray, List.set_cons_zero, List.set_cons_succ]
    exact wst_1_000 hS hP hQ hO iP iQ iO hE _ (by kernel_rfl) w2  hb3
  · as_aux_lemma =>
    go_simp
    change K _ (w.alloc (.cells ((List.replicate 32 (0 : Int)).map (Value.int .u8)).toArray 36))
    have hb3 : Below w0.heap.size w0 (w.alloc (.cells ((List.replicate 32 (0 : Int)).map (Value.int .u8)).toArray 36)) := hb.alloc hb.size _
    have gpx : w0.heap.size ≤ w.heap.size ∧ VRow (w.alloc (.cells ((List.replicate 32 (0 : Int)).map (Value.int .u8)).toArray 36)) w.heap.size 36 ((List.replicate 32 (0 : Int)).map (Value.int .u8)) := ⟨hb.size, VRow.new _ _ _⟩
    refine hK.out _ _ ?_ (fun hHeld => ?_)
    · exact hS _ hb3
    clear hK K
    try simp only [List.setIfInBounds_toArray, List.set_cons_zero, List.set_cons_succ]
    exact wst_0_100 hS hP hQ hO iP iQ iO hE _ (by kernel_rfl) _ w.heap.size hb3 gpx
  · as_aux_lemma =>
    go_simp
    change K _ (w.alloc (.cells ((List.replicate 32 (0 : Int)).map (Value.int .u8)).toArray 36))
    have hb3 : Below w0.heap.size w0 (w.alloc (.cells ((List.replicate 32 (0 : Int)).map (Value.int .u8)).toArray 36)) := hb.alloc hb.size _
    have gpy : w0.heap.size ≤ w.heap.size ∧ VRow (w.alloc (.cells ((List.replicate 32 (0 : Int)).map (Value.int .u8)).toArray 36)) w.heap.size 36 ((List.replicate 32 (0 : Int)).map (Value.int .u8)) := ⟨hb.size, VRow.new _ _ _⟩
    refine hK.out _ _ ?_ (fun hHeld => ?_)
    · exact hS _ hb3
    clear hK K
    try simp only [List.setIfInBounds_toArray, List.set_cons_zero, List.set_cons_succ]
    exact wst_0_010 hS hP hQ hO iP iQ iO hE _ (by kernel_rfl) _ w.heap.size hb3 gpy
  · as_aux_lemma =>
    go_simp
    change K _ (w.alloc (.cells ((List.replicate 32 (0 : Int)).map (Value.int .u8)).toArray 36))
    have hb3 : Below w0.heap.size w0 (w.alloc (.cells ((List.replicate 32 (0 : Int)).map (Value.int .u8)).toArray 36)) := hb.alloc hb.size _
    have gpz : w0.heap.size ≤ w.heap.size ∧ VRow (w.alloc (.cells ((List.replicate 32 (0 : Int)).map (Value.int .u8)).toArray 36)) w.heap.size 36 ((List.replicate 32 (0 : Int)).map (Value.int .u8)) := ⟨hb.size, VRow.new _ _ _⟩
    refine hK.out _ _ ?_ (fun hHeld => ?_)
    · exact hS _ hb3
    clear hK K
    try simp only [List.setIfInBounds_toArray, List.set_cons_zero, List.set_cons_succ]
    exact wst_0_001 hS hP hQ hO iP iQ iO hE _ (by kernel_rfl) _ w.heap.size hb3 gpz
end
end Go.Proofs.YthelmclpmalofaaDoor
