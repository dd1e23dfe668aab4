/-
  The end of the law on digests of pieces: a region that draws its order. Conditions: none.
-/
import Derived.Test.YtnmegdhidpkklaaDoorHSub
import Derived.Stop.BytesEq
namespace Go.Proofs.YtnmegdhidpkklaaDoor
open Go.RowKit

def findRegion (n : Nat) : Code → Option Code
  | .seq a b => match findRegion n a with
    | some c => some c
    | none => findRegion n b
  | .region k ops b => if k = n then some (.region k ops b) else none
  | .block _ c => findRegion n c
  | .loop c => findRegion n c
  | .scope c => findRegion n c
  | .cond _ a b => match findRegion n a with
    | some c => some c
    | none => findRegion n b
  | _ => none
noncomputable def regOf (n : Nat) (f : Func) : Code := (f.body.bind (findRegion n)).getD .skip

set_option maxRecDepth 1000000 in
set_option maxHeartbeats 12800000 in
theorem hp23_any {Q : Exit → Act → World → Prop} (A : Option Addr) (n0 c S p : Nat) (D E : List UInt8) (wc : World) (ip : (p : Int) ≤ (c : Int)) (hD : D.length = 32) (hE : E.length = 32) (c1 : ∀ W, Below wc.heap.size wc W → Calls Tryd.prog 25 #[.pointer (some ⟨S, 0, none⟩)] W fun e w' => e = .returned (.agg ((nums (D)).map (Value.int .u8)).toArray) ∧ Below W.heap.size W w') (c2 : ∀ W, Below wc.heap.size wc W → Calls Tryd.prog 12 #[.slice A p c] W fun e w' => e = .returned (.agg ((nums (D)).map (Value.int .u8)).toArray) ∧ Below W.heap.size W w') (c3 : ∀ W, Below wc.heap.size wc W → Calls Tryd.prog 26 #[.pointer (some ⟨S, 0, none⟩)] W fun e w' => e = .returned (.agg ((nums (E)).map (Value.int .u8)).toArray) ∧ Below W.heap.size W w') (c4 : ∀ W, Below wc.heap.size wc W → Calls Tryd.prog 19 #[.slice A p c] W fun e w' => e = .returned (.agg ((nums (E)).map (Value.int .u8)).toArray) ∧ Below W.heap.size W w') (c5 : ∀ W, Below wc.heap.size wc W → Calls Tryd.prog 11 #[.slice A p c] W fun e w' => e = .returned (.agg ((nums (D)).map (Value.int .u8)).toArray) ∧ Below W.heap.size W w') (u1 u2 u3 u4 u7 u8 u9 u10 u11 u12 u13 u14 u15 u16 u17 u18 u19 u20 u21 u22 u23 u24 u25 u26 u27 u28 u29 u30 u31 u32 u33 u34 u35 u36 u37 u38 u39 u40 u41 u42 u43 u44 u45 u46 u47 u48 u49 u50 u51 u52 u53 u54 u55 u56 u57 u58 u59 u60 u61 u62 u63 u64 u65 u66 u67 u68 u69 u70 u71 u72 u73 u74 u75 u76 u77 u78 u79 u80 u81 u82 u83 u84 u85 u86 u87 u88 u89 u90 u91 u92 u93 u94 u95 u96 u97 u98 u99 u100 u101 u102 u103 u104 u105 u106 u107 u108 u109 u110 : Value)
    (hPan : ∀ (c : List PanicEntry) (a : Act) (d : Tmp) (v : Value) (w : World), Q (.panic c) (a.put (some d) v) w → Q (.panic c) a w)
    (hQ : ∀ (v89 v90 v91 v92 v93 v94 v95 v96 v97 v98 v99 v100 v101 v102 v103 v104 v105 v106 v107 v108 v109 v110 : Value) (w' : World), Below wc.heap.size wc w' → Q .normal ⟨#[.slice A n0 c, u1, u2, u3, .bool true, .pointer (some ⟨S, 0, none⟩), .int .i64 (p : Int), u7, u8, u9, u10, u11, u12, u13, u14, u15, u16, u17, u18, u19, u20, u21, u22, u23, u24, u25, u26, u27, u28, u29, u30, u31, u32, u33, u34, u35, u36, u37, u38, u39, u40, u41, u42, u43, u44, u45, u46, u47, u48, u49, u50, u51, u52, u53, u54, u55, u56, u57, u58, u59, u60, u61, u62, u63, u64, u65, u66, u67, u68, u69, u70, u71, u72, u73, u74, u75, u76, u77, u78, u79, u80, u81, u82, u83, u84, u85, u86, u87, u88, v89, v90, v91, v92, v93, v94, v95, v96, v97, v98, v99, v100, v101, v102, v103, v104, v105, v106, v107, v108, v109, v110], []⟩ w') :
    Code.wp Tryd.prog (regOf 23 Tryd.f5) Q ⟨#[.slice A n0 c, u1, u2, u3, u4, .pointer (some ⟨S, 0, none⟩), .int .i64 (p : Int), u7, u8, u9, u10, u11, u12, u13, u14, u15, u16, u17, u18, u19, u20, u21, u22, u23, u24, u25, u26, u27, u28, u29, u30, u31, u32, u33, u34, u35, u36, u37, u38, u39, u40, u41, u42, u43, u44, u45, u46, u47, u48, u49, u50, u51, u52, u53, u54, u55, u56, u57, u58, u59, u60, u61, u62, u63, u64, u65, u66, u67, u68, u69, u70, u71, u72, u73, u74, u75, u76, u77, u78, u79, u80, u81, u82, u83, u84, u85, u86, u87, u88, u89, u90, u91, u92, u93, u94, u95, u96, u97, u98, u99, u100, u101, u102, u103, u104, u105, u106, u107, u108, u109, u110], []⟩ wc := by
  conv => arg 2; whnf
  have HQ := Lib.hid hQ
  have C1 := Lib.hid c1
  have C2 := Lib.hid c2
  have C3 := Lib.hid c3
  have C4 := Lib.hid c4
  have C5 := Lib.hid c5
  have BX := Lib.hid (show Below wc.heap.size wc wc.drew from ⟨rfl, rfl, rfl, Nat.le_refl _, fun _ _ => rfl⟩)
  have heq1 := fun W => eq_h D D hD hD W
  have heq2 := fun W => eq_h E E hE hE W
  simp only [beq_self_eq_true] at heq1 heq2
  obtain ⟨VD, hVD⟩ : ∃ VD : Array Value, VD = ((nums D).map (Value.int .u8)).toArray := ⟨_, rfl⟩
  obtain ⟨VE, hVE⟩ : ∃ VE : Array Value, VE = ((nums E).map (Value.int .u8)).toArray := ⟨_, rfl⟩
  rw [← hVD] at C1 C2 C5
  rw [← hVE] at C3 C4
  simp only [← hVD] at heq1
  simp only [← hVE] at heq2
  clear hQ c1 c2 c3 c4 c5 hVD hVE hD hE
  refine wp_region_held_drew (S := AnyW) (by kernel_rfl) ?_ (fun hHeld => ?_)
  · exact anyW _
  refine wpAnyH_take (i := 1) (oi := { dst := some 90, op := Go.Op.move (Go.Operand.tmp 0), type := 22, pos := "law.go:70", after := #[], guard := none }) (v := ?zv1) rfl (by kernel_rfl) (by kernel_rfl) (by kernel_rfl) (fun _ _ _ h => hPan _ _ _ _ _ h) (Or.inl ⟨by rfl, ?zy1⟩) (by assumption) ?zr1
  case zy1 => (intro w hSw; (try dsimp only at hSw); go_simp; try (with_reducible rfl))
  case zr1 =>
  try simp only [Act.put, List.setIfInBounds_toArray, List.set_cons_zero, List.set_cons_succ]
  refine wpAnyH_take (i := 2) (oi := { dst := some 91, op := Go.Op.move (Go.Operand.tmp 6), type := 3, pos := "law.go:70", after := #[], guard := none }) (v := ?zv2) rfl (by kernel_rfl) (by kernel_rfl) (by kernel_rfl) (fun _ _ _ h => hPan _ _ _ _ _ h) (Or.inl ⟨by rfl, ?zy2⟩) (by assumption) ?zr2
  case zy2 => (intro w hSw; (try dsimp only at hSw); go_simp; try (with_reducible rfl))
  case zr2 =>
  try simp only [Act.put, List.setIfInBounds_toArray, List.set_cons_zero, List.set_cons_succ]
  refine wpAnyH_take (i := 3) (oi := { dst := some 92, op := Go.Op.slice 22 (Go.Operand.tmp 90) none (some (Go.Operand.tmp 91)) none, type := 22, pos := "law.go:70", after := #[{ on := 1, ground := Go.Ground.data }, { on := 2, ground := Go.Ground.data }], guard := none }) (v := ?zv3) rfl (by kernel_rfl) (by kernel_rfl) (by kernel_rfl) (fun _ _ _ h => hPan _ _ _ _ _ h) (Or.inl ⟨by rfl, ?zy3⟩) (by assumption) ?zr3
  case zy3 => (intro w hSw; (try dsimp only at hSw); go_simp; try (with_reducible rfl))
  case zr3 =>
  try simp only [Act.put, List.setIfInBounds_toArray, List.set_cons_zero, List.set_cons_succ]
  refine wpAnyH_ready (rs := [0]) (by kernel_rfl) (by simp) ?_
  refine AllReadyH.cons (o := { dst := some 89, op := Go.Op.call { callee := Go.Callee.value (Go.Operand.func 25), args := #[Go.Operand.tmp 5], argTypes := #[46] }, type := 28, pos := "law.go:70", after := #[], guard := none }) rfl (fun K hK => ?_) (AllReadyH.nil)
  go_simp
  refine (C1.out _ BX.out).mono ?_
  rintro e w6 ⟨rfl, hb6⟩
  go_simp
  have BX := Lib.hid (BX.out.trans (hb6.mono BX.out.size))
  clear hb6
  refine hK.out _ _ ?_ (fun hHeld => ?_)
  · exact anyW _
  clear hK K
  try simp only [Act.put, List.setIfInBounds_toArray, List.set_cons_zero, List.set_cons_succ]
  refine wpAnyH_ready (rs := [4]) (by kernel_rfl) (by simp) ?_
  refine AllReadyH.cons (o := { dst := some 93, op := Go.Op.call { callee := Go.Callee.value (Go.Operand.func 12), args := #[Go.Operand.tmp 92], argTypes := #[22] }, type := 27, pos := "law.go:70", after := #[{ on := 3, ground := Go.Ground.data }, { on := 0, ground := Go.Ground.chain }], guard := none }) rfl (fun K hK => ?_) (AllReadyH.nil)
  go_simp
  refine (C2.out _ BX.out).mono ?_
  rintro e w6 ⟨rfl, hb6⟩
  go_simp
  have BX := Lib.hid (BX.out.trans (hb6.mono BX.out.size))
  clear hb6
  refine hK.out _ _ ?_ (fun hHeld => ?_)
  · exact anyW _
  clear hK K
  try simp only [Act.put, List.setIfInBounds_toArray, List.set_cons_zero, List.set_cons_succ]
  refine wpAnyH_take (i := 5) (oi := { dst := some 94, op := Go.Op.binOp Go.BinOp.eql 28 (Go.Operand.tmp 89) (Go.Operand.tmp 93) 28, type := 4, pos := "law.go:70", after := #[{ on := 0, ground := Go.Ground.data }, { on := 4, ground := Go.Ground.data }], guard := none }) (v := ?z_0_4v5) rfl (by kernel_rfl) (by kernel_rfl) (by kernel_rfl) (fun _ _ _ h => hPan _ _ _ _ _ h) (Or.inl ⟨by rfl, ?z_0_4y5⟩) (by assumption) ?z_0_4r5
  case z_0_4y5 => (intro w hSw; (try dsimp only at hSw); go_simp; try (with_reducible rfl))
  case z_0_4r5 =>
  try simp only [Act.put, List.setIfInBounds_toArray, List.set_cons_zero, List.set_cons_succ]
  refine wpAnyH_take (i := 6) (oi := { dst := some 95, op := Go.Op.move (Go.Operand.tmp 94), type := 4, pos := "law.go:70", after := #[{ on := 5, ground := Go.Ground.data }, { on := 4, ground := Go.Ground.chain }], guard := none }) (v := ?z_0_4v6) rfl (by kernel_rfl) (by kernel_rfl) (by kernel_rfl) (fun _ _ _ h => hPan _ _ _ _ _ h) (Or.inl ⟨by rfl, ?z_0_4y6⟩) (by assumption) ?z_0_4r6
  case z_0_4y6 => (intro w hSw; (try dsimp only at hSw); go_simp; try (with_reducible rfl))
  case z_0_4r6 =>
  try simp only [Act.put, List.setIfInBounds_toArray, List.set_cons_zero, List.set_cons_succ]
  refine wpAnyH_take (i := 8) (oi := { dst := some 97, op := Go.Op.move (Go.Operand.tmp 0), type := 22, pos := "law.go:70", after := #[{ on := 6, ground := Go.Ground.guard }], guard := some (6, true) }) (v := ?z_0_4v8) rfl (by kernel_rfl) (by kernel_rfl) (by kernel_rfl) (fun _ _ _ h => hPan _ _ _ _ _ h) (Or.inl ⟨by rfl, ?z_0_4y8⟩) (by assumption) ?z_0_4r8
  case z_0_4y8 => (intro w hSw; (try dsimp only at hSw); go_simp; try (with_reducible rfl))
  case z_0_4r8 =>
  try simp only [Act.put, List.setIfInBounds_toArray, List.set_cons_zero, List.set_cons_succ]
  refine wpAnyH_take (i := 9) (oi := { dst := some 98, op := Go.Op.move (Go.Operand.tmp 6), type := 3, pos := "law.go:70", after := #[{ on := 6, ground := Go.Ground.guard }], guard := some (6, true) }) (v := ?z_0_4v9) rfl (by kernel_rfl) (by kernel_rfl) (by kernel_rfl) (fun _ _ _ h => hPan _ _ _ _ _ h) (Or.inl ⟨by rfl, ?z_0_4y9⟩) (by assumption) ?z_0_4r9
  case z_0_4y9 => (intro w hSw; (try dsimp only at hSw); go_simp; try (with_reducible rfl))
  case z_0_4r9 =>
  try simp only [Act.put, List.setIfInBounds_toArray, List.set_cons_zero, List.set_cons_succ]
  refine wpAnyH_take (i := 10) (oi := { dst := some 99, op := Go.Op.slice 22 (Go.Operand.tmp 97) none (some (Go.Operand.tmp 98)) none, type := 22, pos := "law.go:70", after := #[{ on := 8, ground := Go.Ground.data }, { on := 9, ground := Go.Ground.data }, { on := 6, ground := Go.Ground.guard }], guard := some (6, true) }) (v := ?z_0_4v10) rfl (by kernel_rfl) (by kernel_rfl) (by kernel_rfl) (fun _ _ _ h => hPan _ _ _ _ _ h) (Or.inl ⟨by rfl, ?z_0_4y10⟩) (by assumption) ?z_0_4r10
  case z_0_4y10 => (intro w hSw; (try dsimp only at hSw); go_simp; try (with_reducible rfl))
  case z_0_4r10 =>
  try simp only [Act.put, List.setIfInBounds_toArray, List.set_cons_zero, List.set_cons_succ]
  refine wpAnyH_ready (rs := [7]) (by kernel_rfl) (by simp) ?_
  refine AllReadyH.cons (o := { dst := some 96, op := Go.Op.call { callee := Go.Callee.value (Go.Operand.func 26), args := #[Go.Operand.tmp 5], argTypes := #[46] }, type := 28, pos := "law.go:70", after := #[{ on := 6, ground := Go.Ground.chain }, { on := 6, ground := Go.Ground.guard }], guard := some (6, true) }) rfl (fun K hK => ?_) (AllReadyH.nil)
  go_simp
  refine (C3.out _ BX.out).mono ?_
  rintro e w6 ⟨rfl, hb6⟩
  go_simp
  have BX := Lib.hid (BX.out.trans (hb6.mono BX.out.size))
  clear hb6
  refine hK.out _ _ ?_ (fun hHeld => ?_)
  · exact anyW _
  clear hK K
  try simp only [Act.put, List.setIfInBounds_toArray, List.set_cons_zero, List.set_cons_succ]
  refine wpAnyH_ready (rs := [11]) (by kernel_rfl) (by simp) ?_
  refine AllReadyH.cons (o := { dst := some 100, op := Go.Op.call { callee := Go.Callee.value (Go.Operand.func 19), args := #[Go.Operand.tmp 99], argTypes := #[22] }, type := 27, pos := "law.go:70", after := #[{ on := 10, ground := Go.Ground.data }, { on := 7, ground := Go.Ground.chain }, { on := 6, ground := Go.Ground.guard }], guard := some (6, true) }) rfl (fun K hK => ?_) (AllReadyH.nil)
  go_simp
  refine (C4.out _ BX.out).mono ?_
  rintro e w6 ⟨rfl, hb6⟩
  go_simp
  have BX := Lib.hid (BX.out.trans (hb6.mono BX.out.size))
  clear hb6
  refine hK.out _ _ ?_ (fun hHeld => ?_)
  · exact anyW _
  clear hK K
  try simp only [Act.put, List.setIfInBounds_toArray, List.set_cons_zero, List.set_cons_succ]
  refine wpAnyH_take (i := 12) (oi := { dst := some 101, op := Go.Op.binOp Go.BinOp.eql 28 (Go.Operand.tmp 96) (Go.Operand.tmp 100) 28, type := 4, pos := "law.go:70", after := #[{ on := 7, ground := Go.Ground.data }, { on := 11, ground := Go.Ground.data }, { on := 6, ground := Go.Ground.guard }], guard := some (6, true) }) (v := ?z_0_4_7_11v12) rfl (by kernel_rfl) (by kernel_rfl) (by kernel_rfl) (fun _ _ _ h => hPan _ _ _ _ _ h) (Or.inl ⟨by rfl, ?z_0_4_7_11y12⟩) (by assumption) ?z_0_4_7_11r12
  case z_0_4_7_11y12 => (intro w hSw; (try dsimp only at hSw); go_simp; try (with_reducible rfl))
  case z_0_4_7_11r12 =>
  try simp only [Act.put, List.setIfInBounds_toArray, List.set_cons_zero, List.set_cons_succ]
  refine wpAnyH_take (i := 13) (oi := { dst := some 102, op := Go.Op.pick (Go.Operand.tmp 95) (Go.Operand.tmp 101) (Go.Operand.const (Go.Value.bool false)), type := 4, pos := "law.go:70", after := #[{ on := 6, ground := Go.Ground.data }, { on := 12, ground := Go.Ground.data }], guard := none }) (v := ?z_0_4_7_11v13) rfl (by kernel_rfl) (by kernel_rfl) (by kernel_rfl) (fun _ _ _ h => hPan _ _ _ _ _ h) (Or.inl ⟨by rfl, ?z_0_4_7_11y13⟩) (by assumption) ?z_0_4_7_11r13
  case z_0_4_7_11y13 => (intro w hSw; (try dsimp only at hSw); go_simp; try (with_reducible rfl))
  case z_0_4_7_11r13 =>
  try simp only [Act.put, List.setIfInBounds_toArray, List.set_cons_zero, List.set_cons_succ]
  refine wpAnyH_take (i := 14) (oi := { dst := some 103, op := Go.Op.move (Go.Operand.tmp 102), type := 4, pos := "law.go:70", after := #[{ on := 13, ground := Go.Ground.data }, { on := 11, ground := Go.Ground.chain }], guard := none }) (v := ?z_0_4_7_11v14) rfl (by kernel_rfl) (by kernel_rfl) (by kernel_rfl) (fun _ _ _ h => hPan _ _ _ _ _ h) (Or.inl ⟨by rfl, ?z_0_4_7_11y14⟩) (by assumption) ?z_0_4_7_11r14
  case z_0_4_7_11y14 => (intro w hSw; (try dsimp only at hSw); go_simp; try (with_reducible rfl))
  case z_0_4_7_11r14 =>
  try simp only [Act.put, List.setIfInBounds_toArray, List.set_cons_zero, List.set_cons_succ]
  refine wpAnyH_take (i := 16) (oi := { dst := some 105, op := Go.Op.move (Go.Operand.tmp 0), type := 22, pos := "law.go:70", after := #[{ on := 14, ground := Go.Ground.guard }], guard := some (14, true) }) (v := ?z_0_4_7_11v16) rfl (by kernel_rfl) (by kernel_rfl) (by kernel_rfl) (fun _ _ _ h => hPan _ _ _ _ _ h) (Or.inl ⟨by rfl, ?z_0_4_7_11y16⟩) (by assumption) ?z_0_4_7_11r16
  case z_0_4_7_11y16 => (intro w hSw; (try dsimp only at hSw); go_simp; try (with_reducible rfl))
  case z_0_4_7_11r16 =>
  try simp only [Act.put, List.setIfInBounds_toArray, List.set_cons_zero, List.set_cons_succ]
  refine wpAnyH_take (i := 17) (oi := { dst := some 106, op := Go.Op.move (Go.Operand.tmp 6), type := 3, pos := "law.go:70", after := #[{ on := 14, ground := Go.Ground.guard }], guard := some (14, true) }) (v := ?z_0_4_7_11v17) rfl (by kernel_rfl) (by kernel_rfl) (by kernel_rfl) (fun _ _ _ h => hPan _ _ _ _ _ h) (Or.inl ⟨by rfl, ?z_0_4_7_11y17⟩) (by assumption) ?z_0_4_7_11r17
  case z_0_4_7_11y17 => (intro w hSw; (try dsimp only at hSw); go_simp; try (with_reducible rfl))
  case z_0_4_7_11r17 =>
  try simp only [Act.put, List.setIfInBounds_toArray, List.set_cons_zero, List.set_cons_succ]
  refine wpAnyH_take (i := 18) (oi := { dst := some 107, op := Go.Op.slice 22 (Go.Operand.tmp 105) none (some (Go.Operand.tmp 106)) none, type := 22, pos := "law.go:70", after := #[{ on := 16, ground := Go.Ground.data }, { on := 17, ground := Go.Ground.data }, { on := 14, ground := Go.Ground.guard }], guard := some (14, true) }) (v := ?z_0_4_7_11v18) rfl (by kernel_rfl) (by kernel_rfl) (by kernel_rfl) (fun _ _ _ h => hPan _ _ _ _ _ h) (Or.inl ⟨by rfl, ?z_0_4_7_11y18⟩) (by assumption) ?z_0_4_7_11r18
  case z_0_4_7_11y18 => (intro w hSw; (try dsimp only at hSw); go_simp; try (with_reducible rfl))
  case z_0_4_7_11r18 =>
  try simp only [Act.put, List.setIfInBounds_toArray, List.set_cons_zero, List.set_cons_succ]
  refine wpAnyH_ready (rs := [15]) (by kernel_rfl) (by simp) ?_
  refine AllReadyH.cons (o := { dst := some 104, op := Go.Op.call { callee := Go.Callee.value (Go.Operand.func 25), args := #[Go.Operand.tmp 5], argTypes := #[46] }, type := 28, pos := "law.go:70", after := #[{ on := 14, ground := Go.Ground.chain }, { on := 14, ground := Go.Ground.guard }], guard := some (14, true) }) rfl (fun K hK => ?_) (AllReadyH.nil)
  go_simp
  refine (C1.out _ BX.out).mono ?_
  rintro e w6 ⟨rfl, hb6⟩
  go_simp
  have BX := Lib.hid (BX.out.trans (hb6.mono BX.out.size))
  clear hb6
  refine hK.out _ _ ?_ (fun hHeld => ?_)
  · exact anyW _
  clear hK K
  try simp only [Act.put, List.setIfInBounds_toArray, List.set_cons_zero, List.set_cons_succ]
  refine wpAnyH_ready (rs := [19]) (by kernel_rfl) (by simp) ?_
  refine AllReadyH.cons (o := { dst := some 108, op := Go.Op.call { callee := Go.Callee.value (Go.Operand.func 11), args := #[Go.Operand.tmp 107], argTypes := #[22] }, type := 28, pos := "law.go:70", after := #[{ on := 18, ground := Go.Ground.data }, { on := 15, ground := Go.Ground.chain }, { on := 14, ground := Go.Ground.guard }], guard := some (14, true) }) rfl (fun K hK => ?_) (AllReadyH.nil)
  go_simp
  refine (C5.out _ BX.out).mono ?_
  rintro e w6 ⟨rfl, hb6⟩
  go_simp
  have BX := Lib.hid (BX.out.trans (hb6.mono BX.out.size))
  clear hb6
  refine hK.out _ _ ?_ (fun hHeld => ?_)
  · exact anyW _
  clear hK K
  try simp only [Act.put, List.setIfInBounds_toArray, List.set_cons_zero, List.set_cons_succ]
  refine wpAnyH_take (i := 20) (oi := { dst := some 109, op := Go.Op.binOp Go.BinOp.eql 28 (Go.Operand.tmp 104) (Go.Operand.tmp 108) 28, type := 4, pos := "law.go:70", after := #[{ on := 15, ground := Go.Ground.data }, { on := 19, ground := Go.Ground.data }, { on := 14, ground := Go.Ground.guard }], guard := some (14, true) }) (v := ?z_0_4_7_11_15_19v20) rfl (by kernel_rfl) (by kernel_rfl) (by kernel_rfl) (fun _ _ _ h => hPan _ _ _ _ _ h) (Or.inl ⟨by rfl, ?z_0_4_7_11_15_19y20⟩) (by assumption) ?z_0_4_7_11_15_19r20
  case z_0_4_7_11_15_19y20 => (intro w hSw; (try dsimp only at hSw); go_simp; try (with_reducible rfl))
  case z_0_4_7_11_15_19r20 =>
  try simp only [Act.put, List.setIfInBounds_toArray, List.set_cons_zero, List.set_cons_succ]
  refine wpAnyH_take (i := 21) (oi := { dst := some 110, op := Go.Op.pick (Go.Operand.tmp 103) (Go.Operand.tmp 109) (Go.Operand.const (Go.Value.bool false)), type := 4, pos := "law.go:70", after := #[{ on := 14, ground := Go.Ground.data }, { on := 20, ground := Go.Ground.data }], guard := none }) (v := ?z_0_4_7_11_15_19v21) rfl (by kernel_rfl) (by kernel_rfl) (by kernel_rfl) (fun _ _ _ h => hPan _ _ _ _ _ h) (Or.inl ⟨by rfl, ?z_0_4_7_11_15_19y21⟩) (by assumption) ?z_0_4_7_11_15_19r21
  case z_0_4_7_11_15_19y21 => (intro w hSw; (try dsimp only at hSw); go_simp; try (with_reducible rfl))
  case z_0_4_7_11_15_19r21 =>
  try simp only [Act.put, List.setIfInBounds_toArray, List.set_cons_zero, List.set_cons_succ]
  refine wpAnyH_take (i := 22) (oi := { dst := some 4, op := Go.Op.assign (Go.Operand.tmp 110), type := 4, pos := "law.go:70", after := #[{ on := 21, ground := Go.Ground.data }, { on := 19, ground := Go.Ground.chain }, { on := 0, ground := Go.Ground.phase }, { on := 1, ground := Go.Ground.phase }, { on := 2, ground := Go.Ground.phase }, { on := 3, ground := Go.Ground.phase }, { on := 4, ground := Go.Ground.phase }, { on := 5, ground := Go.Ground.phase }, { on := 6, ground := Go.Ground.phase }, { on := 7, ground := Go.Ground.phase }, { on := 8, ground := Go.Ground.phase }, { on := 9, ground := Go.Ground.phase }, { on := 10, ground := Go.Ground.phase }, { on := 11, ground := Go.Ground.phase }, { on := 12, ground := Go.Ground.phase }, { on := 13, ground := Go.Ground.phase }, { on := 14, ground := Go.Ground.phase }, { on := 15, ground := Go.Ground.phase }, { on := 16, ground := Go.Ground.phase }, { on := 17, ground := Go.Ground.phase }, { on := 18, ground := Go.Ground.phase }, { on := 19, ground := Go.Ground.phase }, { on := 20, ground := Go.Ground.phase }, { on := 21, ground := Go.Ground.phase }], guard := none }) (v := ?z_0_4_7_11_15_19v22) rfl (by kernel_rfl) (by kernel_rfl) (by kernel_rfl) (fun _ _ _ h => hPan _ _ _ _ _ h) (Or.inl ⟨by rfl, ?z_0_4_7_11_15_19y22⟩) (by assumption) ?z_0_4_7_11_15_19r22
  case z_0_4_7_11_15_19y22 => (intro w hSw; (try dsimp only at hSw); go_simp; try (with_reducible rfl))
  case z_0_4_7_11_15_19r22 =>
  try simp only [Act.put, List.setIfInBounds_toArray, List.set_cons_zero, List.set_cons_succ]
  refine wpAnyH_done (by kernel_rfl) ?_ _
  exact HQ.out _ _ _ _ _ _ _ _ _ _ _ _ _ _ _ _ _ _ _ _ _ _ _ BX.out
end Go.Proofs.YtnmegdhidpkklaaDoor
