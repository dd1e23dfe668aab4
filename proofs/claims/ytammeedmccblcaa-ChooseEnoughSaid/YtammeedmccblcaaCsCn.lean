/-
  What an attempt has chosen, as a slice of its own. Conditions: at most a thousand coins.
-/
import Derived.Test.YtammeedmccblcaaCsPk
import Derived.Test.YtammeedmccblcaaCsPlac
namespace Go.Proofs.Ytammeedmccblcaa.Cs
open Go.RowKit

theorem mk0_coin (W : World) : (Instr.buildSlice 58 0 #[]).run Try.prog W = .ok (.slice (some ⟨W.heap.size, 0, none⟩) 0 0) (W.alloc (.cells #[] 75)) := by kernel_rfl
theorem nil_no (g b n c : Nat) (w : World) : (binOp BinOp.eql 58 (.slice (some ⟨g, b, none⟩) n c) (.slice none 0 0)).run Try.prog w = .ok (.bool false) w := by kernel_rfl
theorem nil_yes (w : World) : (binOp BinOp.eql 58 (.slice none 0 0) (.slice none 0 0)).run Try.prog w = .ok (.bool true) w := by kernel_rfl
theorem wpList_append_rows {ts e : TypeId} {size bytes : Nat} (hT : SlT ts e size bytes) {w : World} {ops : Array Oper} {rest : List Oper} {o : Oper} {a : Act} {Q : Exit → Act → World → Prop} (hgd : o.guard = none) (s x : Operand)
    (ho : o.op = .call { callee := .builtin .append, args := #[s, x], argTypes := #[ts, ts] })
    (base : Nat) (v : Value) (n : Nat) (xs : List Value) (hs : a.eval s = v) (hown : w.ownsRow base e size v n xs)
    (g b m c : Nat) (C : List Value) (hx : a.eval x = .slice (some ⟨g, b, none⟩) m c) (hl : C.length = m * size) (h0 : w.rangeAt g b C) (k0 : ∀ u ∈ C, u.oneCell' = true) (hb : (n + m) * bytes ≤ 140737488355328) (hm : n + m ≤ maxLen) (hbase : base ≤ w.heap.size)
    (h : ∀ v' w', w'.ownsRow base e size v' (n + m) (xs ++ C) → w.grownBy w' v.ownBlock → (v'.ownBlock = v.ownBlock ∨ v'.ownBlock = some w.heap.size) → wpList Try.prog ops Q rest (a.put o.dst v') w') :
    wpList Try.prog ops Q (o :: rest) a w := by
  refine wpList_plain hgd fun K hK => ?_
  obtain ⟨i, z, hi, hz, hsz, hby, hzs⟩ := hT.i
  obtain ⟨v', w', hrun, h2, h3, _, h5⟩ := run_append_own_at (P := Try.prog) w base ts o.type e i z size bytes hT.u hi hz hsz hby hzs hT.p v n xs hown ⟨g, b, none⟩ m c C hl
    (fun j u hu => by rw [Addr.add_mid]; exact h0 j u hu) k0 hm hb hbase
  unfold Oper.wp execOp
  simp only [ho, resolve, invoke, builtin, Sem.run_bind, Sem.run_pure, Result.andThen_ok, List.map_toArray, List.map_cons, List.map_nil, hs, hx, hrun]
  exact hK _ _ (h v' w' h2 h3 h5)
set_option maxRecDepth 100000 in
set_option maxHeartbeats 1600000 in
theorem clone_nil (w : World) : Calls Try.prog 75 #[.slice none 0 0] w fun e w' => e = .returned (.slice none 0 0) ∧ w' = w := by
  have hny := nil_yes
  go_enter Try.func75, Try.ntmps75
  go_wp2
  go_ret
  exact ⟨rfl, rfl⟩
set_option maxRecDepth 100000 in
set_option maxHeartbeats 3200000 in
theorem clone_some (g b n c : Nat) (cs : List Value) (w : World) (hl : cs.length = n * 2) (hr : w.rangeAt g b cs) (hg : g < w.heap.size) (k0 : ∀ u ∈ cs, u.oneCell' = true) (hn : n ≤ 1000) (base : Nat) (hb : base ≤ w.heap.size) :
    Calls Try.prog 75 #[.slice (some ⟨g, b, none⟩) n c] w fun e w' => ∃ v, e = .returned v ∧ w'.ownsRow base 75 2 v n cs ∧ Below w.heap.size w w' ∧ (∀ q, v.ownBlock = some q → w.heap.size ≤ q) := by
  obtain ⟨w1, hw1⟩ : ∃ z, z = w.alloc (.cells #[] 75) := ⟨_, rfl⟩
  have b1 : Below w.heap.size w w1 := by rw [hw1]; exact (Below.refl _ _).alloc (Nat.le_refl _) _
  have O1 := Lib.hid (show w1.ownsRow base 75 2 (.slice (some ⟨w.heap.size, 0, none⟩) 0 0) 0 [] by rw [hw1]; exact World.ownsRow_made w #[] 0 hb (by unfold maxLen; omega) rfl)
  have R1 := Lib.hid (show w1.rangeAt g b cs from fun j v hv => (b1.cell (p := ⟨g, _, none⟩) hg).trans (hr j v hv))
  have B1 := Lib.hid b1
  have HL := Lib.hid hl
  have K0 := Lib.hid k0
  have M1 := Lib.hid (show (0 + n) * 16 ≤ 140737488355328 by omega)
  have N1 := Lib.hid (show 0 + n ≤ maxLen by unfold maxLen; omega)
  have G1 := Lib.hid (show base ≤ w1.heap.size from Nat.le_trans hb b1.size)
  have hnn := nil_no g b n c
  clear hl hr k0 b1
  go_enter Try.func75, Try.ntmps75
  go_wp2_with (first
    | (at_builtin; rw [← hw1]; refine wpList_append_rows slt_coin rfl (.tmp 5) (.tmp 6) rfl base _ _ _ rfl O1.out g b n c cs rfl HL.out R1.out K0.out M1.out N1.out G1.out ?_; intro v2 w2 hown2 hg2 ho2; obtain ⟨A2, c2, rfl⟩ := own_form hown2))
  go_ret
  have hs1 : w.heap.size < w1.heap.size := by rw [hw1]; simp
  refine ⟨.slice A2 n c2, rfl, ?_, B1.out.grown hg2 B1.out.size (fun k hk => by injection hk with hk; show w.heap.size ≤ k; exact Nat.le_of_eq hk), fun q hq => ?_⟩
  · rw [Nat.zero_add, List.nil_append] at hown2
    exact hown2
  · rw [Nat.zero_add] at ho2
    rcases ho2 with h | h
    · rw [h] at hq
      injection hq with hq
      exact Nat.le_of_eq hq
    · rw [h] at hq
      injection hq with hq
      omega
theorem cn_one (P : List Cn) : ∀ u ∈ P.flatMap cnC, u.oneCell' = true := fun u hu => by
  obtain ⟨c, _, h⟩ := List.mem_flatMap.1 hu
  unfold cnC at h
  simp only [List.mem_cons, List.not_mem_nil, or_false] at h
  rcases h with rfl | rfl <;> rfl
set_option maxRecDepth 100000 in
set_option maxHeartbeats 12800000 in
theorem acoins_any (G : Nat) (need : Int) (k : Nat) (S : Att) (pk : Value) (w : World) (hk : k ≤ 999) (hS : AtOk k S) (hv : VRow w G 102 (atS need pk S)) (ho : w.ownsRow (G + 1) 75 2 pk S.P.length (S.P.flatMap cnC)) :
    Calls Try.prog 58 #[.pointer (some ⟨G, 0, none⟩)] w fun e w' => ∃ v, e = .returned v ∧ w'.ownsRow w.heap.size 75 2 v (coinsA S).length ((coinsA S).flatMap cnC) ∧ Below w.heap.size w w' := by
  obtain ⟨P, fi, la, m⟩ := S
  have hPl := hS.n
  have hfi := hS.f
  unfold atS at hv
  unfold coinsA
  dsimp only at hv ho hPl hfi ⊢
  obtain ⟨s, hs⟩ : ∃ z, z = sumD P := ⟨_, rfl⟩
  rw [← hs] at hv
  have hl1 : (P.take fi ++ [la]).length = fi + 1 := by rw [List.length_append, List.length_take, Nat.min_eq_left hfi]; rfl
  have hl2 : (P.take fi ++ [la]).flatMap cnC = (P.take fi).flatMap cnC ++ [.int .i64 la.1, .int .i64 (la.2 : Int)] := by rw [List.flatMap_append]; rfl
  have HCL1 := Lib.hid hl1
  have HCL2 := Lib.hid hl2
  have GW := Lib.hid hv.lt
  have K4 := Lib.hid (show ∀ v ∈ [Value.int .i64 la.1, .int .i64 (la.2 : Int)], v.oneCell' = true from fun v hv => by simp only [List.mem_cons, List.not_mem_nil, or_false] at hv; rcases hv with rfl | rfl <;> rfl)
  have M4 := Lib.hid (show (fi + 1) * 16 ≤ 140737488355328 by omega)
  have N4 := Lib.hid (show fi + 1 ≤ maxLen by unfold maxLen; omega)
  have BA := Lib.hid (show Below w.heap.size w.drew (w.drew.alloc (.cells #[Value.int .i64 la.1, .int .i64 (la.2 : Int)] 75)) from (Below.refl w.heap.size w.drew).alloc (show w.heap.size ≤ w.drew.heap.size from Nat.le_refl _) _)
  clear hl1 hl2 hS
  rcases ho.2 with ⟨hpk, hP0⟩ | ⟨g, cp, cur, hpk, hgb, hgw, hnc, hcm, _, _⟩
  · as_aux_lemma =>
    subst hpk
    obtain rfl : P = [] := List.length_eq_zero_iff.1 hP0
    obtain rfl : fi = 0 := by simpa using hfi
    have V1 := Lib.hid (show VRow w.drew G 102 _ from hv)
    have VA := Lib.hid (VRow.below (w := w.drew) V1.out BA.out GW.out)
    have hcl : ∀ W, Below w.heap.size w.drew W → Calls Try.prog 75 #[.slice none 0 0] W fun e w' => ∃ v, e = .returned v ∧ w'.ownsRow w.heap.size 75 2 v 0 (([] : List Cn).take 0 |>.flatMap cnC) ∧ Below W.heap.size W w' := fun W hb => by
      refine (clone_nil W).mono ?_
      rintro e w' ⟨rfl, rfl⟩
      exact ⟨_, rfl, World.ownsRow_nil _ _ _ _, Below.refl _ _⟩
    have HCL := Lib.hid hcl
    clear hv ho hP0 hfi hPl hcl hs
    go_enter Try.func58, Try.ntmps58
    go_upto_region 1 with fail
    refine wp_region_held_drew (S := (fun w' => VRow w' G 102 (atC need (.slice none 0 0) s 0 la m))) (by kernel_rfl) ?_ (fun hHeld => ?_)
    · exact V1.out
    refine wpAnyH_take (i := 0) (oi := { dst := some 3, op := Go.Op.move (Go.Operand.tmp 0), type := 99, pos := "throw.go:102", after := #[], guard := none }) (v := ?av0) rfl (by kernel_rfl) (by kernel_rfl) (by kernel_rfl) (fun _ _ _ h => h) (Or.inl ⟨by rfl, ?ay0⟩) (by assumption) ?ar0
    case ay0 => (intro w hSw; (try dsimp only at hSw); go_simp; try (with_reducible rfl))
    case ar0 =>
    try simp only [Act.put, List.setIfInBounds_toArray, List.set_cons_zero, List.set_cons_succ]
    refine wpAnyH_take (i := 1) (oi := { dst := some 4, op := Go.Op.nilCheck (Go.Operand.tmp 3), type := 0, pos := "throw.go:102", after := #[{ on := 0, ground := Go.Ground.data }], guard := none }) (v := ?av1) rfl (by kernel_rfl) (by kernel_rfl) (by kernel_rfl) (fun _ _ _ h => h) (Or.inl ⟨by rfl, ?ay1⟩) (by assumption) ?ar1
    case ay1 => (intro w hSw; (try dsimp only at hSw); go_simp; try (with_reducible rfl))
    case ar1 =>
    try simp only [Act.put, List.setIfInBounds_toArray, List.set_cons_zero, List.set_cons_succ]
    refine wpAnyH_take (i := 2) (oi := { dst := some 5, op := Go.Op.fieldAddr 102 (Go.Operand.tmp 4) 1, type := 0, pos := "throw.go:102", after := #[{ on := 1, ground := Go.Ground.data }], guard := none }) (v := ?av2) rfl (by kernel_rfl) (by kernel_rfl) (by kernel_rfl) (fun _ _ _ h => h) (Or.inl ⟨by rfl, ?ay2⟩) (by assumption) ?ar2
    case ay2 => (intro w hSw; (try dsimp only at hSw); go_simp; try (with_reducible rfl))
    case ar2 =>
    try simp only [Act.put, List.setIfInBounds_toArray, List.set_cons_zero, List.set_cons_succ]
    refine wpAnyH_take (i := 3) (oi := { dst := some 6, op := Go.Op.load 58 (Go.Operand.tmp 5), type := 58, pos := "throw.go:102", after := #[{ on := 2, ground := Go.Ground.data }], guard := none }) (v := (.slice none 0 0)) rfl (by kernel_rfl) (by kernel_rfl) (by kernel_rfl) (fun _ _ _ h => h) (yieldsIf_load1 (by rfl) 58 (.tmp 5) rfl (b := G) (o := 1) rfl (fun w => by kernel_rfl) (fun w h => VRow.cell h rfl)) (by assumption) ?_
    try simp only [Act.put, List.setIfInBounds_toArray, List.set_cons_zero, List.set_cons_succ]
    refine wpAnyH_take (i := 4) (oi := { dst := some 7, op := Go.Op.move (Go.Operand.tmp 0), type := 99, pos := "throw.go:102", after := #[], guard := none }) (v := ?av4) rfl (by kernel_rfl) (by kernel_rfl) (by kernel_rfl) (fun _ _ _ h => h) (Or.inl ⟨by rfl, ?ay4⟩) (by assumption) ?ar4
    case ay4 => (intro w hSw; (try dsimp only at hSw); go_simp; try (with_reducible rfl))
    case ar4 =>
    try simp only [Act.put, List.setIfInBounds_toArray, List.set_cons_zero, List.set_cons_succ]
    refine wpAnyH_take (i := 5) (oi := { dst := some 8, op := Go.Op.nilCheck (Go.Operand.tmp 7), type := 0, pos := "throw.go:102", after := #[{ on := 4, ground := Go.Ground.data }], guard := none }) (v := ?av5) rfl (by kernel_rfl) (by kernel_rfl) (by kernel_rfl) (fun _ _ _ h => h) (Or.inl ⟨by rfl, ?ay5⟩) (by assumption) ?ar5
    case ay5 => (intro w hSw; (try dsimp only at hSw); go_simp; try (with_reducible rfl))
    case ar5 =>
    try simp only [Act.put, List.setIfInBounds_toArray, List.set_cons_zero, List.set_cons_succ]
    refine wpAnyH_take (i := 6) (oi := { dst := some 9, op := Go.Op.fieldAddr 102 (Go.Operand.tmp 8) 3, type := 0, pos := "throw.go:102", after := #[{ on := 5, ground := Go.Ground.data }], guard := none }) (v := ?av6) rfl (by kernel_rfl) (by kernel_rfl) (by kernel_rfl) (fun _ _ _ h => h) (Or.inl ⟨by rfl, ?ay6⟩) (by assumption) ?ar6
    case ay6 => (intro w hSw; (try dsimp only at hSw); go_simp; try (with_reducible rfl))
    case ar6 =>
    try simp only [Act.put, List.setIfInBounds_toArray, List.set_cons_zero, List.set_cons_succ]
    refine wpAnyH_take (i := 7) (oi := { dst := some 10, op := Go.Op.load 3 (Go.Operand.tmp 9), type := 3, pos := "throw.go:102", after := #[{ on := 6, ground := Go.Ground.data }], guard := none }) (v := (.int .i64 (0 : Int))) rfl (by kernel_rfl) (by kernel_rfl) (by kernel_rfl) (fun _ _ _ h => h) (yieldsIf_load1 (by rfl) 3 (.tmp 9) rfl (b := G) (o := 3) rfl (fun w => by kernel_rfl) (fun w h => VRow.cell h rfl)) (by assumption) ?_
    try simp only [Act.put, List.setIfInBounds_toArray, List.set_cons_zero, List.set_cons_succ]
    refine wpAnyH_take (i := 8) (oi := { dst := some 11, op := Go.Op.slice 58 (Go.Operand.tmp 6) none (some (Go.Operand.tmp 10)) none, type := 58, pos := "throw.go:102", after := #[{ on := 3, ground := Go.Ground.data }, { on := 7, ground := Go.Ground.data }], guard := none }) (v := (.slice none 0 0)) rfl (by kernel_rfl) (by kernel_rfl) (by kernel_rfl) (fun _ _ _ h => h) (Or.inl ⟨by rfl, ?ay8⟩) (by assumption) ?ar8
    case ay8 => (intro w hSw; (try dsimp only at hSw); go_simp; try (with_reducible rfl))
    case ar8 =>
    try simp only [Act.put, List.setIfInBounds_toArray, List.set_cons_zero, List.set_cons_succ]
    refine wpAnyH_take (i := 10) (oi := { dst := some 13, op := Go.Op.move (Go.Operand.tmp 0), type := 99, pos := "throw.go:102", after := #[], guard := none }) (v := ?av10) rfl (by kernel_rfl) (by kernel_rfl) (by kernel_rfl) (fun _ _ _ h => h) (Or.inl ⟨by rfl, ?ay10⟩) (by assumption) ?ar10
    case ay10 => (intro w hSw; (try dsimp only at hSw); go_simp; try (with_reducible rfl))
    case ar10 =>
    try simp only [Act.put, List.setIfInBounds_toArray, List.set_cons_zero, List.set_cons_succ]
    refine wpAnyH_take (i := 11) (oi := { dst := some 14, op := Go.Op.nilCheck (Go.Operand.tmp 13), type := 0, pos := "throw.go:102", after := #[{ on := 10, ground := Go.Ground.data }], guard := none }) (v := ?av11) rfl (by kernel_rfl) (by kernel_rfl) (by kernel_rfl) (fun _ _ _ h => h) (Or.inl ⟨by rfl, ?ay11⟩) (by assumption) ?ar11
    case ay11 => (intro w hSw; (try dsimp only at hSw); go_simp; try (with_reducible rfl))
    case ar11 =>
    try simp only [Act.put, List.setIfInBounds_toArray, List.set_cons_zero, List.set_cons_succ]
    refine wpAnyH_take (i := 12) (oi := { dst := some 15, op := Go.Op.fieldAddr 102 (Go.Operand.tmp 14) 4, type := 0, pos := "throw.go:102", after := #[{ on := 11, ground := Go.Ground.data }], guard := none }) (v := ?av12) rfl (by kernel_rfl) (by kernel_rfl) (by kernel_rfl) (fun _ _ _ h => h) (Or.inl ⟨by rfl, ?ay12⟩) (by assumption) ?ar12
    case ay12 => (intro w hSw; (try dsimp only at hSw); go_simp; try (with_reducible rfl))
    case ar12 =>
    try simp only [Act.put, List.setIfInBounds_toArray, List.set_cons_zero, List.set_cons_succ]
    refine wpAnyH_take (i := 13) (oi := { dst := some 16, op := Go.Op.load 75 (Go.Operand.tmp 15), type := 75, pos := "throw.go:102", after := #[{ on := 12, ground := Go.Ground.data }], guard := none }) (v := (.agg #[.int .i64 la.1, .int .i64 (la.2 : Int)])) rfl (by kernel_rfl) (by kernel_rfl) (by kernel_rfl) (fun _ _ _ h => h) (yieldsIf_load_mid (by rfl) 75 (.tmp 15) rfl G 4 rfl [.int .i64 la.1, .int .i64 (la.2 : Int)] _ (fun w' h => VRow.range h (fun q v hv => by match q, hv with | 0, hv => exact hv | 1, hv => exact hv)) Try.underlying75 rfl (by kernel_rfl)) (by assumption) ?_
    try simp only [Act.put, List.setIfInBounds_toArray, List.set_cons_zero, List.set_cons_succ]
    refine wpAnyH_ready (rs := [9, 14]) (by kernel_rfl) (by simp) ?_
    refine AllReadyH.cons (o := { dst := some 12, op := Go.Op.call { callee := Go.Callee.value (Go.Operand.func 75), args := #[Go.Operand.tmp 11], argTypes := #[58] }, type := 58, pos := "throw.go:102", after := #[{ on := 8, ground := Go.Ground.data }], guard := none }) rfl (fun K hK => ?_) (AllReadyH.cons (o := { dst := some 17, op := Go.Op.buildSlice 58 1 #[(0, Go.Operand.tmp 16)], type := 58, pos := "throw.go:102", after := #[{ on := 13, ground := Go.Ground.data }], guard := none }) rfl (fun K hK => ?_) (AllReadyH.nil))
    · skip
      go_simp
      refine (HCL.out _ (Below.refl _ _)).mono ?_
      rintro e w5 ⟨v5, rfl, O5, B5⟩
      obtain ⟨A5, c5, rfl⟩ := own_form O5
      go_simp
      refine hK.out _ _ ?_ (fun hHeld => ?_)
      · exact V1.out.below B5 V1.out.lt
      clear hK K
      try simp only [Act.put, List.setIfInBounds_toArray, List.set_cons_zero, List.set_cons_succ]
      refine wpAnyH_ready (rs := [14]) (by kernel_rfl) (by simp) ?_
      refine AllReadyH.cons (o := { dst := some 17, op := Go.Op.buildSlice 58 1 #[(0, Go.Operand.tmp 16)], type := 58, pos := "throw.go:102", after := #[{ on := 13, ground := Go.Ground.data }], guard := none }) rfl (fun K hK => ?_) (AllReadyH.nil)
      refine wp_buildSlice _ _ _ rfl _ _ (by simp only [List.map_toArray, List.map_cons, List.map_nil]; exact one_coin _ _ _) ?_
      refine hK.out _ _ ?_ (fun hHeld => ?_)
      · exact (V1.out.below B5 V1.out.lt).below ((Below.refl _ _).alloc (Nat.le_refl _) _) (Nat.lt_of_lt_of_le V1.out.lt B5.size)
      clear hK K
      try simp only [Act.put, List.setIfInBounds_toArray, List.set_cons_zero, List.set_cons_succ]
      refine wpAnyH_ready (rs := [15]) (by kernel_rfl) (by simp) ?_
      refine AllReadyH.cons (o := { dst := some 18, op := Go.Op.call { callee := Go.Callee.builtin Go.Builtin.append, args := #[Go.Operand.tmp 12, Go.Operand.tmp 17], argTypes := #[58, 58] }, type := 58, pos := "throw.go:102", after := #[{ on := 9, ground := Go.Ground.data }, { on := 14, ground := Go.Ground.data }, { on := 9, ground := Go.Ground.chain }], guard := none }) rfl (fun K hK => ?_) (AllReadyH.nil)
      refine op_append_row slt_coin (.tmp 12) (.tmp 17) rfl w.heap.size _ _ _ rfl (O5.alloc _) _ 1 [.int .i64 la.1, .int .i64 (la.2 : Int)] rfl rfl (VRow.range (VRow.new w5 75 [.int .i64 la.1, .int .i64 (la.2 : Int)]) (fun q v hv => by rw [Nat.zero_add]; exact hv)) K4.out M4.out N4.out (Nat.le_trans (show w.heap.size ≤ w5.heap.size from B5.size) (by simp)) ?_
      intro v1 w6 hown1 hg1 ho1
      obtain ⟨A1, c1, rfl⟩ := own_form hown1
      have V6 := vrow_grown ((V1.out.below B5 V1.out.lt).below ((Below.refl _ _).alloc (Nat.le_refl _) (.cells #[.int .i64 la.1, .int .i64 (la.2 : Int)] 75)) (Nat.lt_of_lt_of_le V1.out.lt B5.size)) (O5.alloc (.cells #[.int .i64 la.1, .int .i64 (la.2 : Int)] 75)) hg1 GW.out
      have B6 := ((B5.alloc B5.size (.cells #[.int .i64 la.1, .int .i64 (la.2 : Int)] 75)).grown hg1 (Nat.le_trans B5.size (by simp)) (fun k hk => (O5.lt k hk).1))
      refine hK.out _ _ ?_ (fun hHeld => ?_)
      · exact V6
      clear hK K
      try simp only [Act.put, List.setIfInBounds_toArray, List.set_cons_zero, List.set_cons_succ]
      refine wpAnyH_take (i := 16) (oi := { dst := some 2, op := Go.Op.assign (Go.Operand.tmp 18), type := 58, pos := "throw.go:102", after := #[{ on := 15, ground := Go.Ground.data }, { on := 15, ground := Go.Ground.chain }, { on := 0, ground := Go.Ground.phase }, { on := 1, ground := Go.Ground.phase }, { on := 2, ground := Go.Ground.phase }, { on := 3, ground := Go.Ground.phase }, { on := 4, ground := Go.Ground.phase }, { on := 5, ground := Go.Ground.phase }, { on := 6, ground := Go.Ground.phase }, { on := 7, ground := Go.Ground.phase }, { on := 8, ground := Go.Ground.phase }, { on := 9, ground := Go.Ground.phase }, { on := 10, ground := Go.Ground.phase }, { on := 11, ground := Go.Ground.phase }, { on := 12, ground := Go.Ground.phase }, { on := 13, ground := Go.Ground.phase }, { on := 14, ground := Go.Ground.phase }, { on := 15, ground := Go.Ground.phase }], guard := none }) (v := ?a_9_14_15v16) rfl (by kernel_rfl) (by kernel_rfl) (by kernel_rfl) (fun _ _ _ h => h) (Or.inl ⟨by rfl, ?a_9_14_15y16⟩) (by assumption) ?a_9_14_15r16
      case a_9_14_15y16 => (intro w hSw; (try dsimp only at hSw); go_simp; try (with_reducible rfl))
      case a_9_14_15r16 =>
      try simp only [Act.put, List.setIfInBounds_toArray, List.set_cons_zero, List.set_cons_succ]
      refine wpAnyH_done (by kernel_rfl) ?_ _
      go_wp2_with fail
      go_ret
      exact ⟨.slice A1 (0 + 1) c1, rfl, by rw [HCL1.out, HCL2.out]; exact hown1, (Below.refl w.heap.size w).drew.trans B6⟩
    · skip
      refine wp_buildSlice _ _ _ rfl _ _ (by simp only [List.map_toArray, List.map_cons, List.map_nil]; exact one_coin _ _ _) ?_
      refine hK.out _ _ ?_ (fun hHeld => ?_)
      · exact VA.out
      clear hK K
      try simp only [Act.put, List.setIfInBounds_toArray, List.set_cons_zero, List.set_cons_succ]
      refine wpAnyH_ready (rs := [9]) (by kernel_rfl) (by simp) ?_
      refine AllReadyH.cons (o := { dst := some 12, op := Go.Op.call { callee := Go.Callee.value (Go.Operand.func 75), args := #[Go.Operand.tmp 11], argTypes := #[58] }, type := 58, pos := "throw.go:102", after := #[{ on := 8, ground := Go.Ground.data }], guard := none }) rfl (fun K hK => ?_) (AllReadyH.nil)
      go_simp
      refine (HCL.out _ BA.out).mono ?_
      rintro e w5 ⟨v5, rfl, O5, B5⟩
      obtain ⟨A5, c5, rfl⟩ := own_form O5
      go_simp
      refine hK.out _ _ ?_ (fun hHeld => ?_)
      · exact VA.out.below B5 (Nat.lt_trans GW.out (by simp))
      clear hK K
      try simp only [Act.put, List.setIfInBounds_toArray, List.set_cons_zero, List.set_cons_succ]
      refine wpAnyH_ready (rs := [15]) (by kernel_rfl) (by simp) ?_
      refine AllReadyH.cons (o := { dst := some 18, op := Go.Op.call { callee := Go.Callee.builtin Go.Builtin.append, args := #[Go.Operand.tmp 12, Go.Operand.tmp 17], argTypes := #[58, 58] }, type := 58, pos := "throw.go:102", after := #[{ on := 9, ground := Go.Ground.data }, { on := 14, ground := Go.Ground.data }, { on := 9, ground := Go.Ground.chain }], guard := none }) rfl (fun K hK => ?_) (AllReadyH.nil)
      refine op_append_row slt_coin (.tmp 12) (.tmp 17) rfl w.heap.size _ _ _ rfl O5 _ 1 [.int .i64 la.1, .int .i64 (la.2 : Int)] rfl rfl (fun j v hv => (B5.cell (p := ⟨w.heap.size, 0 + j, none⟩) (show w.heap.size < (w.drew.alloc (.cells #[Value.int .i64 la.1, .int .i64 (la.2 : Int)] 75)).heap.size by simp)).trans (VRow.range (VRow.new w.drew 75 [.int .i64 la.1, .int .i64 (la.2 : Int)]) (fun q v hv => by rw [Nat.zero_add]; exact hv) j v hv)) K4.out M4.out N4.out (show w.heap.size ≤ w5.heap.size from Nat.le_trans (by simp) B5.size) ?_
      intro v1 w6 hown1 hg1 ho1
      obtain ⟨A1, c1, rfl⟩ := own_form hown1
      have V6 := vrow_grown (VRow.below (VA.out.below B5 (Nat.lt_trans GW.out (by simp))) (Below.refl w5.heap.size w5) (Nat.lt_of_lt_of_le GW.out (Nat.le_trans (by simp) B5.size))) O5 hg1 GW.out
      have B6 := ((BA.out.trans (B5.mono (by simp))).grown hg1 (show w.heap.size ≤ w5.heap.size from Nat.le_trans (by simp) B5.size) (fun k hk => (O5.lt k hk).1))
      refine hK.out _ _ ?_ (fun hHeld => ?_)
      · exact V6
      clear hK K
      try simp only [Act.put, List.setIfInBounds_toArray, List.set_cons_zero, List.set_cons_succ]
      refine wpAnyH_take (i := 16) (oi := { dst := some 2, op := Go.Op.assign (Go.Operand.tmp 18), type := 58, pos := "throw.go:102", after := #[{ on := 15, ground := Go.Ground.data }, { on := 15, ground := Go.Ground.chain }, { on := 0, ground := Go.Ground.phase }, { on := 1, ground := Go.Ground.phase }, { on := 2, ground := Go.Ground.phase }, { on := 3, ground := Go.Ground.phase }, { on := 4, ground := Go.Ground.phase }, { on := 5, ground := Go.Ground.phase }, { on := 6, ground := Go.Ground.phase }, { on := 7, ground := Go.Ground.phase }, { on := 8, ground := Go.Ground.phase }, { on := 9, ground := Go.Ground.phase }, { on := 10, ground := Go.Ground.phase }, { on := 11, ground := Go.Ground.phase }, { on := 12, ground := Go.Ground.phase }, { on := 13, ground := Go.Ground.phase }, { on := 14, ground := Go.Ground.phase }, { on := 15, ground := Go.Ground.phase }], guard := none }) (v := ?a_14_9_15v16) rfl (by kernel_rfl) (by kernel_rfl) (by kernel_rfl) (fun _ _ _ h => h) (Or.inl ⟨by rfl, ?a_14_9_15y16⟩) (by assumption) ?a_14_9_15r16
      case a_14_9_15y16 => (intro w hSw; (try dsimp only at hSw); go_simp; try (with_reducible rfl))
      case a_14_9_15r16 =>
      try simp only [Act.put, List.setIfInBounds_toArray, List.set_cons_zero, List.set_cons_succ]
      refine wpAnyH_done (by kernel_rfl) ?_ _
      go_wp2_with fail
      go_ret
      exact ⟨.slice A1 (0 + 1) c1, rfl, by rw [HCL1.out, HCL2.out]; exact hown1, (Below.refl w.heap.size w).drew.trans B6⟩
  · as_aux_lemma =>
    subst hpk
    obtain ⟨nP, hnP⟩ : ∃ z, z = P.length := ⟨_, rfl⟩
    rw [← hnP] at hv hnc hPl hfi ho
    have V1 := Lib.hid (show VRow w.drew G 102 _ from hv)
    have VA := Lib.hid (VRow.below (w := w.drew) V1.out BA.out GW.out)
    have hsl0 : (0 : Int) ≤ (fi : Int) := by omega
    have hsl1 : (fi : Int) ≤ (cp : Int) := by omega
    have hlt : g < w.heap.size := (Array.getElem?_eq_some_iff.1 hgw).1
    have hrg : w.rangeAt g 0 ((P.take fi).flatMap cnC) := fun j v hv => by
      have q := ho.cells (g := g) rfl j v (by rw [← flat_take cnC 2 P (fun _ _ => rfl) fi, List.getElem?_take] at hv; split at hv; exact hv; cases hv)
      have hadd : (⟨g, 0, none⟩ : Addr).add j = ⟨g, 0 + j, none⟩ := by unfold Addr.add; split <;> simp_all
      rw [← hadd]
      exact q
    have hcl : ∀ W, Below w.heap.size w.drew W → Calls Try.prog 75 #[.slice (some ⟨g, 0, none⟩) fi cp] W fun e w' => ∃ v, e = .returned v ∧ w'.ownsRow w.heap.size 75 2 v fi ((P.take fi).flatMap cnC) ∧ Below W.heap.size W w' := fun W hb => by
      refine (clone_some g 0 fi cp _ W ?_ (fun j v hv => (hb.cell (p := ⟨g, _, none⟩) hlt).trans (hrg j v hv)) (Nat.lt_of_lt_of_le hlt hb.size) (cn_one _) (by omega) w.heap.size hb.size).mono ?_
      · rw [flat_len cnC 2 _ (fun _ _ => rfl), List.length_take, Nat.min_eq_left (by omega)]
      · rintro e w' ⟨v, rfl, h1, h2, _⟩
        exact ⟨v, rfl, h1, h2⟩
    have HCL := Lib.hid hcl
    clear hv ho hPl hcl hs hrg hgw hcm hnc
    go_enter Try.func58, Try.ntmps58
    go_upto_region 1 with fail
    refine wp_region_held_drew (S := (fun w' => VRow w' G 102 (atC need (.slice (some ⟨g, 0, none⟩) nP cp) s fi la m))) (by kernel_rfl) ?_ (fun hHeld => ?_)
    · exact V1.out
    refine wpAnyH_take (i := 0) (oi := { dst := some 3, op := Go.Op.move (Go.Operand.tmp 0), type := 99, pos := "throw.go:102", after := #[], guard := none }) (v := ?bv0) rfl (by kernel_rfl) (by kernel_rfl) (by kernel_rfl) (fun _ _ _ h => h) (Or.inl ⟨by rfl, ?by0⟩) (by assumption) ?br0
    case by0 => (intro w hSw; (try dsimp only at hSw); go_simp; try (with_reducible rfl))
    case br0 =>
    try simp only [Act.put, List.setIfInBounds_toArray, List.set_cons_zero, List.set_cons_succ]
    refine wpAnyH_take (i := 1) (oi := { dst := some 4, op := Go.Op.nilCheck (Go.Operand.tmp 3), type := 0, pos := "throw.go:102", after := #[{ on := 0, ground := Go.Ground.data }], guard := none }) (v := ?bv1) rfl (by kernel_rfl) (by kernel_rfl) (by kernel_rfl) (fun _ _ _ h => h) (Or.inl ⟨by rfl, ?by1⟩) (by assumption) ?br1
    case by1 => (intro w hSw; (try dsimp only at hSw); go_simp; try (with_reducible rfl))
    case br1 =>
    try simp only [Act.put, List.setIfInBounds_toArray, List.set_cons_zero, List.set_cons_succ]
    refine wpAnyH_take (i := 2) (oi := { dst := some 5, op := Go.Op.fieldAddr 102 (Go.Operand.tmp 4) 1, type := 0, pos := "throw.go:102", after := #[{ on := 1, ground := Go.Ground.data }], guard := none }) (v := ?bv2) rfl (by kernel_rfl) (by kernel_rfl) (by kernel_rfl) (fun _ _ _ h => h) (Or.inl ⟨by rfl, ?by2⟩) (by assumption) ?br2
    case by2 => (intro w hSw; (try dsimp only at hSw); go_simp; try (with_reducible rfl))
    case br2 =>
    try simp only [Act.put, List.setIfInBounds_toArray, List.set_cons_zero, List.set_cons_succ]
    refine wpAnyH_take (i := 3) (oi := { dst := some 6, op := Go.Op.load 58 (Go.Operand.tmp 5), type := 58, pos := "throw.go:102", after := #[{ on := 2, ground := Go.Ground.data }], guard := none }) (v := (.slice (some ⟨g, 0, none⟩) nP cp)) rfl (by kernel_rfl) (by kernel_rfl) (by kernel_rfl) (fun _ _ _ h => h) (yieldsIf_load1 (by rfl) 58 (.tmp 5) rfl (b := G) (o := 1) rfl (fun w => by kernel_rfl) (fun w h => VRow.cell h rfl)) (by assumption) ?_
    try simp only [Act.put, List.setIfInBounds_toArray, List.set_cons_zero, List.set_cons_succ]
    refine wpAnyH_take (i := 4) (oi := { dst := some 7, op := Go.Op.move (Go.Operand.tmp 0), type := 99, pos := "throw.go:102", after := #[], guard := none }) (v := ?bv4) rfl (by kernel_rfl) (by kernel_rfl) (by kernel_rfl) (fun _ _ _ h => h) (Or.inl ⟨by rfl, ?by4⟩) (by assumption) ?br4
    case by4 => (intro w hSw; (try dsimp only at hSw); go_simp; try (with_reducible rfl))
    case br4 =>
    try simp only [Act.put, List.setIfInBounds_toArray, List.set_cons_zero, List.set_cons_succ]
    refine wpAnyH_take (i := 5) (oi := { dst := some 8, op := Go.Op.nilCheck (Go.Operand.tmp 7), type := 0, pos := "throw.go:102", after := #[{ on := 4, ground := Go.Ground.data }], guard := none }) (v := ?bv5) rfl (by kernel_rfl) (by kernel_rfl) (by kernel_rfl) (fun _ _ _ h => h) (Or.inl ⟨by rfl, ?by5⟩) (by assumption) ?br5
    case by5 => (intro w hSw; (try dsimp only at hSw); go_simp; try (with_reducible rfl))
    case br5 =>
    try simp only [Act.put, List.setIfInBounds_toArray, List.set_cons_zero, List.set_cons_succ]
    refine wpAnyH_take (i := 6) (oi := { dst := some 9, op := Go.Op.fieldAddr 102 (Go.Operand.tmp 8) 3, type := 0, pos := "throw.go:102", after := #[{ on := 5, ground := Go.Ground.data }], guard := none }) (v := ?bv6) rfl (by kernel_rfl) (by kernel_rfl) (by kernel_rfl) (fun _ _ _ h => h) (Or.inl ⟨by rfl, ?by6⟩) (by assumption) ?br6
    case by6 => (intro w hSw; (try dsimp only at hSw); go_simp; try (with_reducible rfl))
    case br6 =>
    try simp only [Act.put, List.setIfInBounds_toArray, List.set_cons_zero, List.set_cons_succ]
    refine wpAnyH_take (i := 7) (oi := { dst := some 10, op := Go.Op.load 3 (Go.Operand.tmp 9), type := 3, pos := "throw.go:102", after := #[{ on := 6, ground := Go.Ground.data }], guard := none }) (v := (.int .i64 (fi : Int))) rfl (by kernel_rfl) (by kernel_rfl) (by kernel_rfl) (fun _ _ _ h => h) (yieldsIf_load1 (by rfl) 3 (.tmp 9) rfl (b := G) (o := 3) rfl (fun w => by kernel_rfl) (fun w h => VRow.cell h rfl)) (by assumption) ?_
    try simp only [Act.put, List.setIfInBounds_toArray, List.set_cons_zero, List.set_cons_succ]
    refine wpAnyH_take (i := 8) (oi := { dst := some 11, op := Go.Op.slice 58 (Go.Operand.tmp 6) none (some (Go.Operand.tmp 10)) none, type := 58, pos := "throw.go:102", after := #[{ on := 3, ground := Go.Ground.data }, { on := 7, ground := Go.Ground.data }], guard := none }) (v := (.slice (some ⟨g, 0, none⟩) fi cp)) rfl (by kernel_rfl) (by kernel_rfl) (by kernel_rfl) (fun _ _ _ h => h) (Or.inl ⟨by rfl, ?by8⟩) (by assumption) ?br8
    case by8 => (intro w hSw; (try dsimp only at hSw); go_simp; try (with_reducible rfl))
    case br8 =>
    try simp only [Act.put, List.setIfInBounds_toArray, List.set_cons_zero, List.set_cons_succ]
    refine wpAnyH_take (i := 10) (oi := { dst := some 13, op := Go.Op.move (Go.Operand.tmp 0), type := 99, pos := "throw.go:102", after := #[], guard := none }) (v := ?bv10) rfl (by kernel_rfl) (by kernel_rfl) (by kernel_rfl) (fun _ _ _ h => h) (Or.inl ⟨by rfl, ?by10⟩) (by assumption) ?br10
    case by10 => (intro w hSw; (try dsimp only at hSw); go_simp; try (with_reducible rfl))
    case br10 =>
    try simp only [Act.put, List.setIfInBounds_toArray, List.set_cons_zero, List.set_cons_succ]
    refine wpAnyH_take (i := 11) (oi := { dst := some 14, op := Go.Op.nilCheck (Go.Operand.tmp 13), type := 0, pos := "throw.go:102", after := #[{ on := 10, ground := Go.Ground.data }], guard := none }) (v := ?bv11) rfl (by kernel_rfl) (by kernel_rfl) (by kernel_rfl) (fun _ _ _ h => h) (Or.inl ⟨by rfl, ?by11⟩) (by assumption) ?br11
    case by11 => (intro w hSw; (try dsimp only at hSw); go_simp; try (with_reducible rfl))
    case br11 =>
    try simp only [Act.put, List.setIfInBounds_toArray, List.set_cons_zero, List.set_cons_succ]
    refine wpAnyH_take (i := 12) (oi := { dst := some 15, op := Go.Op.fieldAddr 102 (Go.Operand.tmp 14) 4, type := 0, pos := "throw.go:102", after := #[{ on := 11, ground := Go.Ground.data }], guard := none }) (v := ?bv12) rfl (by kernel_rfl) (by kernel_rfl) (by kernel_rfl) (fun _ _ _ h => h) (Or.inl ⟨by rfl, ?by12⟩) (by assumption) ?br12
    case by12 => (intro w hSw; (try dsimp only at hSw); go_simp; try (with_reducible rfl))
    case br12 =>
    try simp only [Act.put, List.setIfInBounds_toArray, List.set_cons_zero, List.set_cons_succ]
    refine wpAnyH_take (i := 13) (oi := { dst := some 16, op := Go.Op.load 75 (Go.Operand.tmp 15), type := 75, pos := "throw.go:102", after := #[{ on := 12, ground := Go.Ground.data }], guard := none }) (v := (.agg #[.int .i64 la.1, .int .i64 (la.2 : Int)])) rfl (by kernel_rfl) (by kernel_rfl) (by kernel_rfl) (fun _ _ _ h => h) (yieldsIf_load_mid (by rfl) 75 (.tmp 15) rfl G 4 rfl [.int .i64 la.1, .int .i64 (la.2 : Int)] _ (fun w' h => VRow.range h (fun q v hv => by match q, hv with | 0, hv => exact hv | 1, hv => exact hv)) Try.underlying75 rfl (by kernel_rfl)) (by assumption) ?_
    try simp only [Act.put, List.setIfInBounds_toArray, List.set_cons_zero, List.set_cons_succ]
    refine wpAnyH_ready (rs := [9, 14]) (by kernel_rfl) (by simp) ?_
    refine AllReadyH.cons (o := { dst := some 12, op := Go.Op.call { callee := Go.Callee.value (Go.Operand.func 75), args := #[Go.Operand.tmp 11], argTypes := #[58] }, type := 58, pos := "throw.go:102", after := #[{ on := 8, ground := Go.Ground.data }], guard := none }) rfl (fun K hK => ?_) (AllReadyH.cons (o := { dst := some 17, op := Go.Op.buildSlice 58 1 #[(0, Go.Operand.tmp 16)], type := 58, pos := "throw.go:102", after := #[{ on := 13, ground := Go.Ground.data }], guard := none }) rfl (fun K hK => ?_) (AllReadyH.nil))
    · skip
      go_simp
      refine (HCL.out _ (Below.refl _ _)).mono ?_
      rintro e w5 ⟨v5, rfl, O5, B5⟩
      obtain ⟨A5, c5, rfl⟩ := own_form O5
      go_simp
      refine hK.out _ _ ?_ (fun hHeld => ?_)
      · exact V1.out.below B5 V1.out.lt
      clear hK K
      try simp only [Act.put, List.setIfInBounds_toArray, List.set_cons_zero, List.set_cons_succ]
      refine wpAnyH_ready (rs := [14]) (by kernel_rfl) (by simp) ?_
      refine AllReadyH.cons (o := { dst := some 17, op := Go.Op.buildSlice 58 1 #[(0, Go.Operand.tmp 16)], type := 58, pos := "throw.go:102", after := #[{ on := 13, ground := Go.Ground.data }], guard := none }) rfl (fun K hK => ?_) (AllReadyH.nil)
      refine wp_buildSlice _ _ _ rfl _ _ (by simp only [List.map_toArray, List.map_cons, List.map_nil]; exact one_coin _ _ _) ?_
      refine hK.out _ _ ?_ (fun hHeld => ?_)
      · exact (V1.out.below B5 V1.out.lt).below ((Below.refl _ _).alloc (Nat.le_refl _) _) (Nat.lt_of_lt_of_le V1.out.lt B5.size)
      clear hK K
      try simp only [Act.put, List.setIfInBounds_toArray, List.set_cons_zero, List.set_cons_succ]
      refine wpAnyH_ready (rs := [15]) (by kernel_rfl) (by simp) ?_
      refine AllReadyH.cons (o := { dst := some 18, op := Go.Op.call { callee := Go.Callee.builtin Go.Builtin.append, args := #[Go.Operand.tmp 12, Go.Operand.tmp 17], argTypes := #[58, 58] }, type := 58, pos := "throw.go:102", after := #[{ on := 9, ground := Go.Ground.data }, { on := 14, ground := Go.Ground.data }, { on := 9, ground := Go.Ground.chain }], guard := none }) rfl (fun K hK => ?_) (AllReadyH.nil)
      refine op_append_row slt_coin (.tmp 12) (.tmp 17) rfl w.heap.size _ _ _ rfl (O5.alloc _) _ 1 [.int .i64 la.1, .int .i64 (la.2 : Int)] rfl rfl (VRow.range (VRow.new w5 75 [.int .i64 la.1, .int .i64 (la.2 : Int)]) (fun q v hv => by rw [Nat.zero_add]; exact hv)) K4.out M4.out N4.out (Nat.le_trans (show w.heap.size ≤ w5.heap.size from B5.size) (by simp)) ?_
      intro v1 w6 hown1 hg1 ho1
      obtain ⟨A1, c1, rfl⟩ := own_form hown1
      have V6 := vrow_grown ((V1.out.below B5 V1.out.lt).below ((Below.refl _ _).alloc (Nat.le_refl _) (.cells #[.int .i64 la.1, .int .i64 (la.2 : Int)] 75)) (Nat.lt_of_lt_of_le V1.out.lt B5.size)) (O5.alloc (.cells #[.int .i64 la.1, .int .i64 (la.2 : Int)] 75)) hg1 GW.out
      have B6 := ((B5.alloc B5.size (.cells #[.int .i64 la.1, .int .i64 (la.2 : Int)] 75)).grown hg1 (Nat.le_trans B5.size (by simp)) (fun k hk => (O5.lt k hk).1))
      refine hK.out _ _ ?_ (fun hHeld => ?_)
      · exact V6
      clear hK K
      try simp only [Act.put, List.setIfInBounds_toArray, List.set_cons_zero, List.set_cons_succ]
      refine wpAnyH_take (i := 16) (oi := { dst := some 2, op := Go.Op.assign (Go.Operand.tmp 18), type := 58, pos := "throw.go:102", after := #[{ on := 15, ground := Go.Ground.data }, { on := 15, ground := Go.Ground.chain }, { on := 0, ground := Go.Ground.phase }, { on := 1, ground := Go.Ground.phase }, { on := 2, ground := Go.Ground.phase }, { on := 3, ground := Go.Ground.phase }, { on := 4, ground := Go.Ground.phase }, { on := 5, ground := Go.Ground.phase }, { on := 6, ground := Go.Ground.phase }, { on := 7, ground := Go.Ground.phase }, { on := 8, ground := Go.Ground.phase }, { on := 9, ground := Go.Ground.phase }, { on := 10, ground := Go.Ground.phase }, { on := 11, ground := Go.Ground.phase }, { on := 12, ground := Go.Ground.phase }, { on := 13, ground := Go.Ground.phase }, { on := 14, ground := Go.Ground.phase }, { on := 15, ground := Go.Ground.phase }], guard := none }) (v := ?b_9_14_15v16) rfl (by kernel_rfl) (by kernel_rfl) (by kernel_rfl) (fun _ _ _ h => h) (Or.inl ⟨by rfl, ?b_9_14_15y16⟩) (by assumption) ?b_9_14_15r16
      case b_9_14_15y16 => (intro w hSw; (try dsimp only at hSw); go_simp; try (with_reducible rfl))
      case b_9_14_15r16 =>
      try simp only [Act.put, List.setIfInBounds_toArray, List.set_cons_zero, List.set_cons_succ]
      refine wpAnyH_done (by kernel_rfl) ?_ _
      go_wp2_with fail
      go_ret
      exact ⟨.slice A1 (fi + 1) c1, rfl, by rw [HCL1.out, HCL2.out]; exact hown1, (Below.refl w.heap.size w).drew.trans B6⟩
    · skip
      refine wp_buildSlice _ _ _ rfl _ _ (by simp only [List.map_toArray, List.map_cons, List.map_nil]; exact one_coin _ _ _) ?_
      refine hK.out _ _ ?_ (fun hHeld => ?_)
      · exact VA.out
      clear hK K
      try simp only [Act.put, List.setIfInBounds_toArray, List.set_cons_zero, List.set_cons_succ]
      refine wpAnyH_ready (rs := [9]) (by kernel_rfl) (by simp) ?_
      refine AllReadyH.cons (o := { dst := some 12, op := Go.Op.call { callee := Go.Callee.value (Go.Operand.func 75), args := #[Go.Operand.tmp 11], argTypes := #[58] }, type := 58, pos := "throw.go:102", after := #[{ on := 8, ground := Go.Ground.data }], guard := none }) rfl (fun K hK => ?_) (AllReadyH.nil)
      go_simp
      refine (HCL.out _ BA.out).mono ?_
      rintro e w5 ⟨v5, rfl, O5, B5⟩
      obtain ⟨A5, c5, rfl⟩ := own_form O5
      go_simp
      refine hK.out _ _ ?_ (fun hHeld => ?_)
      · exact VA.out.below B5 (Nat.lt_trans GW.out (by simp))
      clear hK K
      try simp only [Act.put, List.setIfInBounds_toArray, List.set_cons_zero, List.set_cons_succ]
      refine wpAnyH_ready (rs := [15]) (by kernel_rfl) (by simp) ?_
      refine AllReadyH.cons (o := { dst := some 18, op := Go.Op.call { callee := Go.Callee.builtin Go.Builtin.append, args := #[Go.Operand.tmp 12, Go.Operand.tmp 17], argTypes := #[58, 58] }, type := 58, pos := "throw.go:102", after := #[{ on := 9, ground := Go.Ground.data }, { on := 14, ground := Go.Ground.data }, { on := 9, ground := Go.Ground.chain }], guard := none }) rfl (fun K hK => ?_) (AllReadyH.nil)
      refine op_append_row slt_coin (.tmp 12) (.tmp 17) rfl w.heap.size _ _ _ rfl O5 _ 1 [.int .i64 la.1, .int .i64 (la.2 : Int)] rfl rfl (fun j v hv => (B5.cell (p := ⟨w.heap.size, 0 + j, none⟩) (show w.heap.size < (w.drew.alloc (.cells #[Value.int .i64 la.1, .int .i64 (la.2 : Int)] 75)).heap.size by simp)).trans (VRow.range (VRow.new w.drew 75 [.int .i64 la.1, .int .i64 (la.2 : Int)]) (fun q v hv => by rw [Nat.zero_add]; exact hv) j v hv)) K4.out M4.out N4.out (show w.heap.size ≤ w5.heap.size from Nat.le_trans (by simp) B5.size) ?_
      intro v1 w6 hown1 hg1 ho1
      obtain ⟨A1, c1, rfl⟩ := own_form hown1
      have V6 := vrow_grown (VRow.below (VA.out.below B5 (Nat.lt_trans GW.out (by simp))) (Below.refl w5.heap.size w5) (Nat.lt_of_lt_of_le GW.out (Nat.le_trans (by simp) B5.size))) O5 hg1 GW.out
      have B6 := ((BA.out.trans (B5.mono (by simp))).grown hg1 (show w.heap.size ≤ w5.heap.size from Nat.le_trans (by simp) B5.size) (fun k hk => (O5.lt k hk).1))
      refine hK.out _ _ ?_ (fun hHeld => ?_)
      · exact V6
      clear hK K
      try simp only [Act.put, List.setIfInBounds_toArray, List.set_cons_zero, List.set_cons_succ]
      refine wpAnyH_take (i := 16) (oi := { dst := some 2, op := Go.Op.assign (Go.Operand.tmp 18), type := 58, pos := "throw.go:102", after := #[{ on := 15, ground := Go.Ground.data }, { on := 15, ground := Go.Ground.chain }, { on := 0, ground := Go.Ground.phase }, { on := 1, ground := Go.Ground.phase }, { on := 2, ground := Go.Ground.phase }, { on := 3, ground := Go.Ground.phase }, { on := 4, ground := Go.Ground.phase }, { on := 5, ground := Go.Ground.phase }, { on := 6, ground := Go.Ground.phase }, { on := 7, ground := Go.Ground.phase }, { on := 8, ground := Go.Ground.phase }, { on := 9, ground := Go.Ground.phase }, { on := 10, ground := Go.Ground.phase }, { on := 11, ground := Go.Ground.phase }, { on := 12, ground := Go.Ground.phase }, { on := 13, ground := Go.Ground.phase }, { on := 14, ground := Go.Ground.phase }, { on := 15, ground := Go.Ground.phase }], guard := none }) (v := ?b_14_9_15v16) rfl (by kernel_rfl) (by kernel_rfl) (by kernel_rfl) (fun _ _ _ h => h) (Or.inl ⟨by rfl, ?b_14_9_15y16⟩) (by assumption) ?b_14_9_15r16
      case b_14_9_15y16 => (intro w hSw; (try dsimp only at hSw); go_simp; try (with_reducible rfl))
      case b_14_9_15r16 =>
      try simp only [Act.put, List.setIfInBounds_toArray, List.set_cons_zero, List.set_cons_succ]
      refine wpAnyH_done (by kernel_rfl) ?_ _
      go_wp2_with fail
      go_ret
      exact ⟨.slice A1 (fi + 1) c1, rfl, by rw [HCL1.out, HCL2.out]; exact hown1, (Below.refl w.heap.size w).drew.trans B6⟩
end Go.Proofs.Ytammeedmccblcaa.Cs
