/-
  A coin more for an attempt. Conditions: at most a thousand coins, none worth more than may be.
-/
import Derived.Test.YtammeedmccblcaaCsStep
import Derived.Test.YtammeedmccblcaaCsThP
namespace Go.Proofs.Ytammeedmccblcaa.Cs
open Go.RowKit

/-- An attempt's seven cells. -/
def atC (need : Int) (pk : Value) (s : Int) (f : Nat) (l : Cn) (m : Int) : List Value := [.int .i64 need, pk, .int .i64 s, .int .i64 (f : Int), .int .i64 l.1, .int .i64 (l.2 : Int), .int .i64 m]
def atS (need : Int) (pk : Value) (S : Att) : List Value := atC need pk (sumD S.P) S.f S.l S.m
theorem size_coin : (Try.prog.info? 75).map (·.size) = some (2 : Nat) := by kernel_rfl
set_option maxRecDepth 100000 in
set_option maxHeartbeats 12800000 in
theorem apick_any (G : Nat) (need : Int) (k : Nat) (S : Att) (c : Cn) (pk : Value) (w : World) (hk : k ≤ 1000) (hS : AtOk k S) (hc : 0 < c.1 ∧ c.1 ≤ 2100000000000000) (hv : VRow w G 102 (atS need pk S)) (ho : w.ownsRow (G + 1) 75 2 pk S.P.length (S.P.flatMap cnC)) :
    Calls Try.prog 74 #[.pointer (some ⟨G, 0, none⟩), .agg #[.int .i64 c.1, .int .i64 (c.2 : Int)]] w fun e w' => ∃ pk', e = .returned (.tuple #[]) ∧ VRow w' G 102 (atS need pk' (pickA need S c)) ∧ w'.ownsRow (G + 1) 75 2 pk' (pickA need S c).P.length ((pickA need S c).P.flatMap cnC) ∧ Turns (fun q => q = G ∨ pk.ownBlock = some q) w w' ∧ (∀ q, pk'.ownBlock = some q → pk.ownBlock = some q ∨ w.heap.size ≤ q) := by
  obtain ⟨R, hR⟩ : ∃ z, z = pickA need S c := ⟨_, rfl⟩
  rw [← hR]
  obtain ⟨P, fi, la, m⟩ := S
  have hsum := hS.sum
  have hPl := hS.n
  unfold atS at hv
  dsimp only at hv ho hsum hPl
  obtain ⟨s, hs⟩ : ∃ z, z = sumD P := ⟨_, rfl⟩
  have hR1 : R = if s + c.1 < need then ⟨P ++ [c], fi, la, m⟩ else if s + c.1 < m then ⟨P, P.length, c, s + c.1⟩ else ⟨P, fi, la, m⟩ := by rw [hR, hs]; rfl
  rw [← hs] at hv hsum
  have hwr : IntKind.i64.wrap (s + c.1) = s + c.1 := IntWalk.i64_in _ (by omega)
  have HR := Lib.hid hR1
  have HV := Lib.hid hv
  have HO := Lib.hid ho
  have HSS := Lib.hid hs
  have HG := Lib.hid hv.lt
  clear hR hR1 hS hv ho hs hsum
  go_enter Try.func74, Try.ntmps74
  go_upto_region 1 with fail
  obtain ⟨w2, hw2⟩ : ∃ z, z = w.alloc (.cells #[.int .i64 c.1, .int .i64 (c.2 : Int)] 75) := ⟨_, rfl⟩
  obtain ⟨C, hC⟩ : ∃ z, z = w.heap.size := ⟨_, rfl⟩
  have hb2 : Below C w w2 := by rw [hw2, hC]; exact (Below.refl _ _).alloc (Nat.le_refl _) _
  have hv2 : VRow w2 G 102 (atC need pk s fi la m) := HV.out.below hb2 (by have := HG.out; omega)
  have ho2 := own_turns HO.out (Turns.of_below (S := fun _ => False) (by rw [← hC]; exact hb2)) (fun _ _ q => q)
  have hr2 : VRow w2 C 75 [.int .i64 c.1, .int .i64 (c.2 : Int)] := by rw [hw2, hC]; exact VRow.new _ _ _
  have hlt2 : G < C := by have := HG.out; omega
  have hob : ∀ q, pk.ownBlock = some q → q ≠ C := fun q hq => by have := (HO.out.lt q hq).2; omega
  have T2 := Lib.hid (show Turns (fun q => q = G ∨ pk.ownBlock = some q) w w2 by rw [hw2]; exact (Turns.refl _ _).alloc _)
  rw [← hw2, ← hC]
  obtain ⟨Ap, cp, hform⟩ := own_form ho2
  subst hform
  obtain ⟨nP, hnP⟩ : ∃ z, z = P.length := ⟨_, rfl⟩
  rw [← hnP] at ho2 hv2 hob T2 hPl
  have y0 : w2.cell? ⟨G, 0, none⟩ = some (.int .i64 need) := hv2.cell rfl
  have y1 : w2.cell? ⟨G, 1, none⟩ = some (.slice Ap nP cp) := hv2.cell rfl
  have y2 : w2.cell? ⟨G, 2, none⟩ = some (.int .i64 s) := hv2.cell rfl
  have y6 : w2.cell? ⟨G, 6, none⟩ = some (.int .i64 m) := hv2.cell rfl
  have z0 : w2.cell? ⟨C, 0, none⟩ = some (.int .i64 c.1) := hr2.cell rfl
  have V2 := Lib.hid hv2
  have O2 := Lib.hid ho2
  have RC := Lib.hid hr2
  have HNP := Lib.hid hnP
  have HOB := Lib.hid hob
  have LT2 := Lib.hid hlt2
  have HCW := Lib.hid hC
  clear hw2 hC hb2 hv2 ho2 hr2 hnP hlt2 hob HV HO
  go_quiet (fail)
  obtain ⟨w3, hw3⟩ : ∃ z, z = w2.drewN nq := ⟨_, rfl⟩
  rw [← hw3]
  have V3 := Lib.hid (show VRow w3 G 102 (atC need (.slice Ap nP cp) s fi la m) by rw [hw3]; exact V2.out)
  have O3 := Lib.hid (show w3.ownsRow (G + 1) 75 2 (.slice Ap nP cp) nP (P.flatMap cnC) by rw [hw3]; exact own_turns O2.out ((Turns.refl (fun _ => False) w2).drewN nq) (fun _ _ q => q))
  have RC3 := Lib.hid (show VRow w3 C 75 [.int .i64 c.1, .int .i64 (c.2 : Int)] by rw [hw3]; exact RC.out)
  have T3 := Lib.hid (show Turns (fun q => q = G ∨ (Value.slice Ap nP cp).ownBlock = some q) w w3 by rw [hw3]; exact T2.out.drewN nq)
  clear hw3 V2 O2 RC T2 y0 y1 y2 y6 z0
  have y0 : w3.cell? ⟨G, 0, none⟩ = some (.int .i64 need) := V3.out.cell rfl
  have y1 : w3.cell? ⟨G, 1, none⟩ = some (.slice Ap nP cp) := V3.out.cell rfl
  have y6 : w3.cell? ⟨G, 6, none⟩ = some (.int .i64 m) := V3.out.cell rfl
  by_cases h1 : s + c.1 < need
  · as_aux_lemma =>
    have hRe : R = ⟨P ++ [c], fi, la, m⟩ := by rw [HR.out, if_pos h1]
    clear HR
    subst hRe
    have d1 : decide (s + c.1 < need) = true := decide_eq_true h1
    go_upto_region 3 with fail
    obtain ⟨oC, hoC⟩ : ∃ z, z = Obj.cells [Value.int .i64 c.1, .int .i64 (c.2 : Int)].toArray 75 := ⟨_, rfl⟩
    have ba : Below w3.heap.size w3.drew (w3.drew.alloc oC) := (Below.refl w3.heap.size w3.drew).alloc (show w3.heap.size ≤ w3.drew.heap.size from Nat.le_refl _) oC
    have RC4 := Lib.hid (show VRow (w3.drew.alloc oC) C 75 [.int .i64 c.1, .int .i64 (c.2 : Int)] from VRow.below (w := w3.drew) RC3.out ba RC3.out.lt)
    have V4 := Lib.hid (show VRow (w3.drew.alloc oC) G 102 _ from VRow.below (w := w3.drew) V3.out ba V3.out.lt)
    have O4 := Lib.hid (show (w3.drew.alloc oC).ownsRow (G + 1) 75 2 (.slice Ap nP cp) nP (P.flatMap cnC) from O3.out.drew.alloc oC)
    have R4 := Lib.hid (show (w3.drew.alloc oC).rangeAt w3.heap.size 0 [.int .i64 c.1, .int .i64 (c.2 : Int)] from by rw [hoC]; exact (VRow.new w3.drew 75 [.int .i64 c.1, .int .i64 (c.2 : Int)]).range (fun q v hv => by rw [Nat.zero_add]; exact hv))
    have K4 := Lib.hid (show ∀ v ∈ [Value.int .i64 c.1, .int .i64 (c.2 : Int)], v.oneCell' = true from fun v hv => by simp only [List.mem_cons, List.not_mem_nil, or_false] at hv; rcases hv with rfl | rfl <;> rfl)
    have M4 := Lib.hid (show (nP + 1) * 16 ≤ 140737488355328 by omega)
    have N4 := Lib.hid (show nP + 1 ≤ maxLen by unfold maxLen; omega)
    have G4 := Lib.hid (show G + 1 ≤ (w3.drew.alloc oC).heap.size by have := V4.out.lt; omega)
    have T4 := Lib.hid (show Turns (fun q => q = G ∨ (Value.slice Ap nP cp).ownBlock = some q) w (w3.drew.alloc oC) from (T3.out.drew).alloc oC)
    have Z4 := Lib.hid (show C < (w3.drew.alloc oC).heap.size from RC4.out.lt)
    have hOC : (Instr.buildSlice 58 1 #[(0, .agg #[.int .i64 c.1, .int .i64 (c.2 : Int)])]).run Try.prog w3.drew = .ok (.slice (some ⟨w3.heap.size, 0, none⟩) 1 1) (w3.drew.alloc oC) := by rw [hoC]; exact one_coin _ _ _
    have c7 : w3.drew.cell? ⟨G, 1, none⟩ = some (.slice Ap nP cp) := V3.out.cell rfl
    have c8 : (w3.drew.alloc oC).cell? ⟨G, 1, none⟩ = some (.slice Ap nP cp) := V4.out.cell rfl
    have c9 : (w3.alloc oC).drew.cell? ⟨G, 1, none⟩ = some (.slice Ap nP cp) := V4.out.cell rfl
    have c10 : (w3.alloc oC).cell? ⟨G, 1, none⟩ = some (.slice Ap nP cp) := V4.out.cell rfl
    have HFM := Lib.hid (show (P ++ [c]).flatMap cnC = P.flatMap cnC ++ [.int .i64 c.1, .int .i64 (c.2 : Int)] by rw [List.flatMap_append]; rfl)
    have HLP := Lib.hid (show (P ++ [c]).length = nP + 1 by rw [List.length_append, ← HNP.out]; rfl)
    have HSN := Lib.hid (show sumD (P ++ [c]) = s + c.1 by rw [sumD_append, ← HSS.out]; show s + (c.1 + 0) = _; rw [Int.add_zero])
    clear hoC ba
    refine wp_region_held_drew (S := (fun w' => VRow w' C 75 [.int .i64 c.1, .int .i64 (c.2 : Int)])) (by kernel_rfl) ?_ (fun hHeld => ?_)
    · exact RC3.out
    refine wpAnyH_take (i := 0) (oi := { dst := some 19, op := Go.Op.move (Go.Operand.tmp 0), type := 99, pos := "throw.go:94", after := #[], guard := none }) (v := ?av0) rfl (by kernel_rfl) (by kernel_rfl) (by kernel_rfl) (fun _ _ _ h => h) (Or.inl ⟨by rfl, ?ay0⟩) (by assumption) ?ar0
    case ay0 => (intro w hSw; (try dsimp only at hSw); go_simp; try (with_reducible rfl))
    case ar0 =>
    try simp only [Act.put, List.setIfInBounds_toArray, List.set_cons_zero, List.set_cons_succ]
    refine wpAnyH_take (i := 1) (oi := { dst := some 20, op := Go.Op.move (Go.Operand.tmp 0), type := 99, pos := "throw.go:94", after := #[{ on := 12, ground := Go.Ground.gcOnly Go.Departure.lateStores }], guard := none }) (v := ?av1) rfl (by kernel_rfl) (by kernel_rfl) (by kernel_rfl) (fun _ _ _ h => h) (Or.inl ⟨by rfl, ?ay1⟩) (by assumption) ?ar1
    case ay1 => (intro w hSw; (try dsimp only at hSw); go_simp; try (with_reducible rfl))
    case ar1 =>
    try simp only [Act.put, List.setIfInBounds_toArray, List.set_cons_zero, List.set_cons_succ]
    refine wpAnyH_take (i := 2) (oi := { dst := some 21, op := Go.Op.move (Go.Operand.tmp 0), type := 99, pos := "throw.go:94", after := #[], guard := none }) (v := ?av2) rfl (by kernel_rfl) (by kernel_rfl) (by kernel_rfl) (fun _ _ _ h => h) (Or.inl ⟨by rfl, ?ay2⟩) (by assumption) ?ar2
    case ay2 => (intro w hSw; (try dsimp only at hSw); go_simp; try (with_reducible rfl))
    case ar2 =>
    try simp only [Act.put, List.setIfInBounds_toArray, List.set_cons_zero, List.set_cons_succ]
    refine wpAnyH_take (i := 3) (oi := { dst := some 22, op := Go.Op.nilCheck (Go.Operand.tmp 21), type := 0, pos := "throw.go:94", after := #[{ on := 2, ground := Go.Ground.data }], guard := none }) (v := ?av3) rfl (by kernel_rfl) (by kernel_rfl) (by kernel_rfl) (fun _ _ _ h => h) (Or.inl ⟨by rfl, ?ay3⟩) (by assumption) ?ar3
    case ay3 => (intro w hSw; (try dsimp only at hSw); go_simp; try (with_reducible rfl))
    case ar3 =>
    try simp only [Act.put, List.setIfInBounds_toArray, List.set_cons_zero, List.set_cons_succ]
    refine wpAnyH_take (i := 4) (oi := { dst := some 23, op := Go.Op.fieldAddr 102 (Go.Operand.tmp 22) 1, type := 0, pos := "throw.go:94", after := #[{ on := 3, ground := Go.Ground.data }], guard := none }) (v := ?av4) rfl (by kernel_rfl) (by kernel_rfl) (by kernel_rfl) (fun _ _ _ h => h) (Or.inl ⟨by rfl, ?ay4⟩) (by assumption) ?ar4
    case ay4 => (intro w hSw; (try dsimp only at hSw); go_simp; try (with_reducible rfl))
    case ar4 =>
    try simp only [Act.put, List.setIfInBounds_toArray, List.set_cons_zero, List.set_cons_succ]
    refine wpAnyH_take (i := 6) (oi := { dst := some 25, op := Go.Op.load 75 (Go.Operand.tmp 3), type := 75, pos := "throw.go:94", after := #[], guard := none }) (v := (.agg #[.int .i64 c.1, .int .i64 (c.2 : Int)])) rfl (by kernel_rfl) (by kernel_rfl) (by kernel_rfl) (fun _ _ _ h => h) (yieldsIf_load_mid (by rfl) 75 (.tmp 3) rfl C 0 rfl [.int .i64 c.1, .int .i64 (c.2 : Int)] _ (fun w' h => VRow.range h (fun q v hv => by rw [Nat.zero_add]; exact hv)) Try.underlying75 rfl (by kernel_rfl)) (by assumption) ?_
    try simp only [Act.put, List.setIfInBounds_toArray, List.set_cons_zero, List.set_cons_succ]
    refine wpAnyH_take (i := 9) (oi := { dst := some 28, op := Go.Op.move (Go.Operand.tmp 4), type := 2, pos := "throw.go:94", after := #[{ on := 12, ground := Go.Ground.gcOnly Go.Departure.lateStores }], guard := none }) (v := ?av9) rfl (by kernel_rfl) (by kernel_rfl) (by kernel_rfl) (fun _ _ _ h => h) (Or.inl ⟨by rfl, ?ay9⟩) (by assumption) ?ar9
    case ay9 => (intro w hSw; (try dsimp only at hSw); go_simp; try (with_reducible rfl))
    case ar9 =>
    try simp only [Act.put, List.setIfInBounds_toArray, List.set_cons_zero, List.set_cons_succ]
    refine wpAnyH_ready (rs := [5, 7]) (by kernel_rfl) (by simp) ?_
    refine AllReadyH.cons (o := { dst := some 24, op := Go.Op.load 58 (Go.Operand.tmp 23), type := 58, pos := "throw.go:94", after := #[{ on := 4, ground := Go.Ground.data }], guard := none }) rfl (fun K hK => ?_) (AllReadyH.cons (o := { dst := some 26, op := Go.Op.buildSlice 58 1 #[(0, Go.Operand.tmp 25)], type := 58, pos := "throw.go:94", after := #[{ on := 6, ground := Go.Ground.data }], guard := none }) rfl (fun K hK => ?_) (AllReadyH.nil))
    · skip
      go_simp
      refine hK.out _ _ ?_ (fun hHeld => ?_)
      · exact hHeld
      clear hK K
      try simp only [Act.put, List.setIfInBounds_toArray, List.set_cons_zero, List.set_cons_succ]
      refine wpAnyH_ready (rs := [7]) (by kernel_rfl) (by simp) ?_
      refine AllReadyH.cons (o := { dst := some 26, op := Go.Op.buildSlice 58 1 #[(0, Go.Operand.tmp 25)], type := 58, pos := "throw.go:94", after := #[{ on := 6, ground := Go.Ground.data }], guard := none }) rfl (fun K hK => ?_) (AllReadyH.nil)
      refine wp_buildSlice _ _ _ rfl _ _ (by simp only [List.map_toArray, List.map_cons, List.map_nil]; exact hOC) ?_
      refine hK.out _ _ ?_ (fun hHeld => ?_)
      · exact RC4.out
      clear hK K
      try simp only [Act.put, List.setIfInBounds_toArray, List.set_cons_zero, List.set_cons_succ]
      refine wpAnyH_ready (rs := [8]) (by kernel_rfl) (by simp) ?_
      refine AllReadyH.cons (o := { dst := some 27, op := Go.Op.call { callee := Go.Callee.builtin Go.Builtin.append, args := #[Go.Operand.tmp 24, Go.Operand.tmp 26], argTypes := #[58, 58] }, type := 58, pos := "throw.go:94", after := #[{ on := 5, ground := Go.Ground.data }, { on := 7, ground := Go.Ground.data }], guard := none }) rfl (fun K hK => ?_) (AllReadyH.nil)
      refine op_append_row slt_coin (.tmp 24) (.tmp 26) rfl (G + 1) _ _ _ rfl O4.out _ 1 [.int .i64 c.1, .int .i64 (c.2 : Int)] rfl rfl R4.out K4.out M4.out N4.out G4.out ?_
      intro v1 w5 hown1 hg1 ho1
      obtain ⟨A1, c1, rfl⟩ := own_form hown1
      have V5 := vrow_grown V4.out O4.out hg1 (Nat.lt_succ_self _)
      have RC5 : VRow w5 C _ _ := (hg1.block C RC4.out.lt (fun q => HOB.out C q.symm rfl)).trans RC4.out
      have T5 : Turns (fun q => q = G ∨ (Value.slice Ap nP cp).ownBlock = some q) w w5 := T4.out.grown hg1 (fun k hk _ => .inr hk)
      have f1 := V5.free 1
      have f2 := V5.free 2
      have x1 := V5.cell (i := 1) rfl
      have x2 := V5.cell (i := 2) rfl
      refine hK.out _ _ ?_ (fun hHeld => ?_)
      · exact RC5
      clear hK K
      try simp only [Act.put, List.setIfInBounds_toArray, List.set_cons_zero, List.set_cons_succ]
      refine wpAnyH_take (i := 10) (oi := { dst := some 29, op := Go.Op.nilCheck (Go.Operand.tmp 19), type := 0, pos := "throw.go:94", after := #[{ on := 0, ground := Go.Ground.data }, { on := 0, ground := Go.Ground.phase }, { on := 1, ground := Go.Ground.textOnly Go.Departure.lateStores }, { on := 2, ground := Go.Ground.phase }, { on := 3, ground := Go.Ground.phase }, { on := 4, ground := Go.Ground.phase }, { on := 5, ground := Go.Ground.phase }, { on := 6, ground := Go.Ground.phase }, { on := 7, ground := Go.Ground.phase }, { on := 8, ground := Go.Ground.phase }, { on := 9, ground := Go.Ground.textOnly Go.Departure.lateStores }], guard := none }) (v := ?a_5_7_8v10) rfl (by kernel_rfl) (by kernel_rfl) (by kernel_rfl) (fun _ _ _ h => h) (Or.inl ⟨by rfl, ?a_5_7_8y10⟩) (by assumption) ?a_5_7_8r10
      case a_5_7_8y10 => (intro w hSw; (try dsimp only at hSw); go_simp; try (with_reducible rfl))
      case a_5_7_8r10 =>
      try simp only [Act.put, List.setIfInBounds_toArray, List.set_cons_zero, List.set_cons_succ]
      refine wpAnyH_take (i := 11) (oi := { dst := some 30, op := Go.Op.fieldAddr 102 (Go.Operand.tmp 29) 1, type := 0, pos := "throw.go:94", after := #[{ on := 10, ground := Go.Ground.data }, { on := 0, ground := Go.Ground.phase }, { on := 1, ground := Go.Ground.textOnly Go.Departure.lateStores }, { on := 2, ground := Go.Ground.phase }, { on := 3, ground := Go.Ground.phase }, { on := 4, ground := Go.Ground.phase }, { on := 5, ground := Go.Ground.phase }, { on := 6, ground := Go.Ground.phase }, { on := 7, ground := Go.Ground.phase }, { on := 8, ground := Go.Ground.phase }, { on := 9, ground := Go.Ground.textOnly Go.Departure.lateStores }], guard := none }) (v := ?a_5_7_8v11) rfl (by kernel_rfl) (by kernel_rfl) (by kernel_rfl) (fun _ _ _ h => h) (Or.inl ⟨by rfl, ?a_5_7_8y11⟩) (by assumption) ?a_5_7_8r11
      case a_5_7_8y11 => (intro w hSw; (try dsimp only at hSw); go_simp; try (with_reducible rfl))
      case a_5_7_8r11 =>
      try simp only [Act.put, List.setIfInBounds_toArray, List.set_cons_zero, List.set_cons_succ]
      refine wpAnyH_ready (rs := [12]) (by kernel_rfl) (by simp) ?_
      refine AllReadyH.cons (o := { dst := none, op := Go.Op.store 58 (Go.Operand.tmp 30) (Go.Operand.tmp 27), type := 0, pos := "throw.go:94", after := #[{ on := 11, ground := Go.Ground.data }, { on := 8, ground := Go.Ground.data }, { on := 8, ground := Go.Ground.chain }, { on := 0, ground := Go.Ground.phase }, { on := 1, ground := Go.Ground.textOnly Go.Departure.lateStores }, { on := 2, ground := Go.Ground.phase }, { on := 3, ground := Go.Ground.phase }, { on := 4, ground := Go.Ground.phase }, { on := 5, ground := Go.Ground.phase }, { on := 6, ground := Go.Ground.phase }, { on := 7, ground := Go.Ground.phase }, { on := 8, ground := Go.Ground.phase }, { on := 9, ground := Go.Ground.textOnly Go.Departure.lateStores }], guard := none }) rfl (fun K hK => ?_) (AllReadyH.nil)
      go_simp
      refine hK.out _ _ ?_ (fun hHeld => ?_)
      · exact RC5.turns (S := fun q => q = G) (Turns.setCell (S := fun q => q = G) (Turns.refl _ _) (p := ⟨G, 1, none⟩) (fun _ => rfl) _) (by have := LT2.out; omega)
      clear hK K
      try simp only [Act.put]
      refine wpAnyH_take (i := 13) (oi := { dst := some 31, op := Go.Op.nilCheck (Go.Operand.tmp 20), type := 0, pos := "throw.go:94", after := #[{ on := 1, ground := Go.Ground.data }, { on := 0, ground := Go.Ground.phase }, { on := 1, ground := Go.Ground.phase }, { on := 2, ground := Go.Ground.phase }, { on := 3, ground := Go.Ground.phase }, { on := 4, ground := Go.Ground.phase }, { on := 5, ground := Go.Ground.phase }, { on := 6, ground := Go.Ground.phase }, { on := 7, ground := Go.Ground.phase }, { on := 8, ground := Go.Ground.phase }, { on := 9, ground := Go.Ground.phase }, { on := 10, ground := Go.Ground.phase }, { on := 11, ground := Go.Ground.phase }, { on := 12, ground := Go.Ground.phase }], guard := none }) (v := ?a_5_7_8_12v13) rfl (by kernel_rfl) (by kernel_rfl) (by kernel_rfl) (fun _ _ _ h => h) (Or.inl ⟨by rfl, ?a_5_7_8_12y13⟩) (by assumption) ?a_5_7_8_12r13
      case a_5_7_8_12y13 => (intro w hSw; (try dsimp only at hSw); go_simp; try (with_reducible rfl))
      case a_5_7_8_12r13 =>
      try simp only [Act.put, List.setIfInBounds_toArray, List.set_cons_zero, List.set_cons_succ]
      refine wpAnyH_take (i := 14) (oi := { dst := some 32, op := Go.Op.fieldAddr 102 (Go.Operand.tmp 31) 2, type := 0, pos := "throw.go:94", after := #[{ on := 13, ground := Go.Ground.data }, { on := 0, ground := Go.Ground.phase }, { on := 1, ground := Go.Ground.phase }, { on := 2, ground := Go.Ground.phase }, { on := 3, ground := Go.Ground.phase }, { on := 4, ground := Go.Ground.phase }, { on := 5, ground := Go.Ground.phase }, { on := 6, ground := Go.Ground.phase }, { on := 7, ground := Go.Ground.phase }, { on := 8, ground := Go.Ground.phase }, { on := 9, ground := Go.Ground.phase }, { on := 10, ground := Go.Ground.phase }, { on := 11, ground := Go.Ground.phase }, { on := 12, ground := Go.Ground.phase }], guard := none }) (v := ?a_5_7_8_12v14) rfl (by kernel_rfl) (by kernel_rfl) (by kernel_rfl) (fun _ _ _ h => h) (Or.inl ⟨by rfl, ?a_5_7_8_12y14⟩) (by assumption) ?a_5_7_8_12r14
      case a_5_7_8_12y14 => (intro w hSw; (try dsimp only at hSw); go_simp; try (with_reducible rfl))
      case a_5_7_8_12r14 =>
      try simp only [Act.put, List.setIfInBounds_toArray, List.set_cons_zero, List.set_cons_succ]
      refine wpAnyH_ready (rs := [15]) (by kernel_rfl) (by simp) ?_
      refine AllReadyH.cons (o := { dst := none, op := Go.Op.store 2 (Go.Operand.tmp 32) (Go.Operand.tmp 28), type := 0, pos := "throw.go:94", after := #[{ on := 14, ground := Go.Ground.data }, { on := 9, ground := Go.Ground.data }, { on := 12, ground := Go.Ground.chain }, { on := 0, ground := Go.Ground.phase }, { on := 1, ground := Go.Ground.phase }, { on := 2, ground := Go.Ground.phase }, { on := 3, ground := Go.Ground.phase }, { on := 4, ground := Go.Ground.phase }, { on := 5, ground := Go.Ground.phase }, { on := 6, ground := Go.Ground.phase }, { on := 7, ground := Go.Ground.phase }, { on := 8, ground := Go.Ground.phase }, { on := 9, ground := Go.Ground.phase }, { on := 10, ground := Go.Ground.phase }, { on := 11, ground := Go.Ground.phase }, { on := 12, ground := Go.Ground.phase }], guard := none }) rfl (fun K hK => ?_) (AllReadyH.nil)
      go_simp
      refine hK.out _ _ ?_ (fun hHeld => ?_)
      · exact RC5.turns (S := fun q => q = G) (Turns.setCell (S := fun q => q = G) (Turns.setCell (S := fun q => q = G) (Turns.refl _ _) (p := ⟨G, 1, none⟩) (fun _ => rfl) _) (p := ⟨G, 2, none⟩) (fun _ => rfl) _) (by have := LT2.out; omega)
      clear hK K
      try simp only [Act.put]
      refine wpAnyH_done (by kernel_rfl) ?_ _
      have tt : Turns (fun q => q = G) w5 ((w5.setCell ⟨G, 1, none⟩ (.slice A1 (nP + 1) c1)).setCell ⟨G, 2, none⟩ (.int .i64 (s + c.1))) := Turns.setCell (S := fun q => q = G) (Turns.setCell (S := fun q => q = G) (Turns.refl _ _) (p := ⟨G, 1, none⟩) (fun _ => rfl) _) (p := ⟨G, 2, none⟩) (fun _ => rfl) _
      go_wp2_with fail
      (try simp only [Exit.inBlock, Exit.then])
      have e9 := HNP.out
      subst e9
      refine bodyPost_end (results_none Try.results74 _ _ _) rfl ⟨rfl, _, ?_, ?_, (T5.setCell (p := ⟨G, 1, none⟩) (fun _ => .inl rfl) _).setCell (p := ⟨G, 2, none⟩) (fun _ => .inl rfl) _, fun q hq => (own_after ho1 HOB.out Z4.out (by have := T4.out.size; exact this) q hq).2⟩
      · unfold atS; rw [HSN.out]; exact (V5.set 1 _).set 2 _
      · exact own_turns hown1 tt (fun q hq e => by have := (hown1.lt q hq).1; omega)
    · skip
      refine wp_buildSlice _ _ _ rfl _ _ (by simp only [List.map_toArray, List.map_cons, List.map_nil]; exact hOC) ?_
      refine hK.out _ _ ?_ (fun hHeld => ?_)
      · exact RC4.out
      clear hK K
      try simp only [Act.put, List.setIfInBounds_toArray, List.set_cons_zero, List.set_cons_succ]
      refine wpAnyH_ready (rs := [5]) (by kernel_rfl) (by simp) ?_
      refine AllReadyH.cons (o := { dst := some 24, op := Go.Op.load 58 (Go.Operand.tmp 23), type := 58, pos := "throw.go:94", after := #[{ on := 4, ground := Go.Ground.data }], guard := none }) rfl (fun K hK => ?_) (AllReadyH.nil)
      go_simp
      refine hK.out _ _ ?_ (fun hHeld => ?_)
      · exact hHeld
      clear hK K
      try simp only [Act.put, List.setIfInBounds_toArray, List.set_cons_zero, List.set_cons_succ]
      refine wpAnyH_ready (rs := [8]) (by kernel_rfl) (by simp) ?_
      refine AllReadyH.cons (o := { dst := some 27, op := Go.Op.call { callee := Go.Callee.builtin Go.Builtin.append, args := #[Go.Operand.tmp 24, Go.Operand.tmp 26], argTypes := #[58, 58] }, type := 58, pos := "throw.go:94", after := #[{ on := 5, ground := Go.Ground.data }, { on := 7, ground := Go.Ground.data }], guard := none }) rfl (fun K hK => ?_) (AllReadyH.nil)
      refine op_append_row slt_coin (.tmp 24) (.tmp 26) rfl (G + 1) _ _ _ rfl O4.out _ 1 [.int .i64 c.1, .int .i64 (c.2 : Int)] rfl rfl R4.out K4.out M4.out N4.out G4.out ?_
      intro v1 w5 hown1 hg1 ho1
      obtain ⟨A1, c1, rfl⟩ := own_form hown1
      have V5 := vrow_grown V4.out O4.out hg1 (Nat.lt_succ_self _)
      have RC5 : VRow w5 C _ _ := (hg1.block C RC4.out.lt (fun q => HOB.out C q.symm rfl)).trans RC4.out
      have T5 : Turns (fun q => q = G ∨ (Value.slice Ap nP cp).ownBlock = some q) w w5 := T4.out.grown hg1 (fun k hk _ => .inr hk)
      have f1 := V5.free 1
      have f2 := V5.free 2
      have x1 := V5.cell (i := 1) rfl
      have x2 := V5.cell (i := 2) rfl
      refine hK.out _ _ ?_ (fun hHeld => ?_)
      · exact RC5
      clear hK K
      try simp only [Act.put, List.setIfInBounds_toArray, List.set_cons_zero, List.set_cons_succ]
      refine wpAnyH_take (i := 10) (oi := { dst := some 29, op := Go.Op.nilCheck (Go.Operand.tmp 19), type := 0, pos := "throw.go:94", after := #[{ on := 0, ground := Go.Ground.data }, { on := 0, ground := Go.Ground.phase }, { on := 1, ground := Go.Ground.textOnly Go.Departure.lateStores }, { on := 2, ground := Go.Ground.phase }, { on := 3, ground := Go.Ground.phase }, { on := 4, ground := Go.Ground.phase }, { on := 5, ground := Go.Ground.phase }, { on := 6, ground := Go.Ground.phase }, { on := 7, ground := Go.Ground.phase }, { on := 8, ground := Go.Ground.phase }, { on := 9, ground := Go.Ground.textOnly Go.Departure.lateStores }], guard := none }) (v := ?a_7_5_8v10) rfl (by kernel_rfl) (by kernel_rfl) (by kernel_rfl) (fun _ _ _ h => h) (Or.inl ⟨by rfl, ?a_7_5_8y10⟩) (by assumption) ?a_7_5_8r10
      case a_7_5_8y10 => (intro w hSw; (try dsimp only at hSw); go_simp; try (with_reducible rfl))
      case a_7_5_8r10 =>
      try simp only [Act.put, List.setIfInBounds_toArray, List.set_cons_zero, List.set_cons_succ]
      refine wpAnyH_take (i := 11) (oi := { dst := some 30, op := Go.Op.fieldAddr 102 (Go.Operand.tmp 29) 1, type := 0, pos := "throw.go:94", after := #[{ on := 10, ground := Go.Ground.data }, { on := 0, ground := Go.Ground.phase }, { on := 1, ground := Go.Ground.textOnly Go.Departure.lateStores }, { on := 2, ground := Go.Ground.phase }, { on := 3, ground := Go.Ground.phase }, { on := 4, ground := Go.Ground.phase }, { on := 5, ground := Go.Ground.phase }, { on := 6, ground := Go.Ground.phase }, { on := 7, ground := Go.Ground.phase }, { on := 8, ground := Go.Ground.phase }, { on := 9, ground := Go.Ground.textOnly Go.Departure.lateStores }], guard := none }) (v := ?a_7_5_8v11) rfl (by kernel_rfl) (by kernel_rfl) (by kernel_rfl) (fun _ _ _ h => h) (Or.inl ⟨by rfl, ?a_7_5_8y11⟩) (by assumption) ?a_7_5_8r11
      case a_7_5_8y11 => (intro w hSw; (try dsimp only at hSw); go_simp; try (with_reducible rfl))
      case a_7_5_8r11 =>
      try simp only [Act.put, List.setIfInBounds_toArray, List.set_cons_zero, List.set_cons_succ]
      refine wpAnyH_ready (rs := [12]) (by kernel_rfl) (by simp) ?_
      refine AllReadyH.cons (o := { dst := none, op := Go.Op.store 58 (Go.Operand.tmp 30) (Go.Operand.tmp 27), type := 0, pos := "throw.go:94", after := #[{ on := 11, ground := Go.Ground.data }, { on := 8, ground := Go.Ground.data }, { on := 8, ground := Go.Ground.chain }, { on := 0, ground := Go.Ground.phase }, { on := 1, ground := Go.Ground.textOnly Go.Departure.lateStores }, { on := 2, ground := Go.Ground.phase }, { on := 3, ground := Go.Ground.phase }, { on := 4, ground := Go.Ground.phase }, { on := 5, ground := Go.Ground.phase }, { on := 6, ground := Go.Ground.phase }, { on := 7, ground := Go.Ground.phase }, { on := 8, ground := Go.Ground.phase }, { on := 9, ground := Go.Ground.textOnly Go.Departure.lateStores }], guard := none }) rfl (fun K hK => ?_) (AllReadyH.nil)
      go_simp
      refine hK.out _ _ ?_ (fun hHeld => ?_)
      · exact RC5.turns (S := fun q => q = G) (Turns.setCell (S := fun q => q = G) (Turns.refl _ _) (p := ⟨G, 1, none⟩) (fun _ => rfl) _) (by have := LT2.out; omega)
      clear hK K
      try simp only [Act.put]
      refine wpAnyH_take (i := 13) (oi := { dst := some 31, op := Go.Op.nilCheck (Go.Operand.tmp 20), type := 0, pos := "throw.go:94", after := #[{ on := 1, ground := Go.Ground.data }, { on := 0, ground := Go.Ground.phase }, { on := 1, ground := Go.Ground.phase }, { on := 2, ground := Go.Ground.phase }, { on := 3, ground := Go.Ground.phase }, { on := 4, ground := Go.Ground.phase }, { on := 5, ground := Go.Ground.phase }, { on := 6, ground := Go.Ground.phase }, { on := 7, ground := Go.Ground.phase }, { on := 8, ground := Go.Ground.phase }, { on := 9, ground := Go.Ground.phase }, { on := 10, ground := Go.Ground.phase }, { on := 11, ground := Go.Ground.phase }, { on := 12, ground := Go.Ground.phase }], guard := none }) (v := ?a_7_5_8_12v13) rfl (by kernel_rfl) (by kernel_rfl) (by kernel_rfl) (fun _ _ _ h => h) (Or.inl ⟨by rfl, ?a_7_5_8_12y13⟩) (by assumption) ?a_7_5_8_12r13
      case a_7_5_8_12y13 => (intro w hSw; (try dsimp only at hSw); go_simp; try (with_reducible rfl))
      case a_7_5_8_12r13 =>
      try simp only [Act.put, List.setIfInBounds_toArray, List.set_cons_zero, List.set_cons_succ]
      refine wpAnyH_take (i := 14) (oi := { dst := some 32, op := Go.Op.fieldAddr 102 (Go.Operand.tmp 31) 2, type := 0, pos := "throw.go:94", after := #[{ on := 13, ground := Go.Ground.data }, { on := 0, ground := Go.Ground.phase }, { on := 1, ground := Go.Ground.phase }, { on := 2, ground := Go.Ground.phase }, { on := 3, ground := Go.Ground.phase }, { on := 4, ground := Go.Ground.phase }, { on := 5, ground := Go.Ground.phase }, { on := 6, ground := Go.Ground.phase }, { on := 7, ground := Go.Ground.phase }, { on := 8, ground := Go.Ground.phase }, { on := 9, ground := Go.Ground.phase }, { on := 10, ground := Go.Ground.phase }, { on := 11, ground := Go.Ground.phase }, { on := 12, ground := Go.Ground.phase }], guard := none }) (v := ?a_7_5_8_12v14) rfl (by kernel_rfl) (by kernel_rfl) (by kernel_rfl) (fun _ _ _ h => h) (Or.inl ⟨by rfl, ?a_7_5_8_12y14⟩) (by assumption) ?a_7_5_8_12r14
      case a_7_5_8_12y14 => (intro w hSw; (try dsimp only at hSw); go_simp; try (with_reducible rfl))
      case a_7_5_8_12r14 =>
      try simp only [Act.put, List.setIfInBounds_toArray, List.set_cons_zero, List.set_cons_succ]
      refine wpAnyH_ready (rs := [15]) (by kernel_rfl) (by simp) ?_
      refine AllReadyH.cons (o := { dst := none, op := Go.Op.store 2 (Go.Operand.tmp 32) (Go.Operand.tmp 28), type := 0, pos := "throw.go:94", after := #[{ on := 14, ground := Go.Ground.data }, { on := 9, ground := Go.Ground.data }, { on := 12, ground := Go.Ground.chain }, { on := 0, ground := Go.Ground.phase }, { on := 1, ground := Go.Ground.phase }, { on := 2, ground := Go.Ground.phase }, { on := 3, ground := Go.Ground.phase }, { on := 4, ground := Go.Ground.phase }, { on := 5, ground := Go.Ground.phase }, { on := 6, ground := Go.Ground.phase }, { on := 7, ground := Go.Ground.phase }, { on := 8, ground := Go.Ground.phase }, { on := 9, ground := Go.Ground.phase }, { on := 10, ground := Go.Ground.phase }, { on := 11, ground := Go.Ground.phase }, { on := 12, ground := Go.Ground.phase }], guard := none }) rfl (fun K hK => ?_) (AllReadyH.nil)
      go_simp
      refine hK.out _ _ ?_ (fun hHeld => ?_)
      · exact RC5.turns (S := fun q => q = G) (Turns.setCell (S := fun q => q = G) (Turns.setCell (S := fun q => q = G) (Turns.refl _ _) (p := ⟨G, 1, none⟩) (fun _ => rfl) _) (p := ⟨G, 2, none⟩) (fun _ => rfl) _) (by have := LT2.out; omega)
      clear hK K
      try simp only [Act.put]
      refine wpAnyH_done (by kernel_rfl) ?_ _
      have tt : Turns (fun q => q = G) w5 ((w5.setCell ⟨G, 1, none⟩ (.slice A1 (nP + 1) c1)).setCell ⟨G, 2, none⟩ (.int .i64 (s + c.1))) := Turns.setCell (S := fun q => q = G) (Turns.setCell (S := fun q => q = G) (Turns.refl _ _) (p := ⟨G, 1, none⟩) (fun _ => rfl) _) (p := ⟨G, 2, none⟩) (fun _ => rfl) _
      go_wp2_with fail
      (try simp only [Exit.inBlock, Exit.then])
      have e9 := HNP.out
      subst e9
      refine bodyPost_end (results_none Try.results74 _ _ _) rfl ⟨rfl, _, ?_, ?_, (T5.setCell (p := ⟨G, 1, none⟩) (fun _ => .inl rfl) _).setCell (p := ⟨G, 2, none⟩) (fun _ => .inl rfl) _, fun q hq => (own_after ho1 HOB.out Z4.out (by have := T4.out.size; exact this) q hq).2⟩
      · unfold atS; rw [HSN.out]; exact (V5.set 1 _).set 2 _
      · exact own_turns hown1 tt (fun q hq e => by have := (hown1.lt q hq).1; omega)
  · by_cases h2 : s + c.1 < m
    · as_aux_lemma =>
      have hRe : R = ⟨P, P.length, c, s + c.1⟩ := by rw [HR.out, if_neg h1, if_pos h2]
      clear HR
      subst hRe
      have d1 : decide (s + c.1 < need) = false := decide_eq_false h1
      have d2 : decide (s + c.1 < m) = true := decide_eq_true h2
      go_upto_region 5 with fail
      have V4 := Lib.hid (show VRow w3.drew G 102 _ from V3.out)
      have V5 := Lib.hid (V4.out.set 3 (.int .i64 (nP : Int)))
      have TH := Lib.hid (show (w3.drew.setCell ⟨G, 3, none⟩ (.int .i64 (nP : Int))).there G 4 (#[Value.int .i64 c.1, .int .i64 (c.2 : Int)] : Array Value).size from V5.out.there (show 4 + 2 ≤ 7 by decide))
      have K4 := Lib.hid (show (#[Value.int .i64 c.1, .int .i64 (c.2 : Int)] : Array Value).all (·.oneCell') = true from by simp only [List.all_toArray, List.all_cons, List.all_nil]; rfl)
      have tt3 : Turns (fun q => q = G) w3.drew (w3.drew.setCell ⟨G, 3, none⟩ (.int .i64 (nP : Int))) := Turns.setCell (S := fun q => q = G) (Turns.refl _ _) (p := ⟨G, 3, none⟩) (fun _ => rfl) _
      obtain ⟨w5, hw5⟩ : ∃ z, z = (w3.drew.setCell ⟨G, 3, none⟩ (.int .i64 (nP : Int))).setCells G 4 (#[Value.int .i64 c.1, .int .i64 (c.2 : Int)] : Array Value).toList := ⟨_, rfl⟩
      have tt4 : Turns (fun q => q = G) w3.drew w5 := by rw [hw5]; exact Turns.setCells (S := fun q => q = G) (fun _ => rfl) _ tt3
      have tt6 := Turns.setCell (S := fun q => q = G) tt4 (p := ⟨G, 6, none⟩) (fun _ => rfl) (.int .i64 (s + c.1))
      have V6 := Lib.hid (show VRow w5 G 102 (atC need (.slice Ap nP cp) s nP c m) by rw [hw5]; exact VRow.setCells [Value.int .i64 c.1, .int .i64 (c.2 : Int)] (o := 4) V5.out (show 4 + 2 ≤ 7 by decide))
      have V7 := Lib.hid (V6.out.set 6 (.int .i64 (s + c.1)))
      have HW5 := Lib.hid (show (w3.setCell ⟨G, 3, none⟩ (.int .i64 (nP : Int))).drew.setCells G 4 (#[Value.int .i64 c.1, .int .i64 (c.2 : Int)] : Array Value).toList = w5 from hw5.symm)
      clear hw5
      have RC4 := Lib.hid (show VRow w3.drew C 75 [.int .i64 c.1, .int .i64 (c.2 : Int)] from RC3.out)
      have hGC : C ≠ G := by have := LT2.out; omega
      have f3 : w3.drew.frozen? ⟨G, 3, none⟩ = false := V4.out.free 3
      have g3 : w3.drew.cell? ⟨G, 3, none⟩ = some (.int .i64 (fi : Int)) := V4.out.cell rfl
      have f6 := V6.out.free 6
      have g6 := V6.out.cell (i := 6) rfl
      have k1 : w3.drew.cell? ⟨G, 1, none⟩ = some (.slice Ap nP cp) := V4.out.cell rfl
      refine wp_region_held_drew (S := (fun w' => VRow w' C 75 [.int .i64 c.1, .int .i64 (c.2 : Int)] ∧ w'.cell? ⟨G, 1, none⟩ = some (.slice Ap nP cp))) (by kernel_rfl) ?_ (fun hHeld => ?_)
      · exact ⟨RC4.out, k1⟩
      refine wpAnyH_take (i := 0) (oi := { dst := some 40, op := Go.Op.move (Go.Operand.tmp 0), type := 99, pos := "throw.go:96", after := #[], guard := none }) (v := ?bv0) rfl (by kernel_rfl) (by kernel_rfl) (by kernel_rfl) (fun _ _ _ h => h) (Or.inl ⟨by rfl, ?by0⟩) (by assumption) ?br0
      case by0 => (intro w hSw; (try dsimp only at hSw); go_simp; try (with_reducible rfl))
      case br0 =>
      try simp only [Act.put, List.setIfInBounds_toArray, List.set_cons_zero, List.set_cons_succ]
      refine wpAnyH_take (i := 1) (oi := { dst := some 41, op := Go.Op.move (Go.Operand.tmp 0), type := 99, pos := "throw.go:96", after := #[{ on := 12, ground := Go.Ground.gcOnly Go.Departure.lateStores }], guard := none }) (v := ?bv1) rfl (by kernel_rfl) (by kernel_rfl) (by kernel_rfl) (fun _ _ _ h => h) (Or.inl ⟨by rfl, ?by1⟩) (by assumption) ?br1
      case by1 => (intro w hSw; (try dsimp only at hSw); go_simp; try (with_reducible rfl))
      case br1 =>
      try simp only [Act.put, List.setIfInBounds_toArray, List.set_cons_zero, List.set_cons_succ]
      refine wpAnyH_take (i := 2) (oi := { dst := some 42, op := Go.Op.move (Go.Operand.tmp 0), type := 99, pos := "throw.go:96", after := #[{ on := 15, ground := Go.Ground.gcOnly Go.Departure.lateStores }], guard := none }) (v := ?bv2) rfl (by kernel_rfl) (by kernel_rfl) (by kernel_rfl) (fun _ _ _ h => h) (Or.inl ⟨by rfl, ?by2⟩) (by assumption) ?br2
      case by2 => (intro w hSw; (try dsimp only at hSw); go_simp; try (with_reducible rfl))
      case br2 =>
      try simp only [Act.put, List.setIfInBounds_toArray, List.set_cons_zero, List.set_cons_succ]
      refine wpAnyH_take (i := 3) (oi := { dst := some 43, op := Go.Op.move (Go.Operand.tmp 0), type := 99, pos := "throw.go:96", after := #[], guard := none }) (v := ?bv3) rfl (by kernel_rfl) (by kernel_rfl) (by kernel_rfl) (fun _ _ _ h => h) (Or.inl ⟨by rfl, ?by3⟩) (by assumption) ?br3
      case by3 => (intro w hSw; (try dsimp only at hSw); go_simp; try (with_reducible rfl))
      case br3 =>
      try simp only [Act.put, List.setIfInBounds_toArray, List.set_cons_zero, List.set_cons_succ]
      refine wpAnyH_take (i := 4) (oi := { dst := some 44, op := Go.Op.nilCheck (Go.Operand.tmp 43), type := 0, pos := "throw.go:96", after := #[{ on := 3, ground := Go.Ground.data }], guard := none }) (v := ?bv4) rfl (by kernel_rfl) (by kernel_rfl) (by kernel_rfl) (fun _ _ _ h => h) (Or.inl ⟨by rfl, ?by4⟩) (by assumption) ?br4
      case by4 => (intro w hSw; (try dsimp only at hSw); go_simp; try (with_reducible rfl))
      case br4 =>
      try simp only [Act.put, List.setIfInBounds_toArray, List.set_cons_zero, List.set_cons_succ]
      refine wpAnyH_take (i := 5) (oi := { dst := some 45, op := Go.Op.fieldAddr 102 (Go.Operand.tmp 44) 1, type := 0, pos := "throw.go:96", after := #[{ on := 4, ground := Go.Ground.data }], guard := none }) (v := ?bv5) rfl (by kernel_rfl) (by kernel_rfl) (by kernel_rfl) (fun _ _ _ h => h) (Or.inl ⟨by rfl, ?by5⟩) (by assumption) ?br5
      case by5 => (intro w hSw; (try dsimp only at hSw); go_simp; try (with_reducible rfl))
      case br5 =>
      try simp only [Act.put, List.setIfInBounds_toArray, List.set_cons_zero, List.set_cons_succ]
      refine wpAnyH_take (i := 6) (oi := { dst := some 46, op := Go.Op.load 58 (Go.Operand.tmp 45), type := 58, pos := "throw.go:96", after := #[{ on := 5, ground := Go.Ground.data }], guard := none }) (v := ?bv6) rfl (by kernel_rfl) (by kernel_rfl) (by kernel_rfl) (fun _ _ _ h => h) (Or.inl ⟨by rfl, ?by6⟩) (by assumption) ?br6
      case by6 => (intro w hSw; (try dsimp only at hSw); go_simp; try (with_reducible rfl))
      case br6 =>
      try simp only [Act.put, List.setIfInBounds_toArray, List.set_cons_zero, List.set_cons_succ]
      refine wpAnyH_take (i := 7) (oi := { dst := some 47, op := Go.Op.call { callee := Go.Callee.builtin Go.Builtin.len, args := #[Go.Operand.tmp 46], argTypes := #[58] }, type := 3, pos := "throw.go:96", after := #[{ on := 6, ground := Go.Ground.data }], guard := none }) (v := ?bv7) rfl (by kernel_rfl) (by kernel_rfl) (by kernel_rfl) (fun _ _ _ h => h) (Or.inl ⟨by rfl, ?by7⟩) (by assumption) ?br7
      case by7 => (intro w hSw; (try dsimp only at hSw); go_simp; try (with_reducible rfl))
      case br7 =>
      try simp only [Act.put, List.setIfInBounds_toArray, List.set_cons_zero, List.set_cons_succ]
      refine wpAnyH_take (i := 8) (oi := { dst := some 48, op := Go.Op.load 75 (Go.Operand.tmp 3), type := 75, pos := "throw.go:96", after := #[{ on := 12, ground := Go.Ground.gcOnly Go.Departure.lateStores }], guard := none }) (v := (.agg #[.int .i64 c.1, .int .i64 (c.2 : Int)])) rfl (by kernel_rfl) (by kernel_rfl) (by kernel_rfl) (fun _ _ _ h => h) (yieldsIf_load_mid (by rfl) 75 (.tmp 3) rfl C 0 rfl [.int .i64 c.1, .int .i64 (c.2 : Int)] _ (fun w' h => VRow.range h.1 (fun q v hv => by rw [Nat.zero_add]; exact hv)) Try.underlying75 rfl (by kernel_rfl)) (by assumption) ?_
      try simp only [Act.put, List.setIfInBounds_toArray, List.set_cons_zero, List.set_cons_succ]
      refine wpAnyH_take (i := 9) (oi := { dst := some 49, op := Go.Op.move (Go.Operand.tmp 4), type := 2, pos := "throw.go:96", after := #[{ on := 15, ground := Go.Ground.gcOnly Go.Departure.lateStores }], guard := none }) (v := ?bv9) rfl (by kernel_rfl) (by kernel_rfl) (by kernel_rfl) (fun _ _ _ h => h) (Or.inl ⟨by rfl, ?by9⟩) (by assumption) ?br9
      case by9 => (intro w hSw; (try dsimp only at hSw); go_simp; try (with_reducible rfl))
      case br9 =>
      try simp only [Act.put, List.setIfInBounds_toArray, List.set_cons_zero, List.set_cons_succ]
      refine wpAnyH_take (i := 10) (oi := { dst := some 50, op := Go.Op.nilCheck (Go.Operand.tmp 40), type := 0, pos := "throw.go:96", after := #[{ on := 0, ground := Go.Ground.data }, { on := 0, ground := Go.Ground.phase }, { on := 1, ground := Go.Ground.textOnly Go.Departure.lateStores }, { on := 2, ground := Go.Ground.textOnly Go.Departure.lateStores }, { on := 3, ground := Go.Ground.phase }, { on := 4, ground := Go.Ground.phase }, { on := 5, ground := Go.Ground.phase }, { on := 6, ground := Go.Ground.phase }, { on := 7, ground := Go.Ground.phase }, { on := 8, ground := Go.Ground.textOnly Go.Departure.lateStores }, { on := 9, ground := Go.Ground.textOnly Go.Departure.lateStores }], guard := none }) (v := ?bv10) rfl (by kernel_rfl) (by kernel_rfl) (by kernel_rfl) (fun _ _ _ h => h) (Or.inl ⟨by rfl, ?by10⟩) (by assumption) ?br10
      case by10 => (intro w hSw; (try dsimp only at hSw); go_simp; try (with_reducible rfl))
      case br10 =>
      try simp only [Act.put, List.setIfInBounds_toArray, List.set_cons_zero, List.set_cons_succ]
      refine wpAnyH_take (i := 11) (oi := { dst := some 51, op := Go.Op.fieldAddr 102 (Go.Operand.tmp 50) 3, type := 0, pos := "throw.go:96", after := #[{ on := 10, ground := Go.Ground.data }, { on := 0, ground := Go.Ground.phase }, { on := 1, ground := Go.Ground.textOnly Go.Departure.lateStores }, { on := 2, ground := Go.Ground.textOnly Go.Departure.lateStores }, { on := 3, ground := Go.Ground.phase }, { on := 4, ground := Go.Ground.phase }, { on := 5, ground := Go.Ground.phase }, { on := 6, ground := Go.Ground.phase }, { on := 7, ground := Go.Ground.phase }, { on := 8, ground := Go.Ground.textOnly Go.Departure.lateStores }, { on := 9, ground := Go.Ground.textOnly Go.Departure.lateStores }], guard := none }) (v := ?bv11) rfl (by kernel_rfl) (by kernel_rfl) (by kernel_rfl) (fun _ _ _ h => h) (Or.inl ⟨by rfl, ?by11⟩) (by assumption) ?br11
      case by11 => (intro w hSw; (try dsimp only at hSw); go_simp; try (with_reducible rfl))
      case br11 =>
      try simp only [Act.put, List.setIfInBounds_toArray, List.set_cons_zero, List.set_cons_succ]
      refine wpAnyH_ready (rs := [12]) (by kernel_rfl) (by simp) ?_
      refine AllReadyH.cons (o := { dst := none, op := Go.Op.store 3 (Go.Operand.tmp 51) (Go.Operand.tmp 47), type := 0, pos := "throw.go:96", after := #[{ on := 11, ground := Go.Ground.data }, { on := 7, ground := Go.Ground.data }, { on := 0, ground := Go.Ground.phase }, { on := 1, ground := Go.Ground.textOnly Go.Departure.lateStores }, { on := 2, ground := Go.Ground.textOnly Go.Departure.lateStores }, { on := 3, ground := Go.Ground.phase }, { on := 4, ground := Go.Ground.phase }, { on := 5, ground := Go.Ground.phase }, { on := 6, ground := Go.Ground.phase }, { on := 7, ground := Go.Ground.phase }, { on := 8, ground := Go.Ground.textOnly Go.Departure.lateStores }, { on := 9, ground := Go.Ground.textOnly Go.Departure.lateStores }], guard := none }) rfl (fun K hK => ?_) (AllReadyH.nil)
      go_simp
      refine hK.out _ _ ?_ (fun hHeld => ?_)
      · exact ⟨RC4.out.turns tt3 hGC, V5.out.cell rfl⟩
      clear hK K
      try simp only [Act.put]
      refine wpAnyH_take (i := 13) (oi := { dst := some 52, op := Go.Op.nilCheck (Go.Operand.tmp 41), type := 0, pos := "throw.go:96", after := #[{ on := 1, ground := Go.Ground.data }, { on := 0, ground := Go.Ground.phase }, { on := 1, ground := Go.Ground.phase }, { on := 2, ground := Go.Ground.textOnly Go.Departure.lateStores }, { on := 3, ground := Go.Ground.phase }, { on := 4, ground := Go.Ground.phase }, { on := 5, ground := Go.Ground.phase }, { on := 6, ground := Go.Ground.phase }, { on := 7, ground := Go.Ground.phase }, { on := 8, ground := Go.Ground.phase }, { on := 9, ground := Go.Ground.textOnly Go.Departure.lateStores }, { on := 10, ground := Go.Ground.phase }, { on := 11, ground := Go.Ground.phase }, { on := 12, ground := Go.Ground.phase }], guard := none }) (v := ?b_12v13) rfl (by kernel_rfl) (by kernel_rfl) (by kernel_rfl) (fun _ _ _ h => h) (Or.inl ⟨by rfl, ?b_12y13⟩) (by assumption) ?b_12r13
      case b_12y13 => (intro w hSw; (try dsimp only at hSw); go_simp; try (with_reducible rfl))
      case b_12r13 =>
      try simp only [Act.put, List.setIfInBounds_toArray, List.set_cons_zero, List.set_cons_succ]
      refine wpAnyH_take (i := 14) (oi := { dst := some 53, op := Go.Op.fieldAddr 102 (Go.Operand.tmp 52) 4, type := 0, pos := "throw.go:96", after := #[{ on := 13, ground := Go.Ground.data }, { on := 0, ground := Go.Ground.phase }, { on := 1, ground := Go.Ground.phase }, { on := 2, ground := Go.Ground.textOnly Go.Departure.lateStores }, { on := 3, ground := Go.Ground.phase }, { on := 4, ground := Go.Ground.phase }, { on := 5, ground := Go.Ground.phase }, { on := 6, ground := Go.Ground.phase }, { on := 7, ground := Go.Ground.phase }, { on := 8, ground := Go.Ground.phase }, { on := 9, ground := Go.Ground.textOnly Go.Departure.lateStores }, { on := 10, ground := Go.Ground.phase }, { on := 11, ground := Go.Ground.phase }, { on := 12, ground := Go.Ground.phase }], guard := none }) (v := ?b_12v14) rfl (by kernel_rfl) (by kernel_rfl) (by kernel_rfl) (fun _ _ _ h => h) (Or.inl ⟨by rfl, ?b_12y14⟩) (by assumption) ?b_12r14
      case b_12y14 => (intro w hSw; (try dsimp only at hSw); go_simp; try (with_reducible rfl))
      case b_12r14 =>
      try simp only [Act.put, List.setIfInBounds_toArray, List.set_cons_zero, List.set_cons_succ]
      refine wpAnyH_ready (rs := [15]) (by kernel_rfl) (by simp) ?_
      refine AllReadyH.cons (o := { dst := none, op := Go.Op.store 75 (Go.Operand.tmp 53) (Go.Operand.tmp 48), type := 0, pos := "throw.go:96", after := #[{ on := 14, ground := Go.Ground.data }, { on := 8, ground := Go.Ground.data }, { on := 12, ground := Go.Ground.chain }, { on := 0, ground := Go.Ground.phase }, { on := 1, ground := Go.Ground.phase }, { on := 2, ground := Go.Ground.textOnly Go.Departure.lateStores }, { on := 3, ground := Go.Ground.phase }, { on := 4, ground := Go.Ground.phase }, { on := 5, ground := Go.Ground.phase }, { on := 6, ground := Go.Ground.phase }, { on := 7, ground := Go.Ground.phase }, { on := 8, ground := Go.Ground.phase }, { on := 9, ground := Go.Ground.textOnly Go.Departure.lateStores }, { on := 10, ground := Go.Ground.phase }, { on := 11, ground := Go.Ground.phase }, { on := 12, ground := Go.Ground.phase }], guard := none }) rfl (fun K hK => ?_) (AllReadyH.nil)
      simp only [Region.wanted, if_true]
      refine wp_store_mid 75 (.tmp 53) (.tmp 48) rfl G 4 _ rfl rfl TH.out (by kernel_rfl) K4.out ?_
      rw [HW5.out]
      refine hK.out _ _ ?_ (fun hHeld => ?_)
      · exact ⟨RC4.out.turns tt4 hGC, V6.out.cell rfl⟩
      clear hK K
      try simp only [Act.put]
      refine wpAnyH_take (i := 16) (oi := { dst := some 54, op := Go.Op.nilCheck (Go.Operand.tmp 42), type := 0, pos := "throw.go:96", after := #[{ on := 2, ground := Go.Ground.data }, { on := 0, ground := Go.Ground.phase }, { on := 1, ground := Go.Ground.phase }, { on := 2, ground := Go.Ground.phase }, { on := 3, ground := Go.Ground.phase }, { on := 4, ground := Go.Ground.phase }, { on := 5, ground := Go.Ground.phase }, { on := 6, ground := Go.Ground.phase }, { on := 7, ground := Go.Ground.phase }, { on := 8, ground := Go.Ground.phase }, { on := 9, ground := Go.Ground.phase }, { on := 10, ground := Go.Ground.phase }, { on := 11, ground := Go.Ground.phase }, { on := 12, ground := Go.Ground.phase }, { on := 13, ground := Go.Ground.phase }, { on := 14, ground := Go.Ground.phase }, { on := 15, ground := Go.Ground.phase }], guard := none }) (v := ?b_12_15v16) rfl (by kernel_rfl) (by kernel_rfl) (by kernel_rfl) (fun _ _ _ h => h) (Or.inl ⟨by rfl, ?b_12_15y16⟩) (by assumption) ?b_12_15r16
      case b_12_15y16 => (intro w hSw; (try dsimp only at hSw); go_simp; try (with_reducible rfl))
      case b_12_15r16 =>
      try simp only [Act.put, List.setIfInBounds_toArray, List.set_cons_zero, List.set_cons_succ]
      refine wpAnyH_take (i := 17) (oi := { dst := some 55, op := Go.Op.fieldAddr 102 (Go.Operand.tmp 54) 5, type := 0, pos := "throw.go:96", after := #[{ on := 16, ground := Go.Ground.data }, { on := 0, ground := Go.Ground.phase }, { on := 1, ground := Go.Ground.phase }, { on := 2, ground := Go.Ground.phase }, { on := 3, ground := Go.Ground.phase }, { on := 4, ground := Go.Ground.phase }, { on := 5, ground := Go.Ground.phase }, { on := 6, ground := Go.Ground.phase }, { on := 7, ground := Go.Ground.phase }, { on := 8, ground := Go.Ground.phase }, { on := 9, ground := Go.Ground.phase }, { on := 10, ground := Go.Ground.phase }, { on := 11, ground := Go.Ground.phase }, { on := 12, ground := Go.Ground.phase }, { on := 13, ground := Go.Ground.phase }, { on := 14, ground := Go.Ground.phase }, { on := 15, ground := Go.Ground.phase }], guard := none }) (v := ?b_12_15v17) rfl (by kernel_rfl) (by kernel_rfl) (by kernel_rfl) (fun _ _ _ h => h) (Or.inl ⟨by rfl, ?b_12_15y17⟩) (by assumption) ?b_12_15r17
      case b_12_15y17 => (intro w hSw; (try dsimp only at hSw); go_simp; try (with_reducible rfl))
      case b_12_15r17 =>
      try simp only [Act.put, List.setIfInBounds_toArray, List.set_cons_zero, List.set_cons_succ]
      refine wpAnyH_ready (rs := [18]) (by kernel_rfl) (by simp) ?_
      refine AllReadyH.cons (o := { dst := none, op := Go.Op.store 2 (Go.Operand.tmp 55) (Go.Operand.tmp 49), type := 0, pos := "throw.go:96", after := #[{ on := 17, ground := Go.Ground.data }, { on := 9, ground := Go.Ground.data }, { on := 15, ground := Go.Ground.chain }, { on := 0, ground := Go.Ground.phase }, { on := 1, ground := Go.Ground.phase }, { on := 2, ground := Go.Ground.phase }, { on := 3, ground := Go.Ground.phase }, { on := 4, ground := Go.Ground.phase }, { on := 5, ground := Go.Ground.phase }, { on := 6, ground := Go.Ground.phase }, { on := 7, ground := Go.Ground.phase }, { on := 8, ground := Go.Ground.phase }, { on := 9, ground := Go.Ground.phase }, { on := 10, ground := Go.Ground.phase }, { on := 11, ground := Go.Ground.phase }, { on := 12, ground := Go.Ground.phase }, { on := 13, ground := Go.Ground.phase }, { on := 14, ground := Go.Ground.phase }, { on := 15, ground := Go.Ground.phase }], guard := none }) rfl (fun K hK => ?_) (AllReadyH.nil)
      go_simp
      refine hK.out _ _ ?_ (fun hHeld => ?_)
      · exact ⟨RC4.out.turns tt6 hGC, V7.out.cell rfl⟩
      clear hK K
      try simp only [Act.put]
      refine wpAnyH_done (by kernel_rfl) ?_ _
      go_wp2_with fail
      (try simp only [Exit.inBlock, Exit.then])
      have e9 := HNP.out
      subst e9
      refine bodyPost_end (results_none Try.results74 _ _ _) rfl ⟨rfl, _, ?_, ?_, T3.out.drew.trans tt6 (fun _ _ h => .inl h), fun q hq => .inl hq⟩
      · unfold atS; rw [← HSS.out]; exact V7.out
      · exact own_turns O3.out (show Turns (fun q => q = G) w3 _ from (Turns.refl (fun q => q = G) w3).drew.trans tt6 (fun _ _ h => h)) (fun q hq e => by have := (O3.out.lt q hq).1; omega)
    · as_aux_lemma =>
      have hRe : R = ⟨P, fi, la, m⟩ := by rw [HR.out, if_neg h1, if_neg h2]
      clear HR
      subst hRe
      have d1 : decide (s + c.1 < need) = false := decide_eq_false h1
      have d2 : decide (s + c.1 < m) = false := decide_eq_false h2
      go_wp2_with fail
      (try simp only [Exit.inBlock, Exit.then])
      have e9 := HNP.out
      subst e9
      refine bodyPost_end (results_none Try.results74 _ _ _) rfl ⟨rfl, _, ?_, O3.out, T3.out, fun q hq => .inl hq⟩
      unfold atS
      rw [← HSS.out]
      exact V3.out
end Go.Proofs.Ytammeedmccblcaa.Cs
