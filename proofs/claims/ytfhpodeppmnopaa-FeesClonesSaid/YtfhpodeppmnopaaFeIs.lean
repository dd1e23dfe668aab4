/-
  The fees laws' is: a book has the document's counts. Conditions: none.
-/
import Derived.Test.YtfhpodeppmnopaaFeRest
import Derived.Test.YtfhpodeppmnopaaFeWait
namespace Go.Proofs.Ytfhpodeppmnopaa
open Go.RowKit

structure IsAt (w wr : World) (G : Nat) (us : List Value) : Prop where
  bel : Below w.heap.size w wr
  row : VRow wr G 30 us
theorem IsAt.drew {w wr : World} {G : Nat} {us : List Value} (h : IsAt w wr G us) : IsAt w wr.drew G us := ⟨h.bel.drew, h.row⟩
theorem meas_out {k : Int} (h : k ≤ 24) : (25 - intOf (.int .i64 (k + 1))).toNat < (25 - intOf (.int .i64 k)).toNat := by
  simp only [intOf]
  omega
theorem meas_in {k : Int} (h : k ≤ 13) : (14 - intOf (.int .i64 (k + 1))).toNat < (14 - intOf (.int .i64 k)).toNat := by
  simp only [intOf]
  omega

set_option maxRecDepth 100000 in
set_option maxHeartbeats 6400000 in
theorem is_any (g : Nat) (m : Option Nat) (us : List Value) (S : Bs) (w : World) (hbk : BookAt w 7 g m S) (hr : RefV w 7 us S) :
    Calls Try.prog 9 #[.pointer (some ⟨g, 0, none⟩), .agg us.toArray] w fun e w' => e = .returned (.bool true) ∧ Below w.heap.size w w' := by
  have hat : IsAt w (w.alloc (.cells us.toArray 30)) w.heap.size us := ⟨(Below.refl _ w).alloc (Nat.le_refl _) _, VRow.new w 30 us⟩
  obtain ⟨w1, hw1⟩ : ∃ z, z = w.alloc (.cells us.toArray 30) := ⟨_, rfl⟩
  obtain ⟨G, hG⟩ : ∃ z, z = w.heap.size := ⟨_, rfl⟩
  rw [← hw1, ← hG] at hat
  have HAT := Lib.hid hat
  have HW1 := Lib.hid hw1
  have HG := Lib.hid hG
  have HC := Lib.hid hr.1
  have HAL := Lib.hid (fun k W h => all_any 7 g m S k W h)
  have HWI := Lib.hid (fun k t W h => within_any 7 g m S k t W h)
  have HWA := Lib.hid (fun W h => waits_any 7 g m S W h)
  have HBK := Lib.hid (fun wr (h : Below w.heap.size w wr) => hbk.below h)
  obtain ⟨_, sl, hsl, hws⟩ := hr
  obtain ⟨Asl, capsl, rfl⟩ := hws.form
  obtain ⟨nn, hnn⟩ : ∃ n, n = S.W.length := ⟨_, rfl⟩
  rw [← hnn] at hsl
  simp only [← hnn] at HWA
  have HSL := Lib.hid hsl
  clear hat hw1 hG hbk hws hsl hnn
  go_enter Try.func9, Try.ntmps9
  go_upto_region 1 with fail
  change Code.wp _ _ _ _ (w.alloc (.cells us.toArray 30))
  rw [← HW1.out, show w.heap.size = G from HG.out.symm]
  clear HW1 HG
  try dsimp only [Act.put]
  go_wp2_with fail
  go_loopw [5] (fun s wr => ∃ k : Int, -1 ≤ k ∧ k ≤ 25 ∧ s = .int .i64 k ∧ IsAt w wr G us) (fun s _ => (25 - intOf s).toNat)
  case atStart => exact ⟨-1, by omega, by omega, rfl, HAT.out⟩
  case round =>
    obtain ⟨k, hk0, hk1, rfl, hat⟩ := hrel
    have HA := Lib.hid hat
    clear hat HAT
    by_cases hk : k ≤ 24
    · have dk : decide (k ≤ 24) = true := decide_eq_true hk
      by_cases hth : 0 ≤ k ∧ k < 24
      · as_aux_lemma =>
        obtain ⟨n, rfl⟩ : ∃ n : Nat, k = n := ⟨k.toNat, by omega⟩
        have hn : n < 24 := by omega
        have d1 : decide (0 ≤ (n : Int)) = true := decide_eq_true (by omega)
        have d2 : decide ((n : Int) < 24) = true := decide_eq_true (by omega)
        have hal : ∀ W, BookAt W 7 g m S → Calls Try.prog 15 #[.pointer (some ⟨g, 0, none⟩), .int .i64 (n : Int)] W fun e w' => e = .returned (.int .i64 (S.A n)) ∧ W = w' := fun W h => by
          have := HAL.out n W h
          rwa [show allF S (n : Int) = S.A n by unfold allF; rw [if_pos hth]; rfl] at this
        have c0 := HA.out.row.cell (HC.out.all n hn)
        obtain ⟨x, hx⟩ : ∃ x, x = S.A n := ⟨_, rfl⟩
        rw [← hx] at c0
        simp only [← hx] at hal
        have q : (x == x) = true := by simp
        have HAL2 := Lib.hid hal
        clear hal hx HAL hth
        go_wp2_with fail
        refine wp_region_held_drew (S := (fun w' => w'.cell? ⟨G, n, none⟩ = some (.int .i64 x))) (by kernel_rfl) ?_ (fun hHeld => ?_)
        · exact c0
        refine wpAnyH_take (i := 0) (oi := { dst := some 19, op := Go.Op.move (Go.Operand.tmp 6), type := 4, pos := "law.go:59", after := #[], guard := none }) (v := ?av0) rfl (by kernel_rfl) (by kernel_rfl) (by kernel_rfl) (fun _ _ _ h => h) (Or.inl ⟨by rfl, ?ay0⟩) (by assumption) ?ar0
        case ay0 => (intro w hSw; (try dsimp only at hSw); go_simp; try (with_reducible rfl))
        case ar0 =>
        try simp only [Act.put, List.setIfInBounds_toArray, List.set_cons_zero, List.set_cons_succ]
        refine wpAnyH_take (i := 1) (oi := { dst := some 20, op := Go.Op.move (Go.Operand.tmp 19), type := 4, pos := "law.go:59", after := #[{ on := 0, ground := Go.Ground.data }], guard := none }) (v := ?av1) rfl (by kernel_rfl) (by kernel_rfl) (by kernel_rfl) (fun _ _ _ h => h) (Or.inl ⟨by rfl, ?ay1⟩) (by assumption) ?ar1
        case ay1 => (intro w hSw; (try dsimp only at hSw); go_simp; try (with_reducible rfl))
        case ar1 =>
        try simp only [Act.put, List.setIfInBounds_toArray, List.set_cons_zero, List.set_cons_succ]
        refine wpAnyH_take (i := 2) (oi := { dst := some 21, op := Go.Op.move (Go.Operand.tmp 0), type := 24, pos := "law.go:59", after := #[{ on := 1, ground := Go.Ground.guard }], guard := some (1, true) }) (v := ?av2) rfl (by kernel_rfl) (by kernel_rfl) (by kernel_rfl) (fun _ _ _ h => h) (Or.inl ⟨by rfl, ?ay2⟩) (by assumption) ?ar2
        case ay2 => (intro w hSw; (try dsimp only at hSw); go_simp; try (with_reducible rfl))
        case ar2 =>
        try simp only [Act.put, List.setIfInBounds_toArray, List.set_cons_zero, List.set_cons_succ]
        refine wpAnyH_take (i := 3) (oi := { dst := some 22, op := Go.Op.move (Go.Operand.tmp 5), type := 3, pos := "law.go:59", after := #[{ on := 1, ground := Go.Ground.guard }], guard := some (1, true) }) (v := ?av3) rfl (by kernel_rfl) (by kernel_rfl) (by kernel_rfl) (fun _ _ _ h => h) (Or.inl ⟨by rfl, ?ay3⟩) (by assumption) ?ar3
        case ay3 => (intro w hSw; (try dsimp only at hSw); go_simp; try (with_reducible rfl))
        case ar3 =>
        try simp only [Act.put, List.setIfInBounds_toArray, List.set_cons_zero, List.set_cons_succ]
        refine wpAnyH_take (i := 5) (oi := { dst := some 24, op := Go.Op.move (Go.Operand.tmp 5), type := 3, pos := "law.go:59", after := #[{ on := 1, ground := Go.Ground.guard }], guard := some (1, true) }) (v := ?av5) rfl (by kernel_rfl) (by kernel_rfl) (by kernel_rfl) (fun _ _ _ h => h) (Or.inl ⟨by rfl, ?ay5⟩) (by assumption) ?ar5
        case ay5 => (intro w hSw; (try dsimp only at hSw); go_simp; try (with_reducible rfl))
        case ar5 =>
        try simp only [Act.put, List.setIfInBounds_toArray, List.set_cons_zero, List.set_cons_succ]
        refine wpAnyH_take (i := 6) (oi := { dst := some 25, op := Go.Op.fieldAddr 30 (Go.Operand.tmp 3) 0, type := 0, pos := "law.go:59", after := #[{ on := 1, ground := Go.Ground.guard }], guard := some (1, true) }) (v := ?av6) rfl (by kernel_rfl) (by kernel_rfl) (by kernel_rfl) (fun _ _ _ h => h) (Or.inl ⟨by rfl, ?ay6⟩) (by assumption) ?ar6
        case ay6 => (intro w hSw; (try dsimp only at hSw); go_simp; try (with_reducible rfl))
        case ar6 =>
        try simp only [Act.put, List.setIfInBounds_toArray, List.set_cons_zero, List.set_cons_succ]
        refine wpAnyH_take (i := 7) (oi := { dst := some 26, op := Go.Op.indexAddr 25 (Go.Operand.tmp 25) (Go.Operand.tmp 24), type := 0, pos := "law.go:59", after := #[{ on := 6, ground := Go.Ground.data }, { on := 5, ground := Go.Ground.data }, { on := 1, ground := Go.Ground.guard }], guard := some (1, true) }) (v := (.pointer (some ⟨G, n, none⟩))) rfl (by kernel_rfl) (by kernel_rfl) (by kernel_rfl) (fun _ _ _ h => h) (Or.inl ⟨by rfl, ?ay7⟩) (by assumption) ?ar7
        case ay7 => (intro w hSw; (try dsimp only at hSw); go_simp; try (exact fun hh => absurd hh (by omega)))
        case ar7 =>
        try simp only [Act.put, List.setIfInBounds_toArray, List.set_cons_zero, List.set_cons_succ]
        refine wpAnyH_take (i := 8) (oi := { dst := some 27, op := Go.Op.load 2 (Go.Operand.tmp 26), type := 2, pos := "law.go:59", after := #[{ on := 7, ground := Go.Ground.data }, { on := 1, ground := Go.Ground.guard }], guard := some (1, true) }) (v := (.int .i64 x)) rfl (by kernel_rfl) (by kernel_rfl) (by kernel_rfl) (fun _ _ _ h => h) (Or.inl ⟨by rfl, ?ay8⟩) (by assumption) ?ar8
        case ay8 => (intro w hSw; (try dsimp only at hSw); go_simp; try (simp [hSw]))
        case ar8 =>
        try simp only [Act.put, List.setIfInBounds_toArray, List.set_cons_zero, List.set_cons_succ]
        refine wpAnyH_ready (rs := [4]) (by kernel_rfl) (by simp) ?_
        refine AllReadyH.cons (o := { dst := some 23, op := Go.Op.call { callee := Go.Callee.value (Go.Operand.func 15), args := #[Go.Operand.tmp 21, Go.Operand.tmp 22], argTypes := #[24, 3] }, type := 2, pos := "law.go:59", after := #[{ on := 2, ground := Go.Ground.data }, { on := 3, ground := Go.Ground.data }, { on := 1, ground := Go.Ground.chain }, { on := 1, ground := Go.Ground.guard }], guard := some (1, true) }) rfl (fun K hK => ?_) (AllReadyH.nil)
        go_simp
        refine (HAL2.out _ (HBK.out _ HA.out.bel.drew)).mono ?_
        rintro e4 w4 ⟨rfl, rfl⟩
        refine hK.out _ _ ?_ (fun hHeld => ?_)
        · exact hHeld
        clear hK K
        try simp only [Act.put, List.setIfInBounds_toArray, List.set_cons_zero, List.set_cons_succ]
        refine wpAnyH_take (i := 9) (oi := { dst := some 28, op := Go.Op.binOp Go.BinOp.neq 2 (Go.Operand.tmp 23) (Go.Operand.tmp 27) 2, type := 4, pos := "law.go:59", after := #[{ on := 4, ground := Go.Ground.data }, { on := 8, ground := Go.Ground.data }, { on := 1, ground := Go.Ground.guard }], guard := some (1, true) }) (v := ?a_4v9) rfl (by kernel_rfl) (by kernel_rfl) (by kernel_rfl) (fun _ _ _ h => h) (Or.inl ⟨by rfl, ?a_4y9⟩) (by assumption) ?a_4r9
        case a_4y9 => (intro w hSw; (try dsimp only at hSw); go_simp; try (with_reducible rfl))
        case a_4r9 =>
        try simp only [Act.put, List.setIfInBounds_toArray, List.set_cons_zero, List.set_cons_succ]
        refine wpAnyH_take (i := 10) (oi := { dst := some 29, op := Go.Op.pick (Go.Operand.tmp 20) (Go.Operand.tmp 28) (Go.Operand.const (Go.Value.bool false)), type := 4, pos := "law.go:59", after := #[{ on := 1, ground := Go.Ground.data }, { on := 9, ground := Go.Ground.data }], guard := none }) (v := ?a_4v10) rfl (by kernel_rfl) (by kernel_rfl) (by kernel_rfl) (fun _ _ _ h => h) (Or.inl ⟨by rfl, ?a_4y10⟩) (by assumption) ?a_4r10
        case a_4y10 => (intro w hSw; (try dsimp only at hSw); go_simp; try (with_reducible rfl))
        case a_4r10 =>
        try simp only [Act.put, List.setIfInBounds_toArray, List.set_cons_zero, List.set_cons_succ]
        refine wpAnyH_take (i := 11) (oi := { dst := some 30, op := Go.Op.move (Go.Operand.tmp 29), type := 4, pos := "law.go:59", after := #[{ on := 10, ground := Go.Ground.data }, { on := 4, ground := Go.Ground.chain }], guard := none }) (v := ?a_4v11) rfl (by kernel_rfl) (by kernel_rfl) (by kernel_rfl) (fun _ _ _ h => h) (Or.inl ⟨by rfl, ?a_4y11⟩) (by assumption) ?a_4r11
        case a_4y11 => (intro w hSw; (try dsimp only at hSw); go_simp; try (with_reducible rfl))
        case a_4r11 =>
        try simp only [Act.put, List.setIfInBounds_toArray, List.set_cons_zero, List.set_cons_succ]
        refine wpAnyH_take (i := 12) (oi := { dst := some 31, op := Go.Op.move (Go.Operand.tmp 6), type := 4, pos := "law.go:59", after := #[{ on := 11, ground := Go.Ground.guard }], guard := some (11, false) }) (v := ?a_4v12) rfl (by kernel_rfl) (by kernel_rfl) (by kernel_rfl) (fun _ _ _ h => h) (Or.inl ⟨by rfl, ?a_4y12⟩) (by assumption) ?a_4r12
        case a_4y12 => (intro w hSw; (try dsimp only at hSw); go_simp; try (with_reducible rfl))
        case a_4r12 =>
        try simp only [Act.put, List.setIfInBounds_toArray, List.set_cons_zero, List.set_cons_succ]
        refine wpAnyH_take (i := 13) (oi := { dst := some 32, op := Go.Op.unOp Go.UnOp.not 4 (Go.Operand.tmp 31), type := 4, pos := "law.go:59", after := #[{ on := 12, ground := Go.Ground.data }, { on := 11, ground := Go.Ground.guard }], guard := some (11, false) }) (v := ?a_4v13) rfl (by kernel_rfl) (by kernel_rfl) (by kernel_rfl) (fun _ _ _ h => h) (Or.inl ⟨by rfl, ?a_4y13⟩) (by assumption) ?a_4r13
        case a_4y13 => (intro w hSw; (try dsimp only at hSw); go_simp; try (with_reducible rfl))
        case a_4r13 =>
        try simp only [Act.put, List.setIfInBounds_toArray, List.set_cons_zero, List.set_cons_succ]
        refine wpAnyH_take (i := 14) (oi := { dst := some 33, op := Go.Op.move (Go.Operand.tmp 32), type := 4, pos := "law.go:59", after := #[{ on := 13, ground := Go.Ground.data }, { on := 11, ground := Go.Ground.chain }, { on := 11, ground := Go.Ground.guard }], guard := some (11, false) }) (v := ?a_4v14) rfl (by kernel_rfl) (by kernel_rfl) (by kernel_rfl) (fun _ _ _ h => h) (Or.inl ⟨by rfl, ?a_4y14⟩) (by assumption) ?a_4r14
        case a_4y14 => (intro w hSw; (try dsimp only at hSw); go_simp; try (with_reducible rfl))
        case a_4r14 =>
        try simp only [Act.put, List.setIfInBounds_toArray, List.set_cons_zero, List.set_cons_succ]
        refine wpAnyH_take (i := 15) (oi := { dst := some 34, op := Go.Op.move (Go.Operand.tmp 0), type := 24, pos := "law.go:59", after := #[{ on := 14, ground := Go.Ground.guard }], guard := some (14, true) }) (v := undef) rfl (by kernel_rfl) (by kernel_rfl) (by kernel_rfl) (fun _ _ _ h => h) (Or.inr ⟨by rfl, rfl⟩) (by assumption) ?_
        try simp only [Act.put, List.setIfInBounds_toArray, List.set_cons_zero, List.set_cons_succ]
        refine wpAnyH_take (i := 16) (oi := { dst := some 35, op := Go.Op.move (Go.Operand.tmp 5), type := 3, pos := "law.go:59", after := #[{ on := 14, ground := Go.Ground.guard }], guard := some (14, true) }) (v := undef) rfl (by kernel_rfl) (by kernel_rfl) (by kernel_rfl) (fun _ _ _ h => h) (Or.inr ⟨by rfl, rfl⟩) (by assumption) ?_
        try simp only [Act.put, List.setIfInBounds_toArray, List.set_cons_zero, List.set_cons_succ]
        refine wpAnyH_take (i := 17) (oi := { dst := some 36, op := Go.Op.call { callee := Go.Callee.value (Go.Operand.func 15), args := #[Go.Operand.tmp 34, Go.Operand.tmp 35], argTypes := #[24, 3] }, type := 2, pos := "law.go:59", after := #[{ on := 15, ground := Go.Ground.data }, { on := 16, ground := Go.Ground.data }, { on := 14, ground := Go.Ground.chain }, { on := 14, ground := Go.Ground.guard }], guard := some (14, true) }) (v := undef) rfl (by kernel_rfl) (by kernel_rfl) (by kernel_rfl) (fun _ _ _ h => h) (Or.inr ⟨by rfl, rfl⟩) (by assumption) ?_
        try simp only [Act.put, List.setIfInBounds_toArray, List.set_cons_zero, List.set_cons_succ]
        refine wpAnyH_take (i := 18) (oi := { dst := some 37, op := Go.Op.binOp Go.BinOp.neq 2 (Go.Operand.tmp 36) (Go.Operand.const (Go.Value.int Go.IntKind.i64 0)) 2, type := 4, pos := "law.go:59", after := #[{ on := 17, ground := Go.Ground.data }, { on := 14, ground := Go.Ground.guard }], guard := some (14, true) }) (v := undef) rfl (by kernel_rfl) (by kernel_rfl) (by kernel_rfl) (fun _ _ _ h => h) (Or.inr ⟨by rfl, rfl⟩) (by assumption) ?_
        try simp only [Act.put, List.setIfInBounds_toArray, List.set_cons_zero, List.set_cons_succ]
        refine wpAnyH_take (i := 19) (oi := { dst := some 38, op := Go.Op.pick (Go.Operand.tmp 33) (Go.Operand.tmp 37) (Go.Operand.const (Go.Value.bool false)), type := 4, pos := "law.go:59", after := #[{ on := 14, ground := Go.Ground.data }, { on := 18, ground := Go.Ground.data }, { on := 11, ground := Go.Ground.guard }], guard := some (11, false) }) (v := ?a_4v19) rfl (by kernel_rfl) (by kernel_rfl) (by kernel_rfl) (fun _ _ _ h => h) (Or.inl ⟨by rfl, ?a_4y19⟩) (by assumption) ?a_4r19
        case a_4y19 => (intro w hSw; (try dsimp only at hSw); go_simp; try (with_reducible rfl))
        case a_4r19 =>
        try simp only [Act.put, List.setIfInBounds_toArray, List.set_cons_zero, List.set_cons_succ]
        refine wpAnyH_take (i := 20) (oi := { dst := some 39, op := Go.Op.pick (Go.Operand.tmp 30) (Go.Operand.const (Go.Value.bool true)) (Go.Operand.tmp 38), type := 4, pos := "law.go:59", after := #[{ on := 11, ground := Go.Ground.data }, { on := 19, ground := Go.Ground.data }], guard := none }) (v := ?a_4v20) rfl (by kernel_rfl) (by kernel_rfl) (by kernel_rfl) (fun _ _ _ h => h) (Or.inl ⟨by rfl, ?a_4y20⟩) (by assumption) ?a_4r20
        case a_4y20 => (intro w hSw; (try dsimp only at hSw); go_simp; try (with_reducible rfl))
        case a_4r20 =>
        try simp only [Act.put, List.setIfInBounds_toArray, List.set_cons_zero, List.set_cons_succ]
        refine wpAnyH_done (by kernel_rfl) ?_ _
        go_wp2_with fail
        go_loopw [7] (fun s wq => ∃ t : Int, 0 ≤ t ∧ t ≤ 14 ∧ s = .int .i64 t ∧ IsAt w wq G us) (fun s _ => (14 - intOf s).toNat)
        case atStart => exact ⟨0, by omega, by omega, rfl, HA.out.drew⟩
        case round =>
          obtain ⟨t, ht0, ht1, rfl, hat⟩ := hrel
          have HI := Lib.hid hat
          clear hat
          by_cases ht : t ≤ 13
          · have dt : decide (t ≤ 13) = true := decide_eq_true ht
            by_cases hin : 1 ≤ t ∧ t ≤ 12
            · as_aux_lemma =>
              obtain ⟨s, hs⟩ : ∃ s : Nat, t = s + 1 := ⟨(t - 1).toNat, by omega⟩
              have hs12 : s < 12 := by omega
              have d3 : decide (1 ≤ t) = true := decide_eq_true hin.1
              have d4 : decide (t ≤ 12) = true := decide_eq_true hin.2
              have hwi := HWI.out n t wr (HBK.out _ HI.out.bel) (by omega) (by omega)
              rw [show wiF S (n : Int) t = S.I n s by unfold wiF; rw [if_pos ⟨by omega, by omega, hin.1, hin.2⟩, hs]; congr 1; omega] at hwi
              have c2 := HI.out.row.cell (HC.out.wi n s hn hs12)
              obtain ⟨y, hy⟩ : ∃ y, y = S.I n s := ⟨_, rfl⟩
              rw [← hy] at c2 hwi
              have q2 : (y == y) = true := by simp
              rw [show s = t.toNat - 1 by omega] at c2
              obtain ⟨h1t, h12⟩ := hin
              have HWI2 := Lib.hid hwi
              have HT := Lib.hid ht
              clear hwi hy hs HWI
              go_wp2_with fail
              refine HWI2.out.mono ?_
              rintro e4 w4 ⟨rfl, rfl⟩
              go_wp2_with fail
              exact ⟨⟨t + 1, by omega, by omega, by first | rfl | (rw [wrap_small (by omega) (by omega)]), HI.out⟩, by first | exact meas_in HT.out | (rw [wrap_small (by omega) (by omega)]; exact meas_in HT.out)⟩
            · as_aux_lemma =>
              have hwi := HWI.out n t wr (HBK.out _ HI.out.bel) (by omega) (by omega)
              rw [show wiF S (n : Int) t = 0 by unfold wiF; rw [if_neg (by omega)]] at hwi
              have HWI2 := Lib.hid hwi
              have HT := Lib.hid ht
              clear hwi HWI
              rcases (show ¬ 1 ≤ t ∨ (1 ≤ t ∧ ¬ t ≤ 12) by omega) with c | ⟨c, c'⟩
              · have d3 : decide (1 ≤ t) = false := decide_eq_false c
                go_wp2_with fail
                refine HWI2.out.mono ?_
                rintro e4 w4 ⟨rfl, rfl⟩
                go_wp2_with fail
                exact ⟨⟨t + 1, by omega, by omega, by first | rfl | (rw [wrap_small (by omega) (by omega)]), HI.out⟩, by first | exact meas_in HT.out | (rw [wrap_small (by omega) (by omega)]; exact meas_in HT.out)⟩
              · have d3 : decide (1 ≤ t) = true := decide_eq_true c
                have d4 : decide (t ≤ 12) = false := decide_eq_false c'
                go_wp2_with fail
                refine HWI2.out.mono ?_
                rintro e4 w4 ⟨rfl, rfl⟩
                go_wp2_with fail
                exact ⟨⟨t + 1, by omega, by omega, by first | rfl | (rw [wrap_small (by omega) (by omega)]), HI.out⟩, by first | exact meas_in HT.out | (rw [wrap_small (by omega) (by omega)]; exact meas_in HT.out)⟩
          · have dt : decide (t ≤ 13) = false := decide_eq_false ht
            have HK := Lib.hid hk
            clear ht
            go_wp2_with fail
            exact ⟨⟨(n : Int) + 1, by omega, by omega, by first | rfl | (rw [wrap_small (by omega) (by omega)]), HI.out⟩, by first | exact meas_out HK.out | (rw [wrap_small (by omega) (by omega)]; exact meas_out HK.out)⟩
      · as_aux_lemma =>
        have hal : ∀ W, BookAt W 7 g m S → Calls Try.prog 15 #[.pointer (some ⟨g, 0, none⟩), .int .i64 k] W fun e w' => e = .returned (.int .i64 0) ∧ W = w' := fun W h => by
          have := HAL.out k W h
          rwa [show allF S k = 0 by unfold allF; rw [if_neg hth]] at this
        have hwi : ∀ t W, BookAt W 7 g m S → -9223372036854775808 ≤ t → t ≤ 9223372036854775807 → Calls Try.prog 16 #[.pointer (some ⟨g, 0, none⟩), .int .i64 k, .int .i64 t] W fun e w' => e = .returned (.int .i64 0) ∧ W = w' := fun t W h h1 h2 => by
          have := HWI.out k t W h h1 h2
          rwa [show wiF S k t = 0 by unfold wiF; rw [if_neg (fun q => hth ⟨q.1, q.2.1⟩)]] at this
        have HAL2 := Lib.hid hal
        have HWI2 := Lib.hid hwi
        have HK := Lib.hid hk
        have hcs : ¬ 0 ≤ k ∨ (0 ≤ k ∧ ¬ k < 24) := by omega
        clear hal hwi HAL HWI hth
        rcases hcs with c | ⟨c, c'⟩
        · as_aux_lemma =>
          have d1 : decide (0 ≤ k) = false := decide_eq_false c
          go_wp2_with fail
          refine wp_region_held_drew (S := (fun w' => IsAt w w' G us)) (by kernel_rfl) ?_ (fun hHeld => ?_)
          · exact HA.out.drew
          refine wpAnyH_take (i := 0) (oi := { dst := some 19, op := Go.Op.move (Go.Operand.tmp 6), type := 4, pos := "law.go:59", after := #[], guard := none }) (v := ?bv0) rfl (by kernel_rfl) (by kernel_rfl) (by kernel_rfl) (fun _ _ _ h => h) (Or.inl ⟨by rfl, ?by0⟩) (by assumption) ?br0
          case by0 => (intro w hSw; (try dsimp only at hSw); go_simp; try (with_reducible rfl))
          case br0 =>
          try simp only [Act.put, List.setIfInBounds_toArray, List.set_cons_zero, List.set_cons_succ]
          refine wpAnyH_take (i := 1) (oi := { dst := some 20, op := Go.Op.move (Go.Operand.tmp 19), type := 4, pos := "law.go:59", after := #[{ on := 0, ground := Go.Ground.data }], guard := none }) (v := ?bv1) rfl (by kernel_rfl) (by kernel_rfl) (by kernel_rfl) (fun _ _ _ h => h) (Or.inl ⟨by rfl, ?by1⟩) (by assumption) ?br1
          case by1 => (intro w hSw; (try dsimp only at hSw); go_simp; try (with_reducible rfl))
          case br1 =>
          try simp only [Act.put, List.setIfInBounds_toArray, List.set_cons_zero, List.set_cons_succ]
          refine wpAnyH_take (i := 2) (oi := { dst := some 21, op := Go.Op.move (Go.Operand.tmp 0), type := 24, pos := "law.go:59", after := #[{ on := 1, ground := Go.Ground.guard }], guard := some (1, true) }) (v := undef) rfl (by kernel_rfl) (by kernel_rfl) (by kernel_rfl) (fun _ _ _ h => h) (Or.inr ⟨by rfl, rfl⟩) (by assumption) ?_
          try simp only [Act.put, List.setIfInBounds_toArray, List.set_cons_zero, List.set_cons_succ]
          refine wpAnyH_take (i := 3) (oi := { dst := some 22, op := Go.Op.move (Go.Operand.tmp 5), type := 3, pos := "law.go:59", after := #[{ on := 1, ground := Go.Ground.guard }], guard := some (1, true) }) (v := undef) rfl (by kernel_rfl) (by kernel_rfl) (by kernel_rfl) (fun _ _ _ h => h) (Or.inr ⟨by rfl, rfl⟩) (by assumption) ?_
          try simp only [Act.put, List.setIfInBounds_toArray, List.set_cons_zero, List.set_cons_succ]
          refine wpAnyH_take (i := 4) (oi := { dst := some 23, op := Go.Op.call { callee := Go.Callee.value (Go.Operand.func 15), args := #[Go.Operand.tmp 21, Go.Operand.tmp 22], argTypes := #[24, 3] }, type := 2, pos := "law.go:59", after := #[{ on := 2, ground := Go.Ground.data }, { on := 3, ground := Go.Ground.data }, { on := 1, ground := Go.Ground.chain }, { on := 1, ground := Go.Ground.guard }], guard := some (1, true) }) (v := undef) rfl (by kernel_rfl) (by kernel_rfl) (by kernel_rfl) (fun _ _ _ h => h) (Or.inr ⟨by rfl, rfl⟩) (by assumption) ?_
          try simp only [Act.put, List.setIfInBounds_toArray, List.set_cons_zero, List.set_cons_succ]
          refine wpAnyH_take (i := 5) (oi := { dst := some 24, op := Go.Op.move (Go.Operand.tmp 5), type := 3, pos := "law.go:59", after := #[{ on := 1, ground := Go.Ground.guard }], guard := some (1, true) }) (v := undef) rfl (by kernel_rfl) (by kernel_rfl) (by kernel_rfl) (fun _ _ _ h => h) (Or.inr ⟨by rfl, rfl⟩) (by assumption) ?_
          try simp only [Act.put, List.setIfInBounds_toArray, List.set_cons_zero, List.set_cons_succ]
          refine wpAnyH_take (i := 6) (oi := { dst := some 25, op := Go.Op.fieldAddr 30 (Go.Operand.tmp 3) 0, type := 0, pos := "law.go:59", after := #[{ on := 1, ground := Go.Ground.guard }], guard := some (1, true) }) (v := undef) rfl (by kernel_rfl) (by kernel_rfl) (by kernel_rfl) (fun _ _ _ h => h) (Or.inr ⟨by rfl, rfl⟩) (by assumption) ?_
          try simp only [Act.put, List.setIfInBounds_toArray, List.set_cons_zero, List.set_cons_succ]
          refine wpAnyH_take (i := 7) (oi := { dst := some 26, op := Go.Op.indexAddr 25 (Go.Operand.tmp 25) (Go.Operand.tmp 24), type := 0, pos := "law.go:59", after := #[{ on := 6, ground := Go.Ground.data }, { on := 5, ground := Go.Ground.data }, { on := 1, ground := Go.Ground.guard }], guard := some (1, true) }) (v := undef) rfl (by kernel_rfl) (by kernel_rfl) (by kernel_rfl) (fun _ _ _ h => h) (Or.inr ⟨by rfl, rfl⟩) (by assumption) ?_
          try simp only [Act.put, List.setIfInBounds_toArray, List.set_cons_zero, List.set_cons_succ]
          refine wpAnyH_take (i := 8) (oi := { dst := some 27, op := Go.Op.load 2 (Go.Operand.tmp 26), type := 2, pos := "law.go:59", after := #[{ on := 7, ground := Go.Ground.data }, { on := 1, ground := Go.Ground.guard }], guard := some (1, true) }) (v := undef) rfl (by kernel_rfl) (by kernel_rfl) (by kernel_rfl) (fun _ _ _ h => h) (Or.inr ⟨by rfl, rfl⟩) (by assumption) ?_
          try simp only [Act.put, List.setIfInBounds_toArray, List.set_cons_zero, List.set_cons_succ]
          refine wpAnyH_take (i := 9) (oi := { dst := some 28, op := Go.Op.binOp Go.BinOp.neq 2 (Go.Operand.tmp 23) (Go.Operand.tmp 27) 2, type := 4, pos := "law.go:59", after := #[{ on := 4, ground := Go.Ground.data }, { on := 8, ground := Go.Ground.data }, { on := 1, ground := Go.Ground.guard }], guard := some (1, true) }) (v := undef) rfl (by kernel_rfl) (by kernel_rfl) (by kernel_rfl) (fun _ _ _ h => h) (Or.inr ⟨by rfl, rfl⟩) (by assumption) ?_
          try simp only [Act.put, List.setIfInBounds_toArray, List.set_cons_zero, List.set_cons_succ]
          refine wpAnyH_take (i := 10) (oi := { dst := some 29, op := Go.Op.pick (Go.Operand.tmp 20) (Go.Operand.tmp 28) (Go.Operand.const (Go.Value.bool false)), type := 4, pos := "law.go:59", after := #[{ on := 1, ground := Go.Ground.data }, { on := 9, ground := Go.Ground.data }], guard := none }) (v := ?bv10) rfl (by kernel_rfl) (by kernel_rfl) (by kernel_rfl) (fun _ _ _ h => h) (Or.inl ⟨by rfl, ?by10⟩) (by assumption) ?br10
          case by10 => (intro w hSw; (try dsimp only at hSw); go_simp; try (with_reducible rfl))
          case br10 =>
          try simp only [Act.put, List.setIfInBounds_toArray, List.set_cons_zero, List.set_cons_succ]
          refine wpAnyH_take (i := 11) (oi := { dst := some 30, op := Go.Op.move (Go.Operand.tmp 29), type := 4, pos := "law.go:59", after := #[{ on := 10, ground := Go.Ground.data }, { on := 4, ground := Go.Ground.chain }], guard := none }) (v := ?bv11) rfl (by kernel_rfl) (by kernel_rfl) (by kernel_rfl) (fun _ _ _ h => h) (Or.inl ⟨by rfl, ?by11⟩) (by assumption) ?br11
          case by11 => (intro w hSw; (try dsimp only at hSw); go_simp; try (with_reducible rfl))
          case br11 =>
          try simp only [Act.put, List.setIfInBounds_toArray, List.set_cons_zero, List.set_cons_succ]
          refine wpAnyH_take (i := 12) (oi := { dst := some 31, op := Go.Op.move (Go.Operand.tmp 6), type := 4, pos := "law.go:59", after := #[{ on := 11, ground := Go.Ground.guard }], guard := some (11, false) }) (v := ?bv12) rfl (by kernel_rfl) (by kernel_rfl) (by kernel_rfl) (fun _ _ _ h => h) (Or.inl ⟨by rfl, ?by12⟩) (by assumption) ?br12
          case by12 => (intro w hSw; (try dsimp only at hSw); go_simp; try (with_reducible rfl))
          case br12 =>
          try simp only [Act.put, List.setIfInBounds_toArray, List.set_cons_zero, List.set_cons_succ]
          refine wpAnyH_take (i := 13) (oi := { dst := some 32, op := Go.Op.unOp Go.UnOp.not 4 (Go.Operand.tmp 31), type := 4, pos := "law.go:59", after := #[{ on := 12, ground := Go.Ground.data }, { on := 11, ground := Go.Ground.guard }], guard := some (11, false) }) (v := ?bv13) rfl (by kernel_rfl) (by kernel_rfl) (by kernel_rfl) (fun _ _ _ h => h) (Or.inl ⟨by rfl, ?by13⟩) (by assumption) ?br13
          case by13 => (intro w hSw; (try dsimp only at hSw); go_simp; try (with_reducible rfl))
          case br13 =>
          try simp only [Act.put, List.setIfInBounds_toArray, List.set_cons_zero, List.set_cons_succ]
          refine wpAnyH_take (i := 14) (oi := { dst := some 33, op := Go.Op.move (Go.Operand.tmp 32), type := 4, pos := "law.go:59", after := #[{ on := 13, ground := Go.Ground.data }, { on := 11, ground := Go.Ground.chain }, { on := 11, ground := Go.Ground.guard }], guard := some (11, false) }) (v := ?bv14) rfl (by kernel_rfl) (by kernel_rfl) (by kernel_rfl) (fun _ _ _ h => h) (Or.inl ⟨by rfl, ?by14⟩) (by assumption) ?br14
          case by14 => (intro w hSw; (try dsimp only at hSw); go_simp; try (with_reducible rfl))
          case br14 =>
          try simp only [Act.put, List.setIfInBounds_toArray, List.set_cons_zero, List.set_cons_succ]
          refine wpAnyH_take (i := 15) (oi := { dst := some 34, op := Go.Op.move (Go.Operand.tmp 0), type := 24, pos := "law.go:59", after := #[{ on := 14, ground := Go.Ground.guard }], guard := some (14, true) }) (v := ?bv15) rfl (by kernel_rfl) (by kernel_rfl) (by kernel_rfl) (fun _ _ _ h => h) (Or.inl ⟨by rfl, ?by15⟩) (by assumption) ?br15
          case by15 => (intro w hSw; (try dsimp only at hSw); go_simp; try (with_reducible rfl))
          case br15 =>
          try simp only [Act.put, List.setIfInBounds_toArray, List.set_cons_zero, List.set_cons_succ]
          refine wpAnyH_take (i := 16) (oi := { dst := some 35, op := Go.Op.move (Go.Operand.tmp 5), type := 3, pos := "law.go:59", after := #[{ on := 14, ground := Go.Ground.guard }], guard := some (14, true) }) (v := ?bv16) rfl (by kernel_rfl) (by kernel_rfl) (by kernel_rfl) (fun _ _ _ h => h) (Or.inl ⟨by rfl, ?by16⟩) (by assumption) ?br16
          case by16 => (intro w hSw; (try dsimp only at hSw); go_simp; try (with_reducible rfl))
          case br16 =>
          try simp only [Act.put, List.setIfInBounds_toArray, List.set_cons_zero, List.set_cons_succ]
          refine wpAnyH_ready (rs := [17]) (by kernel_rfl) (by simp) ?_
          refine AllReadyH.cons (o := { dst := some 36, op := Go.Op.call { callee := Go.Callee.value (Go.Operand.func 15), args := #[Go.Operand.tmp 34, Go.Operand.tmp 35], argTypes := #[24, 3] }, type := 2, pos := "law.go:59", after := #[{ on := 15, ground := Go.Ground.data }, { on := 16, ground := Go.Ground.data }, { on := 14, ground := Go.Ground.chain }, { on := 14, ground := Go.Ground.guard }], guard := some (14, true) }) rfl (fun K hK => ?_) (AllReadyH.nil)
          go_simp
          refine (HAL2.out _ (HBK.out _ HA.out.bel.drew)).mono ?_
          rintro e4 w4 ⟨rfl, rfl⟩
          refine hK.out _ _ ?_ (fun hHeld => ?_)
          · exact hHeld
          clear hK K
          try simp only [Act.put, List.setIfInBounds_toArray, List.set_cons_zero, List.set_cons_succ]
          refine wpAnyH_take (i := 18) (oi := { dst := some 37, op := Go.Op.binOp Go.BinOp.neq 2 (Go.Operand.tmp 36) (Go.Operand.const (Go.Value.int Go.IntKind.i64 0)) 2, type := 4, pos := "law.go:59", after := #[{ on := 17, ground := Go.Ground.data }, { on := 14, ground := Go.Ground.guard }], guard := some (14, true) }) (v := ?b_17v18) rfl (by kernel_rfl) (by kernel_rfl) (by kernel_rfl) (fun _ _ _ h => h) (Or.inl ⟨by rfl, ?b_17y18⟩) (by assumption) ?b_17r18
          case b_17y18 => (intro w hSw; (try dsimp only at hSw); go_simp; try (with_reducible rfl))
          case b_17r18 =>
          try simp only [Act.put, List.setIfInBounds_toArray, List.set_cons_zero, List.set_cons_succ]
          refine wpAnyH_take (i := 19) (oi := { dst := some 38, op := Go.Op.pick (Go.Operand.tmp 33) (Go.Operand.tmp 37) (Go.Operand.const (Go.Value.bool false)), type := 4, pos := "law.go:59", after := #[{ on := 14, ground := Go.Ground.data }, { on := 18, ground := Go.Ground.data }, { on := 11, ground := Go.Ground.guard }], guard := some (11, false) }) (v := ?b_17v19) rfl (by kernel_rfl) (by kernel_rfl) (by kernel_rfl) (fun _ _ _ h => h) (Or.inl ⟨by rfl, ?b_17y19⟩) (by assumption) ?b_17r19
          case b_17y19 => (intro w hSw; (try dsimp only at hSw); go_simp; try (with_reducible rfl))
          case b_17r19 =>
          try simp only [Act.put, List.setIfInBounds_toArray, List.set_cons_zero, List.set_cons_succ]
          refine wpAnyH_take (i := 20) (oi := { dst := some 39, op := Go.Op.pick (Go.Operand.tmp 30) (Go.Operand.const (Go.Value.bool true)) (Go.Operand.tmp 38), type := 4, pos := "law.go:59", after := #[{ on := 11, ground := Go.Ground.data }, { on := 19, ground := Go.Ground.data }], guard := none }) (v := ?b_17v20) rfl (by kernel_rfl) (by kernel_rfl) (by kernel_rfl) (fun _ _ _ h => h) (Or.inl ⟨by rfl, ?b_17y20⟩) (by assumption) ?b_17r20
          case b_17y20 => (intro w hSw; (try dsimp only at hSw); go_simp; try (with_reducible rfl))
          case b_17r20 =>
          try simp only [Act.put, List.setIfInBounds_toArray, List.set_cons_zero, List.set_cons_succ]
          refine wpAnyH_done (by kernel_rfl) ?_ _
          go_wp2_with fail
          go_loopw [7] (fun s wq => ∃ t : Int, 0 ≤ t ∧ t ≤ 14 ∧ s = .int .i64 t ∧ IsAt w wq G us) (fun s _ => (14 - intOf s).toNat)
          case atStart => exact ⟨0, by omega, by omega, rfl, HA.out.drew⟩
          case round =>
            obtain ⟨t, ht0, ht1, rfl, hat⟩ := hrel
            have HI := Lib.hid hat
            clear hat
            by_cases ht : t ≤ 13
            · have dt : decide (t ≤ 13) = true := decide_eq_true ht
              have HT := Lib.hid ht
              have HW3 := Lib.hid (HWI2.out t wr (HBK.out _ HI.out.bel) (by omega) (by omega))
              go_wp2_with fail
              refine HW3.out.mono ?_
              rintro e4 w4 ⟨rfl, rfl⟩
              go_wp2_with fail
              exact ⟨⟨t + 1, by omega, by omega, by first | rfl | (rw [wrap_small (by omega) (by omega)]), HI.out⟩, by first | exact meas_in HT.out | (rw [wrap_small (by omega) (by omega)]; exact meas_in HT.out)⟩
            · have dt : decide (t ≤ 13) = false := decide_eq_false ht
              clear ht
              go_wp2_with fail
              exact ⟨⟨k + 1, by omega, by omega, by first | rfl | (rw [wrap_small (by omega) (by omega)]), HI.out⟩, by first | exact meas_out HK.out | (rw [wrap_small (by omega) (by omega)]; exact meas_out HK.out)⟩
        · as_aux_lemma =>
          have d1 : decide (0 ≤ k) = true := decide_eq_true c
          have d2 : decide (k < 24) = false := decide_eq_false c'
          go_wp2_with fail
          refine wp_region_held_drew (S := (fun w' => IsAt w w' G us)) (by kernel_rfl) ?_ (fun hHeld => ?_)
          · exact HA.out.drew
          refine wpAnyH_take (i := 0) (oi := { dst := some 19, op := Go.Op.move (Go.Operand.tmp 6), type := 4, pos := "law.go:59", after := #[], guard := none }) (v := ?cv0) rfl (by kernel_rfl) (by kernel_rfl) (by kernel_rfl) (fun _ _ _ h => h) (Or.inl ⟨by rfl, ?cy0⟩) (by assumption) ?cr0
          case cy0 => (intro w hSw; (try dsimp only at hSw); go_simp; try (with_reducible rfl))
          case cr0 =>
          try simp only [Act.put, List.setIfInBounds_toArray, List.set_cons_zero, List.set_cons_succ]
          refine wpAnyH_take (i := 1) (oi := { dst := some 20, op := Go.Op.move (Go.Operand.tmp 19), type := 4, pos := "law.go:59", after := #[{ on := 0, ground := Go.Ground.data }], guard := none }) (v := ?cv1) rfl (by kernel_rfl) (by kernel_rfl) (by kernel_rfl) (fun _ _ _ h => h) (Or.inl ⟨by rfl, ?cy1⟩) (by assumption) ?cr1
          case cy1 => (intro w hSw; (try dsimp only at hSw); go_simp; try (with_reducible rfl))
          case cr1 =>
          try simp only [Act.put, List.setIfInBounds_toArray, List.set_cons_zero, List.set_cons_succ]
          refine wpAnyH_take (i := 2) (oi := { dst := some 21, op := Go.Op.move (Go.Operand.tmp 0), type := 24, pos := "law.go:59", after := #[{ on := 1, ground := Go.Ground.guard }], guard := some (1, true) }) (v := undef) rfl (by kernel_rfl) (by kernel_rfl) (by kernel_rfl) (fun _ _ _ h => h) (Or.inr ⟨by rfl, rfl⟩) (by assumption) ?_
          try simp only [Act.put, List.setIfInBounds_toArray, List.set_cons_zero, List.set_cons_succ]
          refine wpAnyH_take (i := 3) (oi := { dst := some 22, op := Go.Op.move (Go.Operand.tmp 5), type := 3, pos := "law.go:59", after := #[{ on := 1, ground := Go.Ground.guard }], guard := some (1, true) }) (v := undef) rfl (by kernel_rfl) (by kernel_rfl) (by kernel_rfl) (fun _ _ _ h => h) (Or.inr ⟨by rfl, rfl⟩) (by assumption) ?_
          try simp only [Act.put, List.setIfInBounds_toArray, List.set_cons_zero, List.set_cons_succ]
          refine wpAnyH_take (i := 4) (oi := { dst := some 23, op := Go.Op.call { callee := Go.Callee.value (Go.Operand.func 15), args := #[Go.Operand.tmp 21, Go.Operand.tmp 22], argTypes := #[24, 3] }, type := 2, pos := "law.go:59", after := #[{ on := 2, ground := Go.Ground.data }, { on := 3, ground := Go.Ground.data }, { on := 1, ground := Go.Ground.chain }, { on := 1, ground := Go.Ground.guard }], guard := some (1, true) }) (v := undef) rfl (by kernel_rfl) (by kernel_rfl) (by kernel_rfl) (fun _ _ _ h => h) (Or.inr ⟨by rfl, rfl⟩) (by assumption) ?_
          try simp only [Act.put, List.setIfInBounds_toArray, List.set_cons_zero, List.set_cons_succ]
          refine wpAnyH_take (i := 5) (oi := { dst := some 24, op := Go.Op.move (Go.Operand.tmp 5), type := 3, pos := "law.go:59", after := #[{ on := 1, ground := Go.Ground.guard }], guard := some (1, true) }) (v := undef) rfl (by kernel_rfl) (by kernel_rfl) (by kernel_rfl) (fun _ _ _ h => h) (Or.inr ⟨by rfl, rfl⟩) (by assumption) ?_
          try simp only [Act.put, List.setIfInBounds_toArray, List.set_cons_zero, List.set_cons_succ]
          refine wpAnyH_take (i := 6) (oi := { dst := some 25, op := Go.Op.fieldAddr 30 (Go.Operand.tmp 3) 0, type := 0, pos := "law.go:59", after := #[{ on := 1, ground := Go.Ground.guard }], guard := some (1, true) }) (v := undef) rfl (by kernel_rfl) (by kernel_rfl) (by kernel_rfl) (fun _ _ _ h => h) (Or.inr ⟨by rfl, rfl⟩) (by assumption) ?_
          try simp only [Act.put, List.setIfInBounds_toArray, List.set_cons_zero, List.set_cons_succ]
          refine wpAnyH_take (i := 7) (oi := { dst := some 26, op := Go.Op.indexAddr 25 (Go.Operand.tmp 25) (Go.Operand.tmp 24), type := 0, pos := "law.go:59", after := #[{ on := 6, ground := Go.Ground.data }, { on := 5, ground := Go.Ground.data }, { on := 1, ground := Go.Ground.guard }], guard := some (1, true) }) (v := undef) rfl (by kernel_rfl) (by kernel_rfl) (by kernel_rfl) (fun _ _ _ h => h) (Or.inr ⟨by rfl, rfl⟩) (by assumption) ?_
          try simp only [Act.put, List.setIfInBounds_toArray, List.set_cons_zero, List.set_cons_succ]
          refine wpAnyH_take (i := 8) (oi := { dst := some 27, op := Go.Op.load 2 (Go.Operand.tmp 26), type := 2, pos := "law.go:59", after := #[{ on := 7, ground := Go.Ground.data }, { on := 1, ground := Go.Ground.guard }], guard := some (1, true) }) (v := undef) rfl (by kernel_rfl) (by kernel_rfl) (by kernel_rfl) (fun _ _ _ h => h) (Or.inr ⟨by rfl, rfl⟩) (by assumption) ?_
          try simp only [Act.put, List.setIfInBounds_toArray, List.set_cons_zero, List.set_cons_succ]
          refine wpAnyH_take (i := 9) (oi := { dst := some 28, op := Go.Op.binOp Go.BinOp.neq 2 (Go.Operand.tmp 23) (Go.Operand.tmp 27) 2, type := 4, pos := "law.go:59", after := #[{ on := 4, ground := Go.Ground.data }, { on := 8, ground := Go.Ground.data }, { on := 1, ground := Go.Ground.guard }], guard := some (1, true) }) (v := undef) rfl (by kernel_rfl) (by kernel_rfl) (by kernel_rfl) (fun _ _ _ h => h) (Or.inr ⟨by rfl, rfl⟩) (by assumption) ?_
          try simp only [Act.put, List.setIfInBounds_toArray, List.set_cons_zero, List.set_cons_succ]
          refine wpAnyH_take (i := 10) (oi := { dst := some 29, op := Go.Op.pick (Go.Operand.tmp 20) (Go.Operand.tmp 28) (Go.Operand.const (Go.Value.bool false)), type := 4, pos := "law.go:59", after := #[{ on := 1, ground := Go.Ground.data }, { on := 9, ground := Go.Ground.data }], guard := none }) (v := ?cv10) rfl (by kernel_rfl) (by kernel_rfl) (by kernel_rfl) (fun _ _ _ h => h) (Or.inl ⟨by rfl, ?cy10⟩) (by assumption) ?cr10
          case cy10 => (intro w hSw; (try dsimp only at hSw); go_simp; try (with_reducible rfl))
          case cr10 =>
          try simp only [Act.put, List.setIfInBounds_toArray, List.set_cons_zero, List.set_cons_succ]
          refine wpAnyH_take (i := 11) (oi := { dst := some 30, op := Go.Op.move (Go.Operand.tmp 29), type := 4, pos := "law.go:59", after := #[{ on := 10, ground := Go.Ground.data }, { on := 4, ground := Go.Ground.chain }], guard := none }) (v := ?cv11) rfl (by kernel_rfl) (by kernel_rfl) (by kernel_rfl) (fun _ _ _ h => h) (Or.inl ⟨by rfl, ?cy11⟩) (by assumption) ?cr11
          case cy11 => (intro w hSw; (try dsimp only at hSw); go_simp; try (with_reducible rfl))
          case cr11 =>
          try simp only [Act.put, List.setIfInBounds_toArray, List.set_cons_zero, List.set_cons_succ]
          refine wpAnyH_take (i := 12) (oi := { dst := some 31, op := Go.Op.move (Go.Operand.tmp 6), type := 4, pos := "law.go:59", after := #[{ on := 11, ground := Go.Ground.guard }], guard := some (11, false) }) (v := ?cv12) rfl (by kernel_rfl) (by kernel_rfl) (by kernel_rfl) (fun _ _ _ h => h) (Or.inl ⟨by rfl, ?cy12⟩) (by assumption) ?cr12
          case cy12 => (intro w hSw; (try dsimp only at hSw); go_simp; try (with_reducible rfl))
          case cr12 =>
          try simp only [Act.put, List.setIfInBounds_toArray, List.set_cons_zero, List.set_cons_succ]
          refine wpAnyH_take (i := 13) (oi := { dst := some 32, op := Go.Op.unOp Go.UnOp.not 4 (Go.Operand.tmp 31), type := 4, pos := "law.go:59", after := #[{ on := 12, ground := Go.Ground.data }, { on := 11, ground := Go.Ground.guard }], guard := some (11, false) }) (v := ?cv13) rfl (by kernel_rfl) (by kernel_rfl) (by kernel_rfl) (fun _ _ _ h => h) (Or.inl ⟨by rfl, ?cy13⟩) (by assumption) ?cr13
          case cy13 => (intro w hSw; (try dsimp only at hSw); go_simp; try (with_reducible rfl))
          case cr13 =>
          try simp only [Act.put, List.setIfInBounds_toArray, List.set_cons_zero, List.set_cons_succ]
          refine wpAnyH_take (i := 14) (oi := { dst := some 33, op := Go.Op.move (Go.Operand.tmp 32), type := 4, pos := "law.go:59", after := #[{ on := 13, ground := Go.Ground.data }, { on := 11, ground := Go.Ground.chain }, { on := 11, ground := Go.Ground.guard }], guard := some (11, false) }) (v := ?cv14) rfl (by kernel_rfl) (by kernel_rfl) (by kernel_rfl) (fun _ _ _ h => h) (Or.inl ⟨by rfl, ?cy14⟩) (by assumption) ?cr14
          case cy14 => (intro w hSw; (try dsimp only at hSw); go_simp; try (with_reducible rfl))
          case cr14 =>
          try simp only [Act.put, List.setIfInBounds_toArray, List.set_cons_zero, List.set_cons_succ]
          refine wpAnyH_take (i := 15) (oi := { dst := some 34, op := Go.Op.move (Go.Operand.tmp 0), type := 24, pos := "law.go:59", after := #[{ on := 14, ground := Go.Ground.guard }], guard := some (14, true) }) (v := ?cv15) rfl (by kernel_rfl) (by kernel_rfl) (by kernel_rfl) (fun _ _ _ h => h) (Or.inl ⟨by rfl, ?cy15⟩) (by assumption) ?cr15
          case cy15 => (intro w hSw; (try dsimp only at hSw); go_simp; try (with_reducible rfl))
          case cr15 =>
          try simp only [Act.put, List.setIfInBounds_toArray, List.set_cons_zero, List.set_cons_succ]
          refine wpAnyH_take (i := 16) (oi := { dst := some 35, op := Go.Op.move (Go.Operand.tmp 5), type := 3, pos := "law.go:59", after := #[{ on := 14, ground := Go.Ground.guard }], guard := some (14, true) }) (v := ?cv16) rfl (by kernel_rfl) (by kernel_rfl) (by kernel_rfl) (fun _ _ _ h => h) (Or.inl ⟨by rfl, ?cy16⟩) (by assumption) ?cr16
          case cy16 => (intro w hSw; (try dsimp only at hSw); go_simp; try (with_reducible rfl))
          case cr16 =>
          try simp only [Act.put, List.setIfInBounds_toArray, List.set_cons_zero, List.set_cons_succ]
          refine wpAnyH_ready (rs := [17]) (by kernel_rfl) (by simp) ?_
          refine AllReadyH.cons (o := { dst := some 36, op := Go.Op.call { callee := Go.Callee.value (Go.Operand.func 15), args := #[Go.Operand.tmp 34, Go.Operand.tmp 35], argTypes := #[24, 3] }, type := 2, pos := "law.go:59", after := #[{ on := 15, ground := Go.Ground.data }, { on := 16, ground := Go.Ground.data }, { on := 14, ground := Go.Ground.chain }, { on := 14, ground := Go.Ground.guard }], guard := some (14, true) }) rfl (fun K hK => ?_) (AllReadyH.nil)
          go_simp
          refine (HAL2.out _ (HBK.out _ HA.out.bel.drew)).mono ?_
          rintro e4 w4 ⟨rfl, rfl⟩
          refine hK.out _ _ ?_ (fun hHeld => ?_)
          · exact hHeld
          clear hK K
          try simp only [Act.put, List.setIfInBounds_toArray, List.set_cons_zero, List.set_cons_succ]
          refine wpAnyH_take (i := 18) (oi := { dst := some 37, op := Go.Op.binOp Go.BinOp.neq 2 (Go.Operand.tmp 36) (Go.Operand.const (Go.Value.int Go.IntKind.i64 0)) 2, type := 4, pos := "law.go:59", after := #[{ on := 17, ground := Go.Ground.data }, { on := 14, ground := Go.Ground.guard }], guard := some (14, true) }) (v := ?c_17v18) rfl (by kernel_rfl) (by kernel_rfl) (by kernel_rfl) (fun _ _ _ h => h) (Or.inl ⟨by rfl, ?c_17y18⟩) (by assumption) ?c_17r18
          case c_17y18 => (intro w hSw; (try dsimp only at hSw); go_simp; try (with_reducible rfl))
          case c_17r18 =>
          try simp only [Act.put, List.setIfInBounds_toArray, List.set_cons_zero, List.set_cons_succ]
          refine wpAnyH_take (i := 19) (oi := { dst := some 38, op := Go.Op.pick (Go.Operand.tmp 33) (Go.Operand.tmp 37) (Go.Operand.const (Go.Value.bool false)), type := 4, pos := "law.go:59", after := #[{ on := 14, ground := Go.Ground.data }, { on := 18, ground := Go.Ground.data }, { on := 11, ground := Go.Ground.guard }], guard := some (11, false) }) (v := ?c_17v19) rfl (by kernel_rfl) (by kernel_rfl) (by kernel_rfl) (fun _ _ _ h => h) (Or.inl ⟨by rfl, ?c_17y19⟩) (by assumption) ?c_17r19
          case c_17y19 => (intro w hSw; (try dsimp only at hSw); go_simp; try (with_reducible rfl))
          case c_17r19 =>
          try simp only [Act.put, List.setIfInBounds_toArray, List.set_cons_zero, List.set_cons_succ]
          refine wpAnyH_take (i := 20) (oi := { dst := some 39, op := Go.Op.pick (Go.Operand.tmp 30) (Go.Operand.const (Go.Value.bool true)) (Go.Operand.tmp 38), type := 4, pos := "law.go:59", after := #[{ on := 11, ground := Go.Ground.data }, { on := 19, ground := Go.Ground.data }], guard := none }) (v := ?c_17v20) rfl (by kernel_rfl) (by kernel_rfl) (by kernel_rfl) (fun _ _ _ h => h) (Or.inl ⟨by rfl, ?c_17y20⟩) (by assumption) ?c_17r20
          case c_17y20 => (intro w hSw; (try dsimp only at hSw); go_simp; try (with_reducible rfl))
          case c_17r20 =>
          try simp only [Act.put, List.setIfInBounds_toArray, List.set_cons_zero, List.set_cons_succ]
          refine wpAnyH_done (by kernel_rfl) ?_ _
          go_wp2_with fail
          go_loopw [7] (fun s wq => ∃ t : Int, 0 ≤ t ∧ t ≤ 14 ∧ s = .int .i64 t ∧ IsAt w wq G us) (fun s _ => (14 - intOf s).toNat)
          case atStart => exact ⟨0, by omega, by omega, rfl, HA.out.drew⟩
          case round =>
            obtain ⟨t, ht0, ht1, rfl, hat⟩ := hrel
            have HI := Lib.hid hat
            clear hat
            by_cases ht : t ≤ 13
            · have dt : decide (t ≤ 13) = true := decide_eq_true ht
              have HT := Lib.hid ht
              have HW3 := Lib.hid (HWI2.out t wr (HBK.out _ HI.out.bel) (by omega) (by omega))
              go_wp2_with fail
              refine HW3.out.mono ?_
              rintro e4 w4 ⟨rfl, rfl⟩
              go_wp2_with fail
              exact ⟨⟨t + 1, by omega, by omega, by first | rfl | (rw [wrap_small (by omega) (by omega)]), HI.out⟩, by first | exact meas_in HT.out | (rw [wrap_small (by omega) (by omega)]; exact meas_in HT.out)⟩
            · have dt : decide (t ≤ 13) = false := decide_eq_false ht
              clear ht
              go_wp2_with fail
              exact ⟨⟨k + 1, by omega, by omega, by first | rfl | (rw [wrap_small (by omega) (by omega)]), HI.out⟩, by first | exact meas_out HK.out | (rw [wrap_small (by omega) (by omega)]; exact meas_out HK.out)⟩
    · have dk : decide (k ≤ 24) = false := decide_eq_false hk
      have c2 := HA.out.row.cell HSL.out
      have q : ((nn : Int) == (nn : Int)) = true := by simp
      clear hk
      go_wp2_with fail
      refine wp_region_held_drew (S := (fun w' => w'.cell? ⟨G, 312, none⟩ = some (.slice Asl nn capsl))) (by kernel_rfl) ?_ (fun hHeld => ?_)
      · exact c2
      refine wpAnyH_take (i := 0) (oi := { dst := some 68, op := Go.Op.move (Go.Operand.tmp 0), type := 24, pos := "law.go:73", after := #[], guard := none }) (v := ?zv0) rfl (by kernel_rfl) (by kernel_rfl) (by kernel_rfl) (fun _ _ _ h => h) (Or.inl ⟨by rfl, ?zy0⟩) (by assumption) ?zr0
      case zy0 => (intro w hSw; (try dsimp only at hSw); go_simp; try (with_reducible rfl))
      case zr0 =>
      try simp only [Act.put, List.setIfInBounds_toArray, List.set_cons_zero, List.set_cons_succ]
      refine wpAnyH_take (i := 2) (oi := { dst := some 70, op := Go.Op.fieldAddr 30 (Go.Operand.tmp 3) 2, type := 0, pos := "law.go:73", after := #[], guard := none }) (v := ?zv2) rfl (by kernel_rfl) (by kernel_rfl) (by kernel_rfl) (fun _ _ _ h => h) (Or.inl ⟨by rfl, ?zy2⟩) (by assumption) ?zr2
      case zy2 => (intro w hSw; (try dsimp only at hSw); go_simp; try (with_reducible rfl))
      case zr2 =>
      try simp only [Act.put, List.setIfInBounds_toArray, List.set_cons_zero, List.set_cons_succ]
      refine wpAnyH_take (i := 3) (oi := { dst := some 71, op := Go.Op.load 28 (Go.Operand.tmp 70), type := 28, pos := "law.go:73", after := #[{ on := 2, ground := Go.Ground.data }], guard := none }) (v := (.slice Asl nn capsl)) rfl (by kernel_rfl) (by kernel_rfl) (by kernel_rfl) (fun _ _ _ h => h) (Or.inl ⟨by rfl, ?zy3⟩) (by assumption) ?zr3
      case zy3 => (intro w hSw; (try dsimp only at hSw); go_simp; try (simp [hSw]))
      case zr3 =>
      try simp only [Act.put, List.setIfInBounds_toArray, List.set_cons_zero, List.set_cons_succ]
      refine wpAnyH_take (i := 4) (oi := { dst := some 72, op := Go.Op.call { callee := Go.Callee.builtin Go.Builtin.len, args := #[Go.Operand.tmp 71], argTypes := #[28] }, type := 3, pos := "law.go:73", after := #[{ on := 3, ground := Go.Ground.data }], guard := none }) (v := ?zv4) rfl (by kernel_rfl) (by kernel_rfl) (by kernel_rfl) (fun _ _ _ h => h) (Or.inl ⟨by rfl, ?zy4⟩) (by assumption) ?zr4
      case zy4 => (intro w hSw; (try dsimp only at hSw); go_simp; try (with_reducible rfl))
      case zr4 =>
      try simp only [Act.put, List.setIfInBounds_toArray, List.set_cons_zero, List.set_cons_succ]
      refine wpAnyH_ready (rs := [1]) (by kernel_rfl) (by simp) ?_
      refine AllReadyH.cons (o := { dst := some 69, op := Go.Op.call { callee := Go.Callee.value (Go.Operand.func 17), args := #[Go.Operand.tmp 68], argTypes := #[24] }, type := 3, pos := "law.go:73", after := #[{ on := 0, ground := Go.Ground.data }], guard := none }) rfl (fun K hK => ?_) (AllReadyH.nil)
      go_simp
      refine (HWA.out _ (HBK.out _ HA.out.bel.drew)).mono ?_
      rintro e4 w4 ⟨rfl, rfl⟩
      refine hK.out _ _ ?_ (fun hHeld => ?_)
      · exact hHeld
      clear hK K
      try simp only [Act.put, List.setIfInBounds_toArray, List.set_cons_zero, List.set_cons_succ]
      refine wpAnyH_take (i := 5) (oi := { dst := some 73, op := Go.Op.binOp Go.BinOp.eql 3 (Go.Operand.tmp 69) (Go.Operand.tmp 72) 3, type := 4, pos := "law.go:73", after := #[{ on := 1, ground := Go.Ground.data }, { on := 4, ground := Go.Ground.data }], guard := none }) (v := ?z_1v5) rfl (by kernel_rfl) (by kernel_rfl) (by kernel_rfl) (fun _ _ _ h => h) (Or.inl ⟨by rfl, ?z_1y5⟩) (by assumption) ?z_1r5
      case z_1y5 => (intro w hSw; (try dsimp only at hSw); go_simp; try (with_reducible rfl))
      case z_1r5 =>
      try simp only [Act.put, List.setIfInBounds_toArray, List.set_cons_zero, List.set_cons_succ]
      refine wpAnyH_take (i := 6) (oi := { dst := some 4, op := Go.Op.assign (Go.Operand.tmp 73), type := 4, pos := "law.go:73", after := #[{ on := 5, ground := Go.Ground.data }, { on := 1, ground := Go.Ground.chain }, { on := 0, ground := Go.Ground.phase }, { on := 1, ground := Go.Ground.phase }, { on := 2, ground := Go.Ground.phase }, { on := 3, ground := Go.Ground.phase }, { on := 4, ground := Go.Ground.phase }, { on := 5, ground := Go.Ground.phase }], guard := none }) (v := ?z_1v6) rfl (by kernel_rfl) (by kernel_rfl) (by kernel_rfl) (fun _ _ _ h => h) (Or.inl ⟨by rfl, ?z_1y6⟩) (by assumption) ?z_1r6
      case z_1y6 => (intro w hSw; (try dsimp only at hSw); go_simp; try (with_reducible rfl))
      case z_1r6 =>
      try simp only [Act.put, List.setIfInBounds_toArray, List.set_cons_zero, List.set_cons_succ]
      refine wpAnyH_done (by kernel_rfl) ?_ _
      go_wp2_with fail
      exact bodyPost_ret (results_tmp rfl _ _ _) rfl ⟨rfl, HA.out.bel.drew⟩
end Go.Proofs.Ytfhpodeppmnopaa
