/-
  TextBase58 returns true for every input, and leaves each argument as it was. Conditions: none beyond the statement's own (the listed variables hold what the program's text lays; the card ties them).
-/
import Derived.Test.YtehodjbjioepnaaDoorJ7
import Derived.BigQuiet
import Derived.Deep.QuietTactic
import Derived.IntWalk
import Derived.Deep.RegionHeld
import Derived.OrdersHeld
import Derived.Test.YtehodjbjioepnaaDoorRows
import Derived.Test.YtehodjbjioepnaaDoorCards
import Derived.Test.YtehodjbjioepnaaDoorTie
import Derived.SevenTiedAt
import Derived.ChangeSame
import Derived.JoinedOf
import Derived.JoinedAt
import Derived.LaidMore
import Derived.LaidHandle
import Derived.Stop.Joined
import Derived.Deep.Slices
import Derived.Deep.Fields
import Derived.ProofKit
import Derived.OpenShut
import Derived.ChangeOld
import Derived.SizedLaws
import Derived.ChangeMaps5
import Derived.Lib.LaidTab
/-
  The references' Kept: true, where the whole is as Spare made it. Conditions: sizes within the reach.
-/
namespace Go.Proofs.YtehodjbjioepnaaDoor
open Go.RowKit

set_option maxRecDepth 100000 in
set_option maxHeartbeats 1600000 in
theorem kept_yes (B B' : Nat) (x y : Value) (bs : List UInt8) (w : World) (hx : Byt w B x (tinted bs)) (hy : Byt w B' y bs) (hl : bs.length ≤ 60000) :
    Calls Tryd.prog 11 #[x, y] w fun e w' => e = .returned (.bool true) ∧ ∃ k, w' = w.drewN k := by
  obtain ⟨A, c, hxf⟩ := hx.form
  obtain ⟨A2, c2, hyf⟩ := hy.form
  subst hxf hyf
  have hcapx := hx.cap
  have hcapy := hy.cap
  rw [tinted_length] at hcapx hx ⊢
  have hX := Lib.hid hx
  have hY := Lib.hid hy
  clear hx hy
  go_enter Tryd.func11, Tryd.ntmps11
  go_wp2_with fail
  go_loopw [5] (fun s wr => ∃ i : Nat, i ≤ bs.length + 9 ∧ s = .int .i64 i ∧ ∃ k, wr = w.drewN k) (fun s _ => bs.length + 9 - (intOf s).toNat)
  case atStart => exact ⟨0, Nat.zero_le _, rfl, 0, rfl⟩
  case round =>
    obtain ⟨i, hi, rfl, k, rfl⟩ := hrel
    by_cases hlt : i < bs.length + 9
    · obtain ⟨A', c', e0, _, _, _, h4⟩ := hX.out
      have he0 := e0
      injection e0 with e1 e2 e3
      subst e1 e3
      obtain ⟨b, o, rfl, hb, hbc⟩ := h4 (by intro hn; have := tinted_length bs; rw [hn] at this; simp at this)
      by_cases hlow : i < bs.length
      · obtain ⟨A', c', e0, _, _, _, h4⟩ := hY.out
        injection e0 with e1 e2 e3
        subst e1 e3
        obtain ⟨b2, o2, rfl, hb2, hbc2⟩ := h4 (by rintro rfl; simp at hlow)
        have hci := hbc i _ ((tinted_low hlow).trans (List.getElem?_eq_getElem hlow))
        have hci2 := hbc2 i _ (List.getElem?_eq_getElem hlow)
        obtain ⟨q, hq⟩ : ∃ q, q = bs[i] := ⟨_, rfl⟩
        rw [← hq] at hci hci2
        replace hci : w.cell? ⟨b, o + i, none⟩ = some (.int .u8 (q.toNat : Int)) := hci
        replace hci2 : w.cell? ⟨b2, o2 + i, none⟩ = some (.int .u8 (q.toNat : Int)) := hci2
        have hd3 : ((q.toNat : Int) != (q.toNat : Int)) = false := by simp
        clear hbc hbc2 h4 hq
        have hd : decide (i < bs.length) = true := by simpa using hlow
        obtain ⟨W, hW⟩ : ∃ W, W = w.drewN k := ⟨_, rfl⟩
        have hc1 : W.drew.cell? ⟨b, o + i, none⟩ = some (.int .u8 (q.toNat : Int)) := by rw [hW]; exact hci
        have hc2 : W.drew.cell? ⟨b2, o2 + i, none⟩ = some (.int .u8 (q.toNat : Int)) := by rw [hW]; exact hci2
        have HW := Lib.hid hW
        rw [← hW]
        clear e2 he0 hX hY hci hci2 hW
        go_wp2_with fail
        refine wp_region_held_drew (S := (fun w' => w'.cell? ⟨b, o + i, none⟩ = some (.int .u8 (q.toNat : Int)) ∧ w'.cell? ⟨b2, o2 + i, none⟩ = some (.int .u8 (q.toNat : Int)))) (by kernel_rfl) ?_ (fun hHeld => ?_)
        · exact ⟨hc1, hc2⟩
        refine wpAnyH_take (i := 0) (oi := { dst := some 18, op := Go.Op.move (Go.Operand.tmp 5), type := 3, pos := "ref.go:185", after := #[], guard := none }) (v := ?av0) rfl (by kernel_rfl) (by kernel_rfl) (by kernel_rfl) (fun _ _ _ h => h) (Or.inl ⟨by rfl, ?ay0⟩) (by assumption) ?ar0
        case ay0 => (intro w hSw; (try dsimp only at hSw); go_simp; try (with_reducible rfl))
        case ar0 =>
        try simp only [Act.put, List.setIfInBounds_toArray, List.set_cons_zero, List.set_cons_succ]
        refine wpAnyH_take (i := 1) (oi := { dst := some 19, op := Go.Op.move (Go.Operand.tmp 1), type := 22, pos := "ref.go:185", after := #[], guard := none }) (v := ?av1) rfl (by kernel_rfl) (by kernel_rfl) (by kernel_rfl) (fun _ _ _ h => h) (Or.inl ⟨by rfl, ?ay1⟩) (by assumption) ?ar1
        case ay1 => (intro w hSw; (try dsimp only at hSw); go_simp; try (with_reducible rfl))
        case ar1 =>
        try simp only [Act.put, List.setIfInBounds_toArray, List.set_cons_zero, List.set_cons_succ]
        refine wpAnyH_take (i := 2) (oi := { dst := some 20, op := Go.Op.call { callee := Go.Callee.builtin Go.Builtin.len, args := #[Go.Operand.tmp 19], argTypes := #[22] }, type := 3, pos := "ref.go:185", after := #[{ on := 1, ground := Go.Ground.data }], guard := none }) (v := ?av2) rfl (by kernel_rfl) (by kernel_rfl) (by kernel_rfl) (fun _ _ _ h => h) (Or.inl ⟨by rfl, ?ay2⟩) (by assumption) ?ar2
        case ay2 => (intro w hSw; (try dsimp only at hSw); go_simp; try (with_reducible rfl))
        case ar2 =>
        try simp only [Act.put, List.setIfInBounds_toArray, List.set_cons_zero, List.set_cons_succ]
        refine wpAnyH_take (i := 3) (oi := { dst := some 21, op := Go.Op.binOp Go.BinOp.lss 3 (Go.Operand.tmp 18) (Go.Operand.tmp 20) 3, type := 4, pos := "ref.go:185", after := #[{ on := 0, ground := Go.Ground.data }, { on := 2, ground := Go.Ground.data }], guard := none }) (v := (.bool true)) rfl (by kernel_rfl) (by kernel_rfl) (by kernel_rfl) (fun _ _ _ h => h) (Or.inl ⟨by rfl, ?ay3⟩) (by assumption) ?ar3
        case ay3 => (intro w hSw; (try dsimp only at hSw); go_simp; try (simp [hlow]))
        case ar3 =>
        try simp only [Act.put, List.setIfInBounds_toArray, List.set_cons_zero, List.set_cons_succ]
        refine wpAnyH_take (i := 4) (oi := { dst := some 22, op := Go.Op.move (Go.Operand.tmp 21), type := 4, pos := "ref.go:185", after := #[{ on := 3, ground := Go.Ground.data }], guard := none }) (v := ?av4) rfl (by kernel_rfl) (by kernel_rfl) (by kernel_rfl) (fun _ _ _ h => h) (Or.inl ⟨by rfl, ?ay4⟩) (by assumption) ?ar4
        case ay4 => (intro w hSw; (try dsimp only at hSw); go_simp; try (with_reducible rfl))
        case ar4 =>
        try simp only [Act.put, List.setIfInBounds_toArray, List.set_cons_zero, List.set_cons_succ]
        refine wpAnyH_take (i := 5) (oi := { dst := some 23, op := Go.Op.move (Go.Operand.tmp 0), type := 22, pos := "ref.go:185", after := #[{ on := 4, ground := Go.Ground.guard }], guard := some (4, true) }) (v := ?av5) rfl (by kernel_rfl) (by kernel_rfl) (by kernel_rfl) (fun _ _ _ h => h) (Or.inl ⟨by rfl, ?ay5⟩) (by assumption) ?ar5
        case ay5 => (intro w hSw; (try dsimp only at hSw); go_simp; try (with_reducible rfl))
        case ar5 =>
        try simp only [Act.put, List.setIfInBounds_toArray, List.set_cons_zero, List.set_cons_succ]
        refine wpAnyH_take (i := 6) (oi := { dst := some 24, op := Go.Op.move (Go.Operand.tmp 5), type := 3, pos := "ref.go:185", after := #[{ on := 4, ground := Go.Ground.guard }], guard := some (4, true) }) (v := ?av6) rfl (by kernel_rfl) (by kernel_rfl) (by kernel_rfl) (fun _ _ _ h => h) (Or.inl ⟨by rfl, ?ay6⟩) (by assumption) ?ar6
        case ay6 => (intro w hSw; (try dsimp only at hSw); go_simp; try (with_reducible rfl))
        case ar6 =>
        try simp only [Act.put, List.setIfInBounds_toArray, List.set_cons_zero, List.set_cons_succ]
        refine wpAnyH_take (i := 7) (oi := { dst := some 25, op := Go.Op.indexAddr 22 (Go.Operand.tmp 23) (Go.Operand.tmp 24), type := 0, pos := "ref.go:185", after := #[{ on := 5, ground := Go.Ground.data }, { on := 6, ground := Go.Ground.data }, { on := 4, ground := Go.Ground.guard }], guard := some (4, true) }) (v := ?av7) rfl (by kernel_rfl) (by kernel_rfl) (by kernel_rfl) (fun _ _ _ h => h) (Or.inl ⟨by rfl, ?ay7⟩) (by assumption) ?ar7
        case ay7 => (intro w hSw; (try dsimp only at hSw); go_simp; try (with_reducible rfl))
        case ar7 =>
        try simp only [Act.put, List.setIfInBounds_toArray, List.set_cons_zero, List.set_cons_succ]
        refine wpAnyH_take (i := 8) (oi := { dst := some 26, op := Go.Op.load 5 (Go.Operand.tmp 25), type := 5, pos := "ref.go:185", after := #[{ on := 7, ground := Go.Ground.data }, { on := 4, ground := Go.Ground.guard }], guard := some (4, true) }) (v := ?av8) rfl (by kernel_rfl) (by kernel_rfl) (by kernel_rfl) (fun _ _ _ h => h) (Or.inl ⟨by rfl, ?ay8⟩) (by assumption) ?ar8
        case ay8 => (intro w hSw; (try dsimp only at hSw); go_simp; try (with_reducible rfl))
        case ar8 =>
        try simp only [Act.put, List.setIfInBounds_toArray, List.set_cons_zero, List.set_cons_succ]
        refine wpAnyH_take (i := 9) (oi := { dst := some 27, op := Go.Op.move (Go.Operand.tmp 1), type := 22, pos := "ref.go:185", after := #[{ on := 4, ground := Go.Ground.guard }], guard := some (4, true) }) (v := ?av9) rfl (by kernel_rfl) (by kernel_rfl) (by kernel_rfl) (fun _ _ _ h => h) (Or.inl ⟨by rfl, ?ay9⟩) (by assumption) ?ar9
        case ay9 => (intro w hSw; (try dsimp only at hSw); go_simp; try (with_reducible rfl))
        case ar9 =>
        try simp only [Act.put, List.setIfInBounds_toArray, List.set_cons_zero, List.set_cons_succ]
        refine wpAnyH_take (i := 10) (oi := { dst := some 28, op := Go.Op.move (Go.Operand.tmp 5), type := 3, pos := "ref.go:185", after := #[{ on := 4, ground := Go.Ground.guard }], guard := some (4, true) }) (v := ?av10) rfl (by kernel_rfl) (by kernel_rfl) (by kernel_rfl) (fun _ _ _ h => h) (Or.inl ⟨by rfl, ?ay10⟩) (by assumption) ?ar10
        case ay10 => (intro w hSw; (try dsimp only at hSw); go_simp; try (with_reducible rfl))
        case ar10 =>
        try simp only [Act.put, List.setIfInBounds_toArray, List.set_cons_zero, List.set_cons_succ]
        refine wpAnyH_take (i := 11) (oi := { dst := some 29, op := Go.Op.indexAddr 22 (Go.Operand.tmp 27) (Go.Operand.tmp 28), type := 0, pos := "ref.go:185", after := #[{ on := 9, ground := Go.Ground.data }, { on := 10, ground := Go.Ground.data }, { on := 4, ground := Go.Ground.guard }], guard := some (4, true) }) (v := ?av11) rfl (by kernel_rfl) (by kernel_rfl) (by kernel_rfl) (fun _ _ _ h => h) (Or.inl ⟨by rfl, ?ay11⟩) (by assumption) ?ar11
        case ay11 => (intro w hSw; (try dsimp only at hSw); go_simp; try (with_reducible rfl))
        case ar11 =>
        try simp only [Act.put, List.setIfInBounds_toArray, List.set_cons_zero, List.set_cons_succ]
        refine wpAnyH_take (i := 12) (oi := { dst := some 30, op := Go.Op.load 5 (Go.Operand.tmp 29), type := 5, pos := "ref.go:185", after := #[{ on := 11, ground := Go.Ground.data }, { on := 4, ground := Go.Ground.guard }], guard := some (4, true) }) (v := ?av12) rfl (by kernel_rfl) (by kernel_rfl) (by kernel_rfl) (fun _ _ _ h => h) (Or.inl ⟨by rfl, ?ay12⟩) (by assumption) ?ar12
        case ay12 => (intro w hSw; (try dsimp only at hSw); go_simp; try (with_reducible rfl))
        case ar12 =>
        try simp only [Act.put, List.setIfInBounds_toArray, List.set_cons_zero, List.set_cons_succ]
        refine wpAnyH_take (i := 13) (oi := { dst := some 31, op := Go.Op.binOp Go.BinOp.neq 5 (Go.Operand.tmp 26) (Go.Operand.tmp 30) 5, type := 4, pos := "ref.go:185", after := #[{ on := 8, ground := Go.Ground.data }, { on := 12, ground := Go.Ground.data }, { on := 4, ground := Go.Ground.guard }], guard := some (4, true) }) (v := ?av13) rfl (by kernel_rfl) (by kernel_rfl) (by kernel_rfl) (fun _ _ _ h => h) (Or.inl ⟨by rfl, ?ay13⟩) (by assumption) ?ar13
        case ay13 => (intro w hSw; (try dsimp only at hSw); go_simp; try (with_reducible rfl))
        case ar13 =>
        try simp only [Act.put, List.setIfInBounds_toArray, List.set_cons_zero, List.set_cons_succ]
        refine wpAnyH_take (i := 14) (oi := { dst := some 32, op := Go.Op.pick (Go.Operand.tmp 22) (Go.Operand.tmp 31) (Go.Operand.const (Go.Value.bool false)), type := 4, pos := "ref.go:185", after := #[{ on := 4, ground := Go.Ground.data }, { on := 13, ground := Go.Ground.data }], guard := none }) (v := ?av14) rfl (by kernel_rfl) (by kernel_rfl) (by kernel_rfl) (fun _ _ _ h => h) (Or.inl ⟨by rfl, ?ay14⟩) (by assumption) ?ar14
        case ay14 => (intro w hSw; (try dsimp only at hSw); go_simp; try (with_reducible rfl))
        case ar14 =>
        try simp only [Act.put, List.setIfInBounds_toArray, List.set_cons_zero, List.set_cons_succ]
        refine wpAnyH_take (i := 15) (oi := { dst := some 33, op := Go.Op.move (Go.Operand.tmp 32), type := 4, pos := "ref.go:185", after := #[{ on := 14, ground := Go.Ground.data }, { on := 4, ground := Go.Ground.chain }], guard := none }) (v := ?av15) rfl (by kernel_rfl) (by kernel_rfl) (by kernel_rfl) (fun _ _ _ h => h) (Or.inl ⟨by rfl, ?ay15⟩) (by assumption) ?ar15
        case ay15 => (intro w hSw; (try dsimp only at hSw); go_simp; try (with_reducible rfl))
        case ar15 =>
        try simp only [Act.put, List.setIfInBounds_toArray, List.set_cons_zero, List.set_cons_succ]
        refine wpAnyH_take (i := 16) (oi := { dst := some 34, op := Go.Op.move (Go.Operand.tmp 5), type := 3, pos := "ref.go:185", after := #[{ on := 15, ground := Go.Ground.guard }], guard := some (15, false) }) (v := ?av16) rfl (by kernel_rfl) (by kernel_rfl) (by kernel_rfl) (fun _ _ _ h => h) (Or.inl ⟨by rfl, ?ay16⟩) (by assumption) ?ar16
        case ay16 => (intro w hSw; (try dsimp only at hSw); go_simp; try (with_reducible rfl))
        case ar16 =>
        try simp only [Act.put, List.setIfInBounds_toArray, List.set_cons_zero, List.set_cons_succ]
        refine wpAnyH_take (i := 17) (oi := { dst := some 35, op := Go.Op.move (Go.Operand.tmp 1), type := 22, pos := "ref.go:185", after := #[{ on := 15, ground := Go.Ground.guard }], guard := some (15, false) }) (v := ?av17) rfl (by kernel_rfl) (by kernel_rfl) (by kernel_rfl) (fun _ _ _ h => h) (Or.inl ⟨by rfl, ?ay17⟩) (by assumption) ?ar17
        case ay17 => (intro w hSw; (try dsimp only at hSw); go_simp; try (with_reducible rfl))
        case ar17 =>
        try simp only [Act.put, List.setIfInBounds_toArray, List.set_cons_zero, List.set_cons_succ]
        refine wpAnyH_take (i := 18) (oi := { dst := some 36, op := Go.Op.call { callee := Go.Callee.builtin Go.Builtin.len, args := #[Go.Operand.tmp 35], argTypes := #[22] }, type := 3, pos := "ref.go:185", after := #[{ on := 17, ground := Go.Ground.data }, { on := 15, ground := Go.Ground.guard }], guard := some (15, false) }) (v := ?av18) rfl (by kernel_rfl) (by kernel_rfl) (by kernel_rfl) (fun _ _ _ h => h) (Or.inl ⟨by rfl, ?ay18⟩) (by assumption) ?ar18
        case ay18 => (intro w hSw; (try dsimp only at hSw); go_simp; try (with_reducible rfl))
        case ar18 =>
        try simp only [Act.put, List.setIfInBounds_toArray, List.set_cons_zero, List.set_cons_succ]
        refine wpAnyH_take (i := 19) (oi := { dst := some 37, op := Go.Op.binOp Go.BinOp.geq 3 (Go.Operand.tmp 34) (Go.Operand.tmp 36) 3, type := 4, pos := "ref.go:185", after := #[{ on := 16, ground := Go.Ground.data }, { on := 18, ground := Go.Ground.data }, { on := 15, ground := Go.Ground.guard }], guard := some (15, false) }) (v := (.bool false)) rfl (by kernel_rfl) (by kernel_rfl) (by kernel_rfl) (fun _ _ _ h => h) (Or.inl ⟨by rfl, ?ay19⟩) (by assumption) ?ar19
        case ay19 => (intro w hSw; (try dsimp only at hSw); go_simp; try (simp [hlow]))
        case ar19 =>
        try simp only [Act.put, List.setIfInBounds_toArray, List.set_cons_zero, List.set_cons_succ]
        refine wpAnyH_take (i := 20) (oi := { dst := some 38, op := Go.Op.move (Go.Operand.tmp 37), type := 4, pos := "ref.go:185", after := #[{ on := 19, ground := Go.Ground.data }, { on := 15, ground := Go.Ground.chain }, { on := 15, ground := Go.Ground.guard }], guard := some (15, false) }) (v := ?av20) rfl (by kernel_rfl) (by kernel_rfl) (by kernel_rfl) (fun _ _ _ h => h) (Or.inl ⟨by rfl, ?ay20⟩) (by assumption) ?ar20
        case ay20 => (intro w hSw; (try dsimp only at hSw); go_simp; try (with_reducible rfl))
        case ar20 =>
        try simp only [Act.put, List.setIfInBounds_toArray, List.set_cons_zero, List.set_cons_succ]
        refine wpAnyH_take (i := 21) (oi := { dst := some 39, op := Go.Op.move (Go.Operand.tmp 0), type := 22, pos := "ref.go:185", after := #[{ on := 20, ground := Go.Ground.guard }], guard := some (20, true) }) (v := undef) rfl (by kernel_rfl) (by kernel_rfl) (by kernel_rfl) (fun _ _ _ h => h) (Or.inr ⟨by rfl, rfl⟩) (by assumption) ?_
        try simp only [Act.put, List.setIfInBounds_toArray, List.set_cons_zero, List.set_cons_succ]
        refine wpAnyH_take (i := 22) (oi := { dst := some 40, op := Go.Op.move (Go.Operand.tmp 5), type := 3, pos := "ref.go:185", after := #[{ on := 20, ground := Go.Ground.guard }], guard := some (20, true) }) (v := undef) rfl (by kernel_rfl) (by kernel_rfl) (by kernel_rfl) (fun _ _ _ h => h) (Or.inr ⟨by rfl, rfl⟩) (by assumption) ?_
        try simp only [Act.put, List.setIfInBounds_toArray, List.set_cons_zero, List.set_cons_succ]
        refine wpAnyH_take (i := 23) (oi := { dst := some 41, op := Go.Op.indexAddr 22 (Go.Operand.tmp 39) (Go.Operand.tmp 40), type := 0, pos := "ref.go:185", after := #[{ on := 21, ground := Go.Ground.data }, { on := 22, ground := Go.Ground.data }, { on := 20, ground := Go.Ground.guard }], guard := some (20, true) }) (v := undef) rfl (by kernel_rfl) (by kernel_rfl) (by kernel_rfl) (fun _ _ _ h => h) (Or.inr ⟨by rfl, rfl⟩) (by assumption) ?_
        try simp only [Act.put, List.setIfInBounds_toArray, List.set_cons_zero, List.set_cons_succ]
        refine wpAnyH_take (i := 24) (oi := { dst := some 42, op := Go.Op.load 5 (Go.Operand.tmp 41), type := 5, pos := "ref.go:185", after := #[{ on := 23, ground := Go.Ground.data }, { on := 20, ground := Go.Ground.guard }], guard := some (20, true) }) (v := undef) rfl (by kernel_rfl) (by kernel_rfl) (by kernel_rfl) (fun _ _ _ h => h) (Or.inr ⟨by rfl, rfl⟩) (by assumption) ?_
        try simp only [Act.put, List.setIfInBounds_toArray, List.set_cons_zero, List.set_cons_succ]
        refine wpAnyH_take (i := 25) (oi := { dst := some 43, op := Go.Op.move (Go.Operand.tmp 5), type := 3, pos := "ref.go:185", after := #[{ on := 20, ground := Go.Ground.guard }], guard := some (20, true) }) (v := undef) rfl (by kernel_rfl) (by kernel_rfl) (by kernel_rfl) (fun _ _ _ h => h) (Or.inr ⟨by rfl, rfl⟩) (by assumption) ?_
        try simp only [Act.put, List.setIfInBounds_toArray, List.set_cons_zero, List.set_cons_succ]
        refine wpAnyH_take (i := 26) (oi := { dst := some 44, op := Go.Op.binOp Go.BinOp.add 3 (Go.Operand.const (Go.Value.int Go.IntKind.i64 201)) (Go.Operand.tmp 43) 3, type := 3, pos := "ref.go:185", after := #[{ on := 25, ground := Go.Ground.data }, { on := 20, ground := Go.Ground.guard }], guard := some (20, true) }) (v := undef) rfl (by kernel_rfl) (by kernel_rfl) (by kernel_rfl) (fun _ _ _ h => h) (Or.inr ⟨by rfl, rfl⟩) (by assumption) ?_
        try simp only [Act.put, List.setIfInBounds_toArray, List.set_cons_zero, List.set_cons_succ]
        refine wpAnyH_take (i := 27) (oi := { dst := some 45, op := Go.Op.convert 3 5 (Go.Operand.tmp 44), type := 5, pos := "ref.go:185", after := #[{ on := 26, ground := Go.Ground.data }, { on := 20, ground := Go.Ground.guard }], guard := some (20, true) }) (v := undef) rfl (by kernel_rfl) (by kernel_rfl) (by kernel_rfl) (fun _ _ _ h => h) (Or.inr ⟨by rfl, rfl⟩) (by assumption) ?_
        try simp only [Act.put, List.setIfInBounds_toArray, List.set_cons_zero, List.set_cons_succ]
        refine wpAnyH_take (i := 28) (oi := { dst := some 46, op := Go.Op.binOp Go.BinOp.neq 5 (Go.Operand.tmp 42) (Go.Operand.tmp 45) 5, type := 4, pos := "ref.go:185", after := #[{ on := 24, ground := Go.Ground.data }, { on := 27, ground := Go.Ground.data }, { on := 20, ground := Go.Ground.guard }], guard := some (20, true) }) (v := undef) rfl (by kernel_rfl) (by kernel_rfl) (by kernel_rfl) (fun _ _ _ h => h) (Or.inr ⟨by rfl, rfl⟩) (by assumption) ?_
        try simp only [Act.put, List.setIfInBounds_toArray, List.set_cons_zero, List.set_cons_succ]
        refine wpAnyH_take (i := 29) (oi := { dst := some 47, op := Go.Op.pick (Go.Operand.tmp 38) (Go.Operand.tmp 46) (Go.Operand.const (Go.Value.bool false)), type := 4, pos := "ref.go:185", after := #[{ on := 20, ground := Go.Ground.data }, { on := 28, ground := Go.Ground.data }, { on := 15, ground := Go.Ground.guard }], guard := some (15, false) }) (v := ?av29) rfl (by kernel_rfl) (by kernel_rfl) (by kernel_rfl) (fun _ _ _ h => h) (Or.inl ⟨by rfl, ?ay29⟩) (by assumption) ?ar29
        case ay29 => (intro w hSw; (try dsimp only at hSw); go_simp; try (with_reducible rfl))
        case ar29 =>
        try simp only [Act.put, List.setIfInBounds_toArray, List.set_cons_zero, List.set_cons_succ]
        refine wpAnyH_take (i := 30) (oi := { dst := some 48, op := Go.Op.pick (Go.Operand.tmp 33) (Go.Operand.const (Go.Value.bool true)) (Go.Operand.tmp 47), type := 4, pos := "ref.go:185", after := #[{ on := 15, ground := Go.Ground.data }, { on := 29, ground := Go.Ground.data }], guard := none }) (v := ?av30) rfl (by kernel_rfl) (by kernel_rfl) (by kernel_rfl) (fun _ _ _ h => h) (Or.inl ⟨by rfl, ?ay30⟩) (by assumption) ?ar30
        case ay30 => (intro w hSw; (try dsimp only at hSw); go_simp; try (with_reducible rfl))
        case ar30 =>
        try simp only [Act.put, List.setIfInBounds_toArray, List.set_cons_zero, List.set_cons_succ]
        refine wpAnyH_done (by kernel_rfl) ?_ _
        go_wp2
        exact ⟨⟨i + 1, by omega, by go_num, k + 1, by rw [HW.out]; rfl⟩, by simp [intOf]; omega⟩
      · have hci := hbc i _ (tinted_high (by omega) hlt)
        rw [bv_b8] at hci
        clear hbc h4
        have hs1 : IntKind.i64.wrap (201 + (i : Int)) = 201 + (i : Int) := IntWalk.i64_in _ (by omega)
        have hs2 : IntKind.u8.wrap (201 + (i : Int)) = (201 + (i : Int)) % 256 := IntKind.wrap_u8 _
        obtain ⟨m, hm⟩ : ∃ m, m = (201 + (i : Int)) % 256 := ⟨_, rfl⟩
        rw [← hm] at hci hs2
        obtain ⟨W, hW⟩ : ∃ W, W = w.drewN k := ⟨_, rfl⟩
        have hc1 : W.drew.cell? ⟨b, o + i, none⟩ = some (.int .u8 m) := by rw [hW]; exact hci
        have HW := Lib.hid hW
        rw [← hW]
        clear e2 he0 hX hY hci hW hm
        go_wp2_with fail
        refine wp_region_held_drew (S := (fun w' => w'.cell? ⟨b, o + i, none⟩ = some (.int .u8 m))) (by kernel_rfl) ?_ (fun hHeld => ?_)
        · exact hc1
        refine wpAnyH_take (i := 0) (oi := { dst := some 18, op := Go.Op.move (Go.Operand.tmp 5), type := 3, pos := "ref.go:185", after := #[], guard := none }) (v := ?bv0) rfl (by kernel_rfl) (by kernel_rfl) (by kernel_rfl) (fun _ _ _ h => h) (Or.inl ⟨by rfl, ?by0⟩) (by assumption) ?br0
        case by0 => (intro w hSw; (try dsimp only at hSw); go_simp; try (with_reducible rfl))
        case br0 =>
        try simp only [Act.put, List.setIfInBounds_toArray, List.set_cons_zero, List.set_cons_succ]
        refine wpAnyH_take (i := 1) (oi := { dst := some 19, op := Go.Op.move (Go.Operand.tmp 1), type := 22, pos := "ref.go:185", after := #[], guard := none }) (v := ?bv1) rfl (by kernel_rfl) (by kernel_rfl) (by kernel_rfl) (fun _ _ _ h => h) (Or.inl ⟨by rfl, ?by1⟩) (by assumption) ?br1
        case by1 => (intro w hSw; (try dsimp only at hSw); go_simp; try (with_reducible rfl))
        case br1 =>
        try simp only [Act.put, List.setIfInBounds_toArray, List.set_cons_zero, List.set_cons_succ]
        refine wpAnyH_take (i := 2) (oi := { dst := some 20, op := Go.Op.call { callee := Go.Callee.builtin Go.Builtin.len, args := #[Go.Operand.tmp 19], argTypes := #[22] }, type := 3, pos := "ref.go:185", after := #[{ on := 1, ground := Go.Ground.data }], guard := none }) (v := ?bv2) rfl (by kernel_rfl) (by kernel_rfl) (by kernel_rfl) (fun _ _ _ h => h) (Or.inl ⟨by rfl, ?by2⟩) (by assumption) ?br2
        case by2 => (intro w hSw; (try dsimp only at hSw); go_simp; try (with_reducible rfl))
        case br2 =>
        try simp only [Act.put, List.setIfInBounds_toArray, List.set_cons_zero, List.set_cons_succ]
        refine wpAnyH_take (i := 3) (oi := { dst := some 21, op := Go.Op.binOp Go.BinOp.lss 3 (Go.Operand.tmp 18) (Go.Operand.tmp 20) 3, type := 4, pos := "ref.go:185", after := #[{ on := 0, ground := Go.Ground.data }, { on := 2, ground := Go.Ground.data }], guard := none }) (v := (.bool false)) rfl (by kernel_rfl) (by kernel_rfl) (by kernel_rfl) (fun _ _ _ h => h) (Or.inl ⟨by rfl, ?by3⟩) (by assumption) ?br3
        case by3 => (intro w hSw; (try dsimp only at hSw); go_simp; try (simp [hlow]))
        case br3 =>
        try simp only [Act.put, List.setIfInBounds_toArray, List.set_cons_zero, List.set_cons_succ]
        refine wpAnyH_take (i := 4) (oi := { dst := some 22, op := Go.Op.move (Go.Operand.tmp 21), type := 4, pos := "ref.go:185", after := #[{ on := 3, ground := Go.Ground.data }], guard := none }) (v := ?bv4) rfl (by kernel_rfl) (by kernel_rfl) (by kernel_rfl) (fun _ _ _ h => h) (Or.inl ⟨by rfl, ?by4⟩) (by assumption) ?br4
        case by4 => (intro w hSw; (try dsimp only at hSw); go_simp; try (with_reducible rfl))
        case br4 =>
        try simp only [Act.put, List.setIfInBounds_toArray, List.set_cons_zero, List.set_cons_succ]
        refine wpAnyH_take (i := 5) (oi := { dst := some 23, op := Go.Op.move (Go.Operand.tmp 0), type := 22, pos := "ref.go:185", after := #[{ on := 4, ground := Go.Ground.guard }], guard := some (4, true) }) (v := undef) rfl (by kernel_rfl) (by kernel_rfl) (by kernel_rfl) (fun _ _ _ h => h) (Or.inr ⟨by rfl, rfl⟩) (by assumption) ?_
        try simp only [Act.put, List.setIfInBounds_toArray, List.set_cons_zero, List.set_cons_succ]
        refine wpAnyH_take (i := 6) (oi := { dst := some 24, op := Go.Op.move (Go.Operand.tmp 5), type := 3, pos := "ref.go:185", after := #[{ on := 4, ground := Go.Ground.guard }], guard := some (4, true) }) (v := undef) rfl (by kernel_rfl) (by kernel_rfl) (by kernel_rfl) (fun _ _ _ h => h) (Or.inr ⟨by rfl, rfl⟩) (by assumption) ?_
        try simp only [Act.put, List.setIfInBounds_toArray, List.set_cons_zero, List.set_cons_succ]
        refine wpAnyH_take (i := 7) (oi := { dst := some 25, op := Go.Op.indexAddr 22 (Go.Operand.tmp 23) (Go.Operand.tmp 24), type := 0, pos := "ref.go:185", after := #[{ on := 5, ground := Go.Ground.data }, { on := 6, ground := Go.Ground.data }, { on := 4, ground := Go.Ground.guard }], guard := some (4, true) }) (v := undef) rfl (by kernel_rfl) (by kernel_rfl) (by kernel_rfl) (fun _ _ _ h => h) (Or.inr ⟨by rfl, rfl⟩) (by assumption) ?_
        try simp only [Act.put, List.setIfInBounds_toArray, List.set_cons_zero, List.set_cons_succ]
        refine wpAnyH_take (i := 8) (oi := { dst := some 26, op := Go.Op.load 5 (Go.Operand.tmp 25), type := 5, pos := "ref.go:185", after := #[{ on := 7, ground := Go.Ground.data }, { on := 4, ground := Go.Ground.guard }], guard := some (4, true) }) (v := undef) rfl (by kernel_rfl) (by kernel_rfl) (by kernel_rfl) (fun _ _ _ h => h) (Or.inr ⟨by rfl, rfl⟩) (by assumption) ?_
        try simp only [Act.put, List.setIfInBounds_toArray, List.set_cons_zero, List.set_cons_succ]
        refine wpAnyH_take (i := 9) (oi := { dst := some 27, op := Go.Op.move (Go.Operand.tmp 1), type := 22, pos := "ref.go:185", after := #[{ on := 4, ground := Go.Ground.guard }], guard := some (4, true) }) (v := undef) rfl (by kernel_rfl) (by kernel_rfl) (by kernel_rfl) (fun _ _ _ h => h) (Or.inr ⟨by rfl, rfl⟩) (by assumption) ?_
        try simp only [Act.put, List.setIfInBounds_toArray, List.set_cons_zero, List.set_cons_succ]
        refine wpAnyH_take (i := 10) (oi := { dst := some 28, op := Go.Op.move (Go.Operand.tmp 5), type := 3, pos := "ref.go:185", after := #[{ on := 4, ground := Go.Ground.guard }], guard := some (4, true) }) (v := undef) rfl (by kernel_rfl) (by kernel_rfl) (by kernel_rfl) (fun _ _ _ h => h) (Or.inr ⟨by rfl, rfl⟩) (by assumption) ?_
        try simp only [Act.put, List.setIfInBounds_toArray, List.set_cons_zero, List.set_cons_succ]
        refine wpAnyH_take (i := 11) (oi := { dst := some 29, op := Go.Op.indexAddr 22 (Go.Operand.tmp 27) (Go.Operand.tmp 28), type := 0, pos := "ref.go:185", after := #[{ on := 9, ground := Go.Ground.data }, { on := 10, ground := Go.Ground.data }, { on := 4, ground := Go.Ground.guard }], guard := some (4, true) }) (v := undef) rfl (by kernel_rfl) (by kernel_rfl) (by kernel_rfl) (fun _ _ _ h => h) (Or.inr ⟨by rfl, rfl⟩) (by assumption) ?_
        try simp only [Act.put, List.setIfInBounds_toArray, List.set_cons_zero, List.set_cons_succ]
        refine wpAnyH_take (i := 12) (oi := { dst := some 30, op := Go.Op.load 5 (Go.Operand.tmp 29), type := 5, pos := "ref.go:185", after := #[{ on := 11, ground := Go.Ground.data }, { on := 4, ground := Go.Ground.guard }], guard := some (4, true) }) (v := undef) rfl (by kernel_rfl) (by kernel_rfl) (by kernel_rfl) (fun _ _ _ h => h) (Or.inr ⟨by rfl, rfl⟩) (by assumption) ?_
        try simp only [Act.put, List.setIfInBounds_toArray, List.set_cons_zero, List.set_cons_succ]
        refine wpAnyH_take (i := 13) (oi := { dst := some 31, op := Go.Op.binOp Go.BinOp.neq 5 (Go.Operand.tmp 26) (Go.Operand.tmp 30) 5, type := 4, pos := "ref.go:185", after := #[{ on := 8, ground := Go.Ground.data }, { on := 12, ground := Go.Ground.data }, { on := 4, ground := Go.Ground.guard }], guard := some (4, true) }) (v := undef) rfl (by kernel_rfl) (by kernel_rfl) (by kernel_rfl) (fun _ _ _ h => h) (Or.inr ⟨by rfl, rfl⟩) (by assumption) ?_
        try simp only [Act.put, List.setIfInBounds_toArray, List.set_cons_zero, List.set_cons_succ]
        refine wpAnyH_take (i := 14) (oi := { dst := some 32, op := Go.Op.pick (Go.Operand.tmp 22) (Go.Operand.tmp 31) (Go.Operand.const (Go.Value.bool false)), type := 4, pos := "ref.go:185", after := #[{ on := 4, ground := Go.Ground.data }, { on := 13, ground := Go.Ground.data }], guard := none }) (v := ?bv14) rfl (by kernel_rfl) (by kernel_rfl) (by kernel_rfl) (fun _ _ _ h => h) (Or.inl ⟨by rfl, ?by14⟩) (by assumption) ?br14
        case by14 => (intro w hSw; (try dsimp only at hSw); go_simp; try (with_reducible rfl))
        case br14 =>
        try simp only [Act.put, List.setIfInBounds_toArray, List.set_cons_zero, List.set_cons_succ]
        refine wpAnyH_take (i := 15) (oi := { dst := some 33, op := Go.Op.move (Go.Operand.tmp 32), type := 4, pos := "ref.go:185", after := #[{ on := 14, ground := Go.Ground.data }, { on := 4, ground := Go.Ground.chain }], guard := none }) (v := ?bv15) rfl (by kernel_rfl) (by kernel_rfl) (by kernel_rfl) (fun _ _ _ h => h) (Or.inl ⟨by rfl, ?by15⟩) (by assumption) ?br15
        case by15 => (intro w hSw; (try dsimp only at hSw); go_simp; try (with_reducible rfl))
        case br15 =>
        try simp only [Act.put, List.setIfInBounds_toArray, List.set_cons_zero, List.set_cons_succ]
        refine wpAnyH_take (i := 16) (oi := { dst := some 34, op := Go.Op.move (Go.Operand.tmp 5), type := 3, pos := "ref.go:185", after := #[{ on := 15, ground := Go.Ground.guard }], guard := some (15, false) }) (v := ?bv16) rfl (by kernel_rfl) (by kernel_rfl) (by kernel_rfl) (fun _ _ _ h => h) (Or.inl ⟨by rfl, ?by16⟩) (by assumption) ?br16
        case by16 => (intro w hSw; (try dsimp only at hSw); go_simp; try (with_reducible rfl))
        case br16 =>
        try simp only [Act.put, List.setIfInBounds_toArray, List.set_cons_zero, List.set_cons_succ]
        refine wpAnyH_take (i := 17) (oi := { dst := some 35, op := Go.Op.move (Go.Operand.tmp 1), type := 22, pos := "ref.go:185", after := #[{ on := 15, ground := Go.Ground.guard }], guard := some (15, false) }) (v := ?bv17) rfl (by kernel_rfl) (by kernel_rfl) (by kernel_rfl) (fun _ _ _ h => h) (Or.inl ⟨by rfl, ?by17⟩) (by assumption) ?br17
        case by17 => (intro w hSw; (try dsimp only at hSw); go_simp; try (with_reducible rfl))
        case br17 =>
        try simp only [Act.put, List.setIfInBounds_toArray, List.set_cons_zero, List.set_cons_succ]
        refine wpAnyH_take (i := 18) (oi := { dst := some 36, op := Go.Op.call { callee := Go.Callee.builtin Go.Builtin.len, args := #[Go.Operand.tmp 35], argTypes := #[22] }, type := 3, pos := "ref.go:185", after := #[{ on := 17, ground := Go.Ground.data }, { on := 15, ground := Go.Ground.guard }], guard := some (15, false) }) (v := ?bv18) rfl (by kernel_rfl) (by kernel_rfl) (by kernel_rfl) (fun _ _ _ h => h) (Or.inl ⟨by rfl, ?by18⟩) (by assumption) ?br18
        case by18 => (intro w hSw; (try dsimp only at hSw); go_simp; try (with_reducible rfl))
        case br18 =>
        try simp only [Act.put, List.setIfInBounds_toArray, List.set_cons_zero, List.set_cons_succ]
        refine wpAnyH_take (i := 19) (oi := { dst := some 37, op := Go.Op.binOp Go.BinOp.geq 3 (Go.Operand.tmp 34) (Go.Operand.tmp 36) 3, type := 4, pos := "ref.go:185", after := #[{ on := 16, ground := Go.Ground.data }, { on := 18, ground := Go.Ground.data }, { on := 15, ground := Go.Ground.guard }], guard := some (15, false) }) (v := (.bool true)) rfl (by kernel_rfl) (by kernel_rfl) (by kernel_rfl) (fun _ _ _ h => h) (Or.inl ⟨by rfl, ?by19⟩) (by assumption) ?br19
        case by19 => (intro w hSw; (try dsimp only at hSw); go_simp; try (exact Nat.le_of_not_lt hlow))
        case br19 =>
        try simp only [Act.put, List.setIfInBounds_toArray, List.set_cons_zero, List.set_cons_succ]
        refine wpAnyH_take (i := 20) (oi := { dst := some 38, op := Go.Op.move (Go.Operand.tmp 37), type := 4, pos := "ref.go:185", after := #[{ on := 19, ground := Go.Ground.data }, { on := 15, ground := Go.Ground.chain }, { on := 15, ground := Go.Ground.guard }], guard := some (15, false) }) (v := ?bv20) rfl (by kernel_rfl) (by kernel_rfl) (by kernel_rfl) (fun _ _ _ h => h) (Or.inl ⟨by rfl, ?by20⟩) (by assumption) ?br20
        case by20 => (intro w hSw; (try dsimp only at hSw); go_simp; try (with_reducible rfl))
        case br20 =>
        try simp only [Act.put, List.setIfInBounds_toArray, List.set_cons_zero, List.set_cons_succ]
        refine wpAnyH_take (i := 21) (oi := { dst := some 39, op := Go.Op.move (Go.Operand.tmp 0), type := 22, pos := "ref.go:185", after := #[{ on := 20, ground := Go.Ground.guard }], guard := some (20, true) }) (v := ?bv21) rfl (by kernel_rfl) (by kernel_rfl) (by kernel_rfl) (fun _ _ _ h => h) (Or.inl ⟨by rfl, ?by21⟩) (by assumption) ?br21
        case by21 => (intro w hSw; (try dsimp only at hSw); go_simp; try (with_reducible rfl))
        case br21 =>
        try simp only [Act.put, List.setIfInBounds_toArray, List.set_cons_zero, List.set_cons_succ]
        refine wpAnyH_take (i := 22) (oi := { dst := some 40, op := Go.Op.move (Go.Operand.tmp 5), type := 3, pos := "ref.go:185", after := #[{ on := 20, ground := Go.Ground.guard }], guard := some (20, true) }) (v := ?bv22) rfl (by kernel_rfl) (by kernel_rfl) (by kernel_rfl) (fun _ _ _ h => h) (Or.inl ⟨by rfl, ?by22⟩) (by assumption) ?br22
        case by22 => (intro w hSw; (try dsimp only at hSw); go_simp; try (with_reducible rfl))
        case br22 =>
        try simp only [Act.put, List.setIfInBounds_toArray, List.set_cons_zero, List.set_cons_succ]
        refine wpAnyH_take (i := 23) (oi := { dst := some 41, op := Go.Op.indexAddr 22 (Go.Operand.tmp 39) (Go.Operand.tmp 40), type := 0, pos := "ref.go:185", after := #[{ on := 21, ground := Go.Ground.data }, { on := 22, ground := Go.Ground.data }, { on := 20, ground := Go.Ground.guard }], guard := some (20, true) }) (v := ?bv23) rfl (by kernel_rfl) (by kernel_rfl) (by kernel_rfl) (fun _ _ _ h => h) (Or.inl ⟨by rfl, ?by23⟩) (by assumption) ?br23
        case by23 => (intro w hSw; (try dsimp only at hSw); go_simp; try (with_reducible rfl))
        case br23 =>
        try simp only [Act.put, List.setIfInBounds_toArray, List.set_cons_zero, List.set_cons_succ]
        refine wpAnyH_take (i := 24) (oi := { dst := some 42, op := Go.Op.load 5 (Go.Operand.tmp 41), type := 5, pos := "ref.go:185", after := #[{ on := 23, ground := Go.Ground.data }, { on := 20, ground := Go.Ground.guard }], guard := some (20, true) }) (v := ?bv24) rfl (by kernel_rfl) (by kernel_rfl) (by kernel_rfl) (fun _ _ _ h => h) (Or.inl ⟨by rfl, ?by24⟩) (by assumption) ?br24
        case by24 => (intro w hSw; (try dsimp only at hSw); go_simp; try (with_reducible rfl))
        case br24 =>
        try simp only [Act.put, List.setIfInBounds_toArray, List.set_cons_zero, List.set_cons_succ]
        refine wpAnyH_take (i := 25) (oi := { dst := some 43, op := Go.Op.move (Go.Operand.tmp 5), type := 3, pos := "ref.go:185", after := #[{ on := 20, ground := Go.Ground.guard }], guard := some (20, true) }) (v := ?bv25) rfl (by kernel_rfl) (by kernel_rfl) (by kernel_rfl) (fun _ _ _ h => h) (Or.inl ⟨by rfl, ?by25⟩) (by assumption) ?br25
        case by25 => (intro w hSw; (try dsimp only at hSw); go_simp; try (with_reducible rfl))
        case br25 =>
        try simp only [Act.put, List.setIfInBounds_toArray, List.set_cons_zero, List.set_cons_succ]
        refine wpAnyH_take (i := 26) (oi := { dst := some 44, op := Go.Op.binOp Go.BinOp.add 3 (Go.Operand.const (Go.Value.int Go.IntKind.i64 201)) (Go.Operand.tmp 43) 3, type := 3, pos := "ref.go:185", after := #[{ on := 25, ground := Go.Ground.data }, { on := 20, ground := Go.Ground.guard }], guard := some (20, true) }) (v := ?bv26) rfl (by kernel_rfl) (by kernel_rfl) (by kernel_rfl) (fun _ _ _ h => h) (Or.inl ⟨by rfl, ?by26⟩) (by assumption) ?br26
        case by26 => (intro w hSw; (try dsimp only at hSw); go_simp; try (with_reducible rfl))
        case br26 =>
        try simp only [Act.put, List.setIfInBounds_toArray, List.set_cons_zero, List.set_cons_succ]
        refine wpAnyH_take (i := 27) (oi := { dst := some 45, op := Go.Op.convert 3 5 (Go.Operand.tmp 44), type := 5, pos := "ref.go:185", after := #[{ on := 26, ground := Go.Ground.data }, { on := 20, ground := Go.Ground.guard }], guard := some (20, true) }) (v := (.int .u8 m)) rfl (by kernel_rfl) (by kernel_rfl) (by kernel_rfl) (fun _ _ _ h => h) (Or.inl ⟨by rfl, ?by27⟩) (by assumption) ?br27
        case by27 => (intro w hSw; (try dsimp only at hSw); go_simp; try (rw [hs1, hs2]))
        case br27 =>
        try simp only [Act.put, List.setIfInBounds_toArray, List.set_cons_zero, List.set_cons_succ]
        refine wpAnyH_take (i := 28) (oi := { dst := some 46, op := Go.Op.binOp Go.BinOp.neq 5 (Go.Operand.tmp 42) (Go.Operand.tmp 45) 5, type := 4, pos := "ref.go:185", after := #[{ on := 24, ground := Go.Ground.data }, { on := 27, ground := Go.Ground.data }, { on := 20, ground := Go.Ground.guard }], guard := some (20, true) }) (v := ?bv28) rfl (by kernel_rfl) (by kernel_rfl) (by kernel_rfl) (fun _ _ _ h => h) (Or.inl ⟨by rfl, ?by28⟩) (by assumption) ?br28
        case by28 => (intro w hSw; (try dsimp only at hSw); go_simp; try (with_reducible rfl))
        case br28 =>
        try simp only [Act.put, List.setIfInBounds_toArray, List.set_cons_zero, List.set_cons_succ]
        refine wpAnyH_take (i := 29) (oi := { dst := some 47, op := Go.Op.pick (Go.Operand.tmp 38) (Go.Operand.tmp 46) (Go.Operand.const (Go.Value.bool false)), type := 4, pos := "ref.go:185", after := #[{ on := 20, ground := Go.Ground.data }, { on := 28, ground := Go.Ground.data }, { on := 15, ground := Go.Ground.guard }], guard := some (15, false) }) (v := ?bv29) rfl (by kernel_rfl) (by kernel_rfl) (by kernel_rfl) (fun _ _ _ h => h) (Or.inl ⟨by rfl, ?by29⟩) (by assumption) ?br29
        case by29 => (intro w hSw; (try dsimp only at hSw); go_simp; try (with_reducible rfl))
        case br29 =>
        try simp only [Act.put, List.setIfInBounds_toArray, List.set_cons_zero, List.set_cons_succ]
        refine wpAnyH_take (i := 30) (oi := { dst := some 48, op := Go.Op.pick (Go.Operand.tmp 33) (Go.Operand.const (Go.Value.bool true)) (Go.Operand.tmp 47), type := 4, pos := "ref.go:185", after := #[{ on := 15, ground := Go.Ground.data }, { on := 29, ground := Go.Ground.data }], guard := none }) (v := ?bv30) rfl (by kernel_rfl) (by kernel_rfl) (by kernel_rfl) (fun _ _ _ h => h) (Or.inl ⟨by rfl, ?by30⟩) (by assumption) ?br30
        case by30 => (intro w hSw; (try dsimp only at hSw); go_simp; try (with_reducible rfl))
        case br30 =>
        try simp only [Act.put, List.setIfInBounds_toArray, List.set_cons_zero, List.set_cons_succ]
        refine wpAnyH_done (by kernel_rfl) ?_ _
        go_wp2
        exact ⟨⟨i + 1, by omega, by go_num, k + 1, by rw [HW.out]; rfl⟩, by simp [intOf]; omega⟩
    · go_wp2
      go_ret
      exact ⟨rfl, k, rfl⟩

end Go.Proofs.YtehodjbjioepnaaDoor

/-
  The law on base 58. Conditions: the listed tables hold what their texts lay.
-/
namespace Go.Proofs.YtehodjbjioepnaaDoor
open Go.RowKit

theorem data_mk (l : List UInt8) : (ByteArray.data ⟨l.toArray⟩).toList = l := rfl
theorem dec_zero {cs u : List UInt8} {k : Int} {ds : List UInt8} (h : Dec cs k u) (h0 : Dec cs 0 ds) : k = 0 ∧ u = ds := h.unique h0

set_option maxRecDepth 100000 in
set_option maxHeartbeats 12800000 in
theorem b58_law (B : Nat) (x : Value) (xs : List UInt8) (s : ByteArray) (w : World) (hc : CodeIs w) (hr : Roots w) (hx : Byt w B x xs) (hB : B ≤ w.heap.size) (hs : s.size ≤ 140737488355328) :
    Calls Tryd.prog 3 #[x, .string s] w fun e w' => e = .returned (.bool true) ∧ Below w.heap.size w w' := by
  obtain ⟨A, c, hxf⟩ := hx.form
  subst hxf
  have HX := Lib.hid hx
  have HA := Lib.hid (awake_any w hc)
  have HR := Lib.hid hr
  clear hx hc hr
  go_enter Tryd.func3, Tryd.ntmps3
  go_wp2_with fail
  refine HA.out.mono ?_
  rintro e w1 ⟨rfl, hb1⟩
  have hs1 := hb1.size
  have S1 := Lib.hid (short_any 120 B _ xs w1 (HX.out.below (hb1.mono hB)) (by omega))
  have HB1 := Lib.hid hb1
  have R1 := Lib.hid (HR.out.below hb1)
  clear hb1
  go_wp2_with fail
  refine S1.out.mono ?_
  rintro e w1' ⟨⟨y, rfl, hy⟩, rfl⟩
  obtain ⟨A1, c1, rfl⟩ := hy.form
  obtain ⟨ys, hys⟩ : ∃ ys, ys = xs.take 120 := ⟨_, rfl⟩
  have hyl : ys.length ≤ 120 := by rw [hys, List.length_take]; omega
  rw [← hys] at hy ⊢
  have HY := Lib.hid hy
  have SP := Lib.hid (spare_any B _ ys w1 hy (by omega) (by omega))
  clear hy hys S1 HX HA HR
  go_wp2_with fail
  refine SP.out.mono ?_
  rintro e w2 ⟨rfl, hrow, hb2⟩
  have hs2 := hb2.size
  have hin := hrow.byt (n := ys.length) (c := ys.length + 9) (by rw [tinted_length]; omega) (by omega) (by unfold maxLen; omega)
  have htk : (tinted ys).take ys.length = ys := by unfold tinted; rw [List.take_left']; rfl
  rw [htk] at hin
  have HIN := Lib.hid hin
  have HROW := Lib.hid hrow
  have HB2 := Lib.hid hb2
  have R2 := Lib.hid (R1.out.below hb2)
  have P1 := Lib.hid (base58_any _ _ ys w2 hin (Nat.le_refl _) (by omega))
  clear hrow hin htk hb2 SP
  go_wp2_with fail
  refine P1.out.mono ?_
  rintro e w3 ⟨o1, rfl, hreb1, hb3⟩
  have hs3 := hb3.size
  have HREB1 := Lib.hid hreb1
  obtain ⟨Z1, hZ1⟩ : ∃ Z : ByteArray, Z = ⟨(letters b58D o1).toArray⟩ := ⟨_, rfl⟩
  rw [← hZ1]
  have HZ1 := Lib.hid hZ1
  have HB3 := Lib.hid hb3
  have R3 := Lib.hid (R2.out.below hb3)
  have P2 := Lib.hid (check58_any _ _ ys w3 (HIN.out.below hb3) (by omega) (by omega) R3.out)
  clear hreb1 hZ1 hb3 P1
  go_wp2_with fail
  refine P2.out.mono ?_
  rintro e w4 ⟨o2, rfl, hreb2, hb4⟩
  have hs4 := hb4.size
  have HREB2 := Lib.hid hreb2
  obtain ⟨Z2, hZ2⟩ : ∃ Z : ByteArray, Z = ⟨(letters b58D o2).toArray⟩ := ⟨_, rfl⟩
  rw [← hZ2]
  have HZ2 := Lib.hid hZ2
  have b24 := HB3.out.trans (hb4.mono hs3)
  have b14 := HB2.out.trans (b24.mono hs2)
  have HB24 := Lib.hid b24
  have R4 := Lib.hid (R3.out.below hb4)
  have HY4 := Lib.hid (HY.out.below (b14.mono (Nat.le_trans hB hs1)))
  have P3 : Hid (Calls Tryd.prog 9 #[.slice A1 ys.length c1] w4 fun e w' => e = .returned (.string Z1) ∧ Below w4.heap.size w4 w') := Lib.hid ((refB58_any B _ ys w4 HY4.out (by omega) (by omega)).mono (by
    rintro e w' ⟨o, rfl, ho, hb⟩
    rw [ho.unique HREB1.out, ← HZ1.out]
    exact ⟨rfl, hb⟩))
  clear hreb2 hZ2 hb4 b24 b14 P2
  go_wp2_with fail
  refine P3.out.mono ?_
  rintro e w5 ⟨rfl, hb5⟩
  have hs5 := hb5.size
  have b25 := HB24.out.trans (hb5.mono (by omega))
  have HB25 := Lib.hid b25
  have HY5 := Lib.hid (HY4.out.below (hb5.mono (by omega)))
  have R5 := Lib.hid (R4.out.below hb5)
  have P4 : Hid (Calls Tryd.prog 10 #[.slice A1 ys.length c1] w5 fun e w' => e = .returned (.string Z2) ∧ Below w5.heap.size w5 w') := Lib.hid ((refcheck58_any B _ ys w5 HY5.out (by omega) (by omega)).mono (by
    rintro e w' ⟨o, rfl, ho, hb⟩
    rw [ho.unique HREB2.out, ← HZ2.out]
    exact ⟨rfl, hb⟩))
  clear hb5 b25 P3 HY4 HB24
  go_wp2_with fail
  refine P4.out.mono ?_
  rintro e w6 ⟨rfl, hb6⟩
  have hs6 := hb6.size
  have b26 := HB25.out.trans (hb6.mono (by omega))
  have hrow6 : Row w6 w1.heap.size (tinted ys) := HROW.out.turns (Turns.of_below b26 (S := fun _ => False)) (fun h => h)
  have hall := hrow6.byt (n := ys.length + 9) (c := ys.length + 9) (by rw [tinted_length]; omega) (by omega) (by unfold maxLen; omega)
  rw [List.take_of_length_le (by rw [tinted_length]; omega)] at hall
  have HY6 := Lib.hid (HY5.out.below (hb6.mono (by omega)))
  have P5 := Lib.hid (kept_yes _ B _ _ ys w6 hall HY6.out (by omega))
  have R6 := Lib.hid (R5.out.below hb6)
  have HB26 := Lib.hid (HB2.out.trans (b26.mono hs2))
  clear hb6 b26 hrow6 hall P4 HY5 HB25
  go_wp2_with fail
  refine P5.out.mono ?_
  rintro e w7 ⟨rfl, k, hw7⟩
  have b67 : Below w6.heap.size w6 w7 := by rw [hw7]; exact ⟨rfl, rfl, rfl, Nat.le_refl _, fun _ _ => rfl⟩
  have hs7 := b67.size
  have R7 := Lib.hid (R6.out.below b67)
  have HB17 := Lib.hid (HB26.out.trans (b67.mono (by omega)))
  have HY7 := Lib.hid (HY6.out.below (b67.mono (by omega)))
  have P6 : Hid (Calls Tryd.prog 12 #[.string Z1] w7 fun e w' => ∃ v, e = .returned (.tuple #[v, .int .i64 0]) ∧ Byt w' w'.heap.size v ys ∧ Below w7.heap.size w7 w') := Lib.hid ((from58_any Z1 w7).mono (by
    rintro e w' ⟨k, v, o, hd, rfl, ho, hb⟩
    rw [HZ1.out, data_mk] at hd
    obtain ⟨rfl, rfl⟩ := hd.unique (dec_of_reb HREB1.out (by omega))
    exact ⟨v, rfl, Byt.of_own ho, hb⟩))
  clear b67 hw7 P5 HY6 HB26
  go_wp2_with fail
  refine P6.out.mono ?_
  rintro e w8 ⟨v8, rfl, hby8, hb8⟩
  obtain ⟨A8, c8, rfl⟩ := hby8.form
  have hs8 := hb8.size
  have R8 := Lib.hid (R7.out.below hb8)
  have HV8 := Lib.hid hby8
  have HB18 := Lib.hid (HB17.out.trans (hb8.mono (by omega)))
  have HY8 := Lib.hid (HY7.out.below (hb8.mono (by omega)))
  have P7 : Hid (Calls Tryd.prog 13 #[.string Z2] w8 fun e w' => ∃ v, e = .returned (.tuple #[v, .int .i64 0]) ∧ Byt w' w'.heap.size v ys ∧ Below w8.heap.size w8 w') := Lib.hid ((fromcheck58_any Z2 w8 R8.out).mono (by
    rintro e w' ⟨k, o, v, hd, rfl, ho, hb⟩
    rw [HZ2.out, data_mk] at hd
    obtain ⟨rfl, rfl⟩ := hd.unique (dec_of_reb HREB2.out (by rw [List.length_append, sum4_length]; omega))
    rw [chk_back] at ho ⊢
    exact ⟨v, rfl, ho, hb⟩))
  clear hby8 hb8 P6 HY7 HB17
  go_wp2_with fail
  refine P7.out.mono ?_
  rintro e w9 ⟨v9, rfl, hby9, hb9⟩
  obtain ⟨A9, c9, rfl⟩ := hby9.form
  have hs9 := hb9.size
  have R9 := Lib.hid (R8.out.below hb9)
  have HB19 := Lib.hid (HB18.out.trans (hb9.mono (by omega)))
  have HY9 := Lib.hid (HY8.out.below (hb9.mono (by omega)))
  have E1 := Lib.hid (equal_yes _ _ _ _ _ _ w9 (HV8.out.below hb9) HY9.out rfl)
  have E2 := Lib.hid (equal_yes _ _ _ _ _ _ w9 hby9 HY9.out rfl)
  clear hby9 hb9 P7 HY8 HB18
  go_wp2_with fail
  refine E1.out.mono ?_
  rintro e w9' ⟨rfl, rfl⟩
  go_wp2_with fail
  refine E2.out.mono ?_
  rintro e w9' ⟨rfl, rfl⟩
  clear E1 E2 HV8 HY9
  go_upto_if 78 with fail
  go_cut [1] (fun v wx => ∃ s' : ByteArray, v = .string s' ∧ w9 = wx)
  case first =>
    by_cases h : 300 < s.size
    · have hd : decide ((300 : Int) < (s.size : Int)) = true := decide_eq_true (by omega)
      go_wp2
      go_meet
      exact ⟨_, rfl, rfl⟩
    · have hd : decide ((300 : Int) < (s.size : Int)) = false := decide_eq_false (by omega)
      go_wp2
      go_meet
      exact ⟨s, rfl, rfl⟩
  case rest =>
    obtain ⟨s', rfl, hwc⟩ := hcut
    subst hwc
    clear hs
    obtain ⟨cs, hcs⟩ : ∃ cs, cs = s'.data.toList := ⟨_, rfl⟩
    have HCS := Lib.hid hcs
    have P8 := Lib.hid (from58_any s' w9)
    rw [← hcs] at P8
    clear hcs
    go_wp2_with fail
    refine P8.out.mono ?_
    rintro e w10 ⟨k, v10, u, hd, rfl, hown10, hb10⟩
    obtain ⟨hu0, hk0, hk3⟩ := dec_small hd
    have HD := Lib.hid hd
    have hby10 := Byt.of_own hown10
    obtain ⟨A10, c10, rfl⟩ := hby10.form
    have hs10 := hb10.size
    have HV10 := Lib.hid hby10
    have R10 := Lib.hid (R9.out.below hb10)
    have HB110 := Lib.hid (HB19.out.trans (hb10.mono (by omega)))
    have P9 : Hid (Calls Tryd.prog 15 #[.string s'] w10 fun e w' => ∃ v, e = .returned (.tuple #[v, .int .i64 k]) ∧ Byt w' w'.heap.size v u ∧ Below w10.heap.size w10 w') := Lib.hid ((refFrom58_any s' w10).mono (by
      rintro e w' ⟨k', v, o, hd', rfl, ho, hb⟩
      rw [← HCS.out] at hd'
      obtain ⟨rfl, rfl⟩ := hd'.unique HD.out
      exact ⟨v, rfl, Byt.of_own ho, hb⟩))
    clear hd hown10 hby10 hb10 P8 HB19
    go_wp2_with fail
    refine P9.out.mono ?_
    rintro e w11 ⟨v11, rfl, hby11, hb11⟩
    obtain ⟨A11, c11, rfl⟩ := hby11.form
    have hs11 := hb11.size
    have HV10' := Lib.hid (HV10.out.below hb11)
    have HV11 := Lib.hid hby11
    have R11 := Lib.hid (R10.out.below hb11)
    have HB111 := Lib.hid (HB110.out.trans (hb11.mono (by omega)))
    obtain ⟨r, hr⟩ : ∃ r, r = chkF k u := ⟨_, rfl⟩
    have HRR := Lib.hid hr
    have P10 : Hid (Calls Tryd.prog 13 #[.string s'] w11 fun e w' => ∃ v, e = .returned (.tuple #[v, .int .i64 r.1]) ∧ Byt w' w'.heap.size v r.2 ∧ Below w11.heap.size w11 w') := Lib.hid ((fromcheck58_any s' w11 R11.out).mono (by
      rintro e w' ⟨k', o, v, hd', rfl, ho, hb⟩
      rw [← HCS.out] at hd'
      obtain ⟨rfl, rfl⟩ := hd'.unique HD.out
      rw [← HRR.out] at ho ⊢
      exact ⟨v, rfl, ho, hb⟩))
    clear hby11 hb11 P9 HB110 HV10 hr
    go_wp2_with fail
    refine P10.out.mono ?_
    rintro e w12 ⟨v12, rfl, hby12, hb12⟩
    obtain ⟨A12, c12, rfl⟩ := hby12.form
    have hs12 := hb12.size
    have HV10'' := Lib.hid (HV10'.out.below (hb12.mono (by omega)))
    have HV11' := Lib.hid (HV11.out.below hb12)
    have HV12 := Lib.hid hby12
    have HB112 := Lib.hid (HB111.out.trans (hb12.mono (by omega)))
    have P11 : Hid (Calls Tryd.prog 16 #[.string s'] w12 fun e w' => ∃ v, e = .returned (.tuple #[v, .int .i64 r.1]) ∧ Byt w' w'.heap.size v r.2 ∧ Below w12.heap.size w12 w') := Lib.hid ((reffromcheck58_any s' w12).mono (by
      rintro e w' ⟨k', o, v, hd', rfl, ho, hb⟩
      rw [← HCS.out] at hd'
      obtain ⟨rfl, rfl⟩ := hd'.unique HD.out
      rw [← HRR.out] at ho ⊢
      exact ⟨v, rfl, ho, hb⟩))
    clear hby12 hb12 P10 HB111 HV10' HV11
    go_wp2_with fail
    refine P11.out.mono ?_
    rintro e w13 ⟨v13, rfl, hby13, hb13⟩
    obtain ⟨A13, c13, rfl⟩ := hby13.form
    have hs13 := hb13.size
    have HV10f := Lib.hid (HV10''.out.below (hb13.mono (by omega)))
    have HB113 := Lib.hid (HB1.out.trans ((HB112.out.trans (hb13.mono (by omega))).mono hs1))
    have E3 := Lib.hid (equal_yes _ _ _ _ _ _ w13 HV10f.out (HV11'.out.below (hb13.mono (by omega))) rfl)
    have E4 := Lib.hid (equal_yes _ _ _ _ _ _ w13 (HV12.out.below hb13) hby13 rfl)
    have hkk : (k == k) = true := by simp
    have hrr : (r.1 == r.1) = true := by simp
    clear hby13 hb13 P11 HB112 HV10'' HV11' HV12
    go_wp2_with fail
    refine E3.out.mono ?_
    rintro e w13' ⟨rfl, rfl⟩
    go_wp2_with fail
    refine E4.out.mono ?_
    rintro e w13' ⟨rfl, rfl⟩
    by_cases hk : k = 0
    · subst hk
      have P12 : Hid (Calls Tryd.prog 7 #[.slice A10 u.length c10] w13 fun e w' => e = .returned (.string s') ∧ Below w13.heap.size w13 w') := Lib.hid ((base58_any _ _ u w13 HV10f.out (by omega) (by omega)).mono (by
        rintro e w' ⟨o, rfl, ho, hb⟩
        rw [dec_again HD.out ho, HCS.out]
        exact ⟨by simp, hb⟩))
      go_wp2_with fail
      refine P12.out.mono ?_
      rintro e w14 ⟨rfl, hb14⟩
      have hss : (s'.toList == s'.toList) = true := by simp
      go_wp2_with fail
      go_ret
      exact ⟨rfl, HB113.out.trans (hb14.mono (by omega))⟩
    · have hkn : (k != 0) = true := by simp only [bne_iff_ne, ne_eq]; exact hk
      clear hk
      go_wp2_with fail
      go_ret
      exact ⟨rfl, HB113.out⟩
end Go.Proofs.YtehodjbjioepnaaDoor

/-
  From an argument that can be read as data to bytes in memory; and from the rows' listed variable to the code that the walks read; a start that meets the condition. Conditions: none.
-/
namespace Go.Proofs.YtehodjbjioepnaaDoor
open Go.ChangeShapes Go.WideShapes Go.ChangeAt Go.RowKit Go.Deep

theorem b8_bv {k : Int} (h0 : 0 ≤ k) (h1 : k ≤ 255) : bv (b8 k) = .int .u8 k := bv_b8_of h0 (by omega)

theorem add_at (b o i : Nat) : (⟨b, o, none⟩ : Addr).add i = ⟨b, o + i, none⟩ := by unfold Addr.add; split <;> simp_all

theorem spot_none {w : World} {a : Addr} {v : Value} (h : w.cell? a = some v) : a = ⟨a.block, a.off, none⟩ := by
  have := World.cell?_spot h
  cases a
  simp_all

/-- A slice of bytes that came in. -/
theorem byt_open {H : Type} {enc : TypeId × Value → H} {P : Program} {w : World} {spare : Nat → Bool} {held : Bool} {fuel : Nat} {t e : TypeId} {v : Value} {x : DataW H × List MemPlace}
    (ht : P.underlying t = some (.slice e)) (he : P.underlying e = some (.int .u8)) (hc : P.cellsOf e = 1) (h : DataW.trod enc P w 0 spare held fuel t [v] = some x) : ∃ bs, Byt w w.heap.size v bs := by
  rcases open_ints ht he hc h with ⟨hcs, _⟩ | ⟨a, len, cap, zs, hcs, _, hl, hm, hz, _, hcell, hwf⟩
  · simp only [List.cons.injEq, and_true] at hcs
    subst hcs
    exact ⟨[], Byt.nil _ _⟩
  · simp only [List.cons.injEq, and_true] at hcs
    subst hcs
    have hlz : len ≤ zs.length := by rw [hz]; split <;> omega
    have hlen : ((zs.take len).map b8).length = len := by simp; omega
    refine ⟨(zs.take len).map b8, some a, cap, by rw [hlen], by rw [hlen]; exact hl, hm, (by intro h; cases h), fun hne => ?_⟩
    have hpos : 0 < len := by
      rcases Nat.eq_zero_or_pos len with h0 | h0
      · rw [h0] at hne; simp at hne
      · exact h0
    have h0 := hcell 0 (by omega)
    have hadd0 : a.add 0 = a := by unfold Addr.add; simp
    rw [hadd0] at h0
    have hsp := spot_none h0
    refine ⟨a.block, a.off, by rw [← hsp], World.block_lt_of_cell? _ _ h0, fun j u hu => ?_⟩
    have hj : j < len := by
      have := (List.getElem?_eq_some_iff.1 hu).1
      omega
    have hcj := hcell j (by omega)
    have hadd : a.add j = ⟨a.block, a.off + j, none⟩ := (congrArg (fun q : Addr => q.add j) hsp).trans (add_at _ _ _)
    rw [hadd] at hcj
    rw [hcj]
    have hzj : zs.getD j 0 = zs[j]'(by omega) := by rw [List.getD, List.getElem?_eq_getElem (show j < zs.length by omega)]; rfl
    rw [List.getElem?_map, List.getElem?_take, if_pos hj, List.getElem?_eq_getElem (by omega)] at hu
    simp at hu
    subst hu
    have hw := hwf (zs[j]'(by omega)) (List.getElem_mem _)
    rw [hzj]
    have hw2 := bounds_u8 hw
    rw [b8_bv]
    · exact hw2.1
    · have := hw2.2
      omega

theorem own : ownKnob Tryd.prog.godebug = none := by kernel_rfl
theorem laidOut : laidOutB Tryd.prog = true := by kernel_rfl

def laidL : List (String × DataW Unit) := [("strongbox/hash.squareRoots", Rows.laid_strongbox_hash_squareRoots), ("strongbox/hash.cubeRoots", Rows.laid_strongbox_hash_cubeRoots), ("strongbox/text.descriptorCode", Rows.laid_strongbox_text_descriptorCode)]

theorem door_met (os : Os) (args : Array Value) : laidMetH Tryd.prog laidL ((World.doorLaid Tryd.prog 400 os).forCall (fun _ _ => 0) ⟨#[], args, []⟩).memory :=
  laidMetH_of_parts3 (fuel := 8) (laidMet_of_run' 8 (by kernel_rfl) (by kernel_rfl)) (by kernel_rfl) (by kernel_rfl)

theorem code_fields : ∃ f0 f1 : Field, Tryd.prog.underlying 49 = some (.struct #[f0, f1]) ∧ f0.type = 3 ∧ f0.offset = 0 ∧ f1.type = 47 ∧ f1.offset = 1 :=
  ⟨_, _, Tryd.underlying49, rfl, rfl, rfl, rfl⟩

theorem roots_of_laid {W : World} (h : laidMetH Tryd.prog laidL W) : Roots W := by
  rw [MakeChecks.laidMetH_plain _ _ _ (by kernel_rfl)] at h
  obtain ⟨ps, ⟨g0, t0, cs0, f0, p0, q0, hg0, ht0, hv0, hd0, ⟨g1, t1, cs1, f1, p1, q1, hg1, ht1, hv1, hd1, _, _⟩, _⟩, _, _⟩ := h
  obtain rfl := Option.some.inj ((show Tryd.prog.globalNamed "strongbox/hash.squareRoots" = some 2 by kernel_rfl).symm.trans hg0)
  obtain rfl := Option.some.inj ((show (Tryd.prog.globals[2]?).map (·.type) = some 82 by kernel_rfl).symm.trans ht0)
  obtain rfl := Option.some.inj ((show Tryd.prog.globalNamed "strongbox/hash.cubeRoots" = some 3 by kernel_rfl).symm.trans hg1)
  obtain rfl := Option.some.inj ((show (Tryd.prog.globals[3]?).map (·.type) = some 84 by kernel_rfl).symm.trans ht1)
  have e0 : (Rows.laid_strongbox_hash_squareRoots : DataW Unit) = Lib.tabData .u64 s512 := by kernel_rfl
  have e1 : (Rows.laid_strongbox_hash_cubeRoots : DataW Unit) = Lib.tabData .u64 k512 := by kernel_rfl
  rw [e0] at hd0
  rw [e1] at hd1
  have c0 := Lib.cells_of_tab Tryd.underlying82 Tryd.underlying46 (by kernel_rfl) (by kernel_rfl) hd0
  have c1 := Lib.cells_of_tab Tryd.underlying84 Tryd.underlying46 (by kernel_rfl) (by kernel_rfl) hd1
  have k0 : ∀ (t : Nat) (k : Int), s512[t]? = some k → W.cell? ⟨2, t, none⟩ = some (.int .u64 k) := fun t k hk => by
    have h := World.var?_cell hg0 hv0 t
    rw [h, ← Array.getElem?_toList, c0, List.getElem?_map, hk]
    rfl
  have k1 : ∀ (t : Nat) (k : Int), k512[t]? = some k → W.cell? ⟨3, t, none⟩ = some (.int .u64 k) := fun t k hk => by
    have h := World.var?_cell hg1 hv1 t
    rw [h, ← Array.getElem?_toList, c1, List.getElem?_map, hk]
    rfl
  exact ⟨⟨World.block_lt_of_cell? _ _ (k1 0 _ rfl), k1⟩, ⟨World.block_lt_of_cell? _ _ (k0 0 _ rfl), k0⟩⟩

theorem code_of_laid {W : World} (h : laidMetH Tryd.prog laidL W) : CodeIs W := by
  rw [MakeChecks.laidMetH_plain _ _ _ (by kernel_rfl)] at h
  obtain ⟨ps, ⟨ga, ta, csa, fa, pa, qa, _, _, _, _, ⟨gb, tb, csb, fb, pb, qb, _, _, _, _, ⟨g0, t0, cs0, f0, p0, q0, hg0, ht0, hv0, hd0, _, _⟩, _⟩, _⟩, _, _⟩ := h
  obtain rfl := Option.some.inj ((show Tryd.prog.globalNamed "strongbox/text.descriptorCode" = some 0 by kernel_rfl).symm.trans hg0)
  obtain rfl := Option.some.inj ((show (Tryd.prog.globals[0]?).map (·.type) = some 49 by kernel_rfl).symm.trans ht0)
  obtain ⟨g1, g2, hu, e1, e2, e3, e4⟩ := code_fields
  obtain ⟨y0, y1, n, hx, hl, hy0, hy1⟩ := trod_struct2 hu hd0
  have c1 : Tryd.prog.cellsOf 3 = 1 := by kernel_rfl
  have c5 : Tryd.prog.cellsOf 47 = 5 := by kernel_rfl
  have c6 : Tryd.prog.cellsOf 49 = 6 := by kernel_rfl
  rw [e1, e2, c1] at hy0
  rw [e3, e4, c5] at hy1
  rw [c6] at hl
  obtain ⟨m, hm, hm2, _⟩ := DataW.trod_int Tryd.underlying3 hy0
  have hdat := congrArg Prod.fst hx
  have hdat2 : (Rows.laid_strongbox_text_descriptorCode : DataW Unit) = .agg [y0.1, y1.1] := hdat
  unfold Rows.laid_strongbox_text_descriptorCode at hdat2
  injection hdat2 with hdat2
  injection hdat2 with h35 hrest
  injection hrest with htab _
  rw [hm2] at h35
  injection h35 with h35
  injection h35 with _ h35
  obtain ⟨d1, q1⟩ := y1
  have htab2 : d1 = Lib.tabData .u64 [1056006543753, 730107360018, 118834127661, 236335490938, 430795026429] := htab.symm
  rw [htab2] at hy1
  have hcs := Lib.cells_of_tab Tryd.underlying47 Tryd.underlying46 (by kernel_rfl) c5 hy1
  have hdl : (cs0.toList.drop 1).length = 5 := by rw [List.length_drop]; omega
  rw [List.take_of_length_le (by omega)] at hcs
  rw [List.drop_zero] at hm
  have hall : cs0.toList = [.int .i64 35, .int .u64 1056006543753, .int .u64 730107360018, .int .u64 118834127661, .int .u64 236335490938, .int .u64 430795026429] := by
    rw [← List.take_append_drop 1 cs0.toList, hm, hcs, ← h35]
    rfl
  have hcs0 : cs0 = #[.int .i64 35, .int .u64 1056006543753, .int .u64 730107360018, .int .u64 118834127661, .int .u64 236335490938, .int .u64 430795026429] := by
    apply Array.toList_inj.1
    exact hall
  have k := fun o => World.var?_cell hg0 hv0 o
  rw [hcs0] at k
  exact ⟨World.block_lt_of_cell? _ _ (k 0), k 0, k 1, k 2, k 3, k 4, k 5⟩
end Go.Proofs.YtehodjbjioepnaaDoor

/-
  TextBase58 returns true for every input, and leaves each argument as it was. Conditions: none beyond the statement's own (the listed variables hold what the program's text lays; the card ties them).
-/
namespace Go.Proofs.YtehodjbjioepnaaDoor
open Go.ChangeShapes Go.WideShapes Go.ChangeAt Go.RowKit Go.ChangeMaps

set_option maxRecDepth 100000 in
theorem b58_lifted (os : Os) (started : os.Started) (H : Type) (enc : TypeId × Value → H) :
    ReturnsInHanded {} Tryd.checked os 3 .any (fun w args => (Rows.textBase58Spec.pre enc Tryd.prog Tryd.f3 [] false w args ∧ laidMetH Tryd.prog laidL w) ∧ sizedMet enc Tryd.prog Tryd.f3 (OpenSpec.ofChange Rows.textBase58Spec) false w args)
      (Rows.textBase58Spec.post enc Tryd.prog Tryd.f3 false true false false) := by
  refine returnsInHanded_of_change_and (C := Tryd.checked) (X := fun w _ => laidMetH Tryd.prog laidL w) (fun _ _ _ hh h => h.of_heap hh) own started (by kernel_rfl) Tryd.func3
    (ChangeSpec.witness_shaped (enc := enc) (C := Tryd.checked) (os := os) (X := fun w _ => laidMetH Tryd.prog laidL w) false (World.doorLaid Tryd.prog 400 os) #[.slice none 0 0, .string ⟨#[]⟩] 8 rfl (World.shaped_of_RefB (by kernel_rfl) (by kernel_rfl)) (by kernel_rfl) (by kernel_rfl) (by kernel_rfl) (door_met os _)) ?_
  intro W base args ds gs before hval0 hW _ hsz hL _
  have hval : ∀ (j : Nat) t v, Tryd.f3.params[j]? = some t → args[j]? = some v → Value.okWide Tryd.prog W .any base t v := hval0
  have hW' := hW
  obtain ⟨p, q, hA0, hV, rfl, hfz, hnd⟩ := hW
  have hA : DataW.TrodAll enc Tryd.prog W 0 (fun _ => true) true Tryd.f3.params.toList args.toList ds p := hA0
  rw [Tryd.params3] at hA hval
  obtain ⟨v0, v1, d0, d1, p0, p1, rfl, rfl, rfl, h0, h1⟩ := trodAll_two hA
  obtain ⟨rfl, rfl⟩ := trodVars_none hV
  obtain ⟨a0, len0, cap0, rfl⟩ := okWide_slice Tryd.underlying22 (hval 0 22 v0 rfl rfl)
  have lt0 : ∀ x ∈ p0, x.block < W.heap.size := by obtain ⟨m, hm⟩ := h0; exact DataW.trod_lt m _ _ _ hm
  obtain ⟨bs, hbs⟩ : ∃ bs, Byt W W.heap.size (.slice a0 len0 cap0) bs := by
    obtain ⟨m, hm⟩ := h0
    exact byt_open Tryd.underlying22 Tryd.underlying5 (by kernel_rfl) hm
  obtain ⟨s, rfl, rfl, rfl, ws⟩ := open_string Tryd.underlying9 (hval 1 9 v1 rfl rfl) h1
  clear hA0 hval0
  have hr : s.size ≤ 140737488351232 := by
    have h := sized_string hsz (j := 1) (t := 9) rfl rfl
    rw [Array.length_toList] at h
    exact h
  refine (b58_law W.heap.size _ bs s W (code_of_laid hL) (roots_of_laid hL) hbs (Nat.le_refl _) (by omega)).mono fun e W' ⟨he, bel⟩ => ?_
  subst he
  exact ⟨_, rfl, _, _, _, [], _, [], hW', trodAll_mk1 (shut_bool Tryd.underlying4 _), trodAll_mk2 (Below.trod laidOut (by kernel_rfl) (of_decide_eq_true (by kernel_rfl)) h0 bel lt0) (shut_string Tryd.underlying9 ws), rfl, bel.frame _, fun h => by cases h⟩

theorem textBase58_row : Rows.TextBase58Said :=
  OpenClaim.holds_of_wide 3 Tryd.f3 rfl rfl rfl rfl rfl rfl rfl ⟨rfl, rfl, rfl, rfl, rfl⟩ rfl rfl rfl rfl rfl (by kernel_rfl) Tryd.func3 (by kernel_rfl)
    (of_decide_eq_true (by kernel_rfl)) (by unfold Func.isWrapper; first | (rw [if_pos (by decide +kernel)]; kernel_rfl) | (rw [if_neg (by decide +kernel)]; exact ⟨rfl, rfl⟩))
    (fun os started H enc _ => b58_lifted os started H enc)

theorem textBase58_holds : Rows.TextBase58CardSaid :=
  Claim7.holds_tied_plain_at .later [] [.data, .data, .wider] true _ false
    textBase58_row (fun _ h => by cases h) (by kernel_rfl) (fun _ h => by cases h) textBase58_row_tie rfl ⟨rfl, rfl⟩ (by kernel_rfl) rfl
    (fun f fn hf hfn => by
      obtain rfl : f = 3 := Option.some.inj ((show Tryd.prog.funcNamed "strongbox/strongboxlaw03.TextBase58" = some 3 by kernel_rfl).symm.trans hf) |>.symm
      obtain rfl : fn = Tryd.f3 := (Option.some.inj (Tryd.func3.symm.trans hfn)).symm
      exact ⟨by kernel_rfl, fun j t ht => by
        rw [Tryd.params3] at ht
        have hm : t ∈ [22, 9] := by simpa using Array.mem_of_getElem? ht
        have hall : ([22, 9].all fun u => !Tryd.prog.wantsStandIn u) = true := by kernel_rfl
        exact (show Tryd.prog.wantsStandIn t = false by simpa using List.all_eq_true.1 hall t hm)⟩)
    (by kernel_rfl)
#print axioms textBase58_holds
end Go.Proofs.YtehodjbjioepnaaDoor
