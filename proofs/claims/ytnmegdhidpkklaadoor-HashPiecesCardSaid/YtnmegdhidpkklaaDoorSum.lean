/-
  hash.Sum: Add, Hash; Sum256. Conditions: the sizes stay below 2^60; the roots are laid.
-/
import Derived.Test.YtnmegdhidpkklaaDoorAdd
namespace Go.Proofs.YtnmegdhidpkklaaDoor
open Go.RowKit

theorem RootIs.turns {S : Nat → Prop} {w w' : World} (h : RootIs w) (ht : Turns S w w') (hS : ¬ S 0) : RootIs w' :=
  ⟨Nat.lt_of_lt_of_le h.1 ht.size, fun t k hk => (ht.cell (p := ⟨0, t, none⟩) h.1 hS).trans (h.2 t k hk)⟩

/-- The roots are laid. -/
structure Roots (w : World) : Prop where
  cube : CubeIs w
  root : RootIs w
theorem Roots.below {w w' : World} (h : Roots w) (hb : Below w.heap.size w w') : Roots w' := ⟨h.cube.below hb h.cube.1, h.root.below hb h.root.1⟩
/-- Block g is none of the roots'. -/
structure Off (g : Nat) : Prop where
  cube : 1 ≠ g
  root : 0 ≠ g
theorem Roots.off {w : World} (h : Roots w) {g : Nat} (hg : w.heap.size ≤ g) : Off g := ⟨by have := h.cube.1; omega, by have := h.root.1; omega⟩
theorem Roots.turns {w w' : World} {g : Nat} (h : Roots w) (ht : Turns (· = g) w w') (hg : Off g) : Roots w' := ⟨h.cube.turns ht hg.cube, h.root.turns ht hg.root⟩

/-- Block g begins with an intake that got the bytes m. -/
def SumIs (w : World) (g : Nat) (t : TypeId) (m : List UInt8) : Prop := ∃ ws rest, Took m ws rest ∧ ws.length = 8 ∧ VRow w g t (inRow ws rest m.length)
theorem SumIs.below {w w' : World} {g : Nat} {t : TypeId} {m : List UInt8} (h : SumIs w g t m) (hb : Below w.heap.size w w') : SumIs w' g t m := by
  obtain ⟨ws, rest, h1, h2, h3⟩ := h
  exact ⟨ws, rest, h1, h2, h3.below hb h3.lt⟩
theorem SumIs.turns {S : Nat → Prop} {w w' : World} {g : Nat} {t : TypeId} {m : List UInt8} (h : SumIs w g t m) (hb : Turns S w w') (hS : ¬ S g) : SumIs w' g t m := by
  obtain ⟨ws, rest, h1, h2, h3⟩ := h
  exact ⟨ws, rest, h1, h2, h3.turns hb hS⟩

set_option maxRecDepth 100000 in
set_option maxHeartbeats 3200000 in
theorem sumAdd_any (g : Nat) (t : TypeId) (m b : List UInt8) (v : Value) (W0 : World) (hsum : SumIs W0 g t m) (hsrc : Src W0 g v b) (hlen : m.length + b.length < 1152921504606846976) (hroots : Roots W0) (hoff : Off g) :
    Calls Tryd.prog 24 #[.pointer (some ⟨g, 0, none⟩), v] W0 fun e w' => e = .returned (.tuple #[]) ∧ SumIs w' g t (m ++ b) ∧ Turns (· = g) W0 w' := by
  obtain ⟨ws, rest, ht, hws, hrow⟩ := hsum
  have HT := Lib.hid ht
  have HWS := Lib.hid hws
  have HROW := Lib.hid hrow
  have HSRC := Lib.hid hsrc
  have HROOTS := Lib.hid hroots
  have HOFF := Lib.hid hoff
  clear ht hws hrow hsrc hroots hoff
  go_enter Tryd.func24, Tryd.ntmps24
  refine wp_region_held_drew (S := AnyW) (by kernel_rfl) ?_ (fun hHeld => ?_)
  · exact anyW _
  refine wpAnyH_take (i := 0) (oi := { dst := some 4, op := Go.Op.move (Go.Operand.tmp 0), type := 92, pos := "sha256.go:15", after := #[], guard := none }) (v := ?av0) rfl (by kernel_rfl) (by kernel_rfl) (by kernel_rfl) (fun _ _ _ h => h) (Or.inl ⟨by rfl, ?ay0⟩) (by assumption) ?ar0
  case ay0 => (intro w hSw; (try dsimp only at hSw); go_simp; try (with_reducible rfl))
  case ar0 =>
  try simp only [Act.put, List.setIfInBounds_toArray, List.set_cons_zero, List.set_cons_succ]
  refine wpAnyH_take (i := 1) (oi := { dst := some 5, op := Go.Op.nilCheck (Go.Operand.tmp 4), type := 0, pos := "sha256.go:15", after := #[{ on := 0, ground := Go.Ground.data }], guard := none }) (v := ?av1) rfl (by kernel_rfl) (by kernel_rfl) (by kernel_rfl) (fun _ _ _ h => h) (Or.inl ⟨by rfl, ?ay1⟩) (by assumption) ?ar1
  case ay1 => (intro w hSw; (try dsimp only at hSw); go_simp; try (with_reducible rfl))
  case ar1 =>
  try simp only [Act.put, List.setIfInBounds_toArray, List.set_cons_zero, List.set_cons_succ]
  refine wpAnyH_take (i := 2) (oi := { dst := some 6, op := Go.Op.fieldAddr 46 (Go.Operand.tmp 5) 0, type := 0, pos := "sha256.go:15", after := #[{ on := 1, ground := Go.Ground.data }], guard := none }) (v := ?av2) rfl (by kernel_rfl) (by kernel_rfl) (by kernel_rfl) (fun _ _ _ h => h) (Or.inl ⟨by rfl, ?ay2⟩) (by assumption) ?ar2
  case ay2 => (intro w hSw; (try dsimp only at hSw); go_simp; try (with_reducible rfl))
  case ar2 =>
  try simp only [Act.put, List.setIfInBounds_toArray, List.set_cons_zero, List.set_cons_succ]
  refine wpAnyH_take (i := 4) (oi := { dst := some 8, op := Go.Op.move (Go.Operand.tmp 1), type := 22, pos := "sha256.go:15", after := #[], guard := none }) (v := ?av4) rfl (by kernel_rfl) (by kernel_rfl) (by kernel_rfl) (fun _ _ _ h => h) (Or.inl ⟨by rfl, ?ay4⟩) (by assumption) ?ar4
  case ay4 => (intro w hSw; (try dsimp only at hSw); go_simp; try (with_reducible rfl))
  case ar4 =>
  try simp only [Act.put, List.setIfInBounds_toArray, List.set_cons_zero, List.set_cons_succ]
  refine wpAnyH_ready (rs := [3]) (by kernel_rfl) (by simp) ?_
  refine AllReadyH.cons (o := { dst := some 7, op := Go.Op.call { callee := Go.Callee.value (Go.Operand.func 53), args := #[], argTypes := #[] }, type := 96, pos := "sha256.go:15", after := #[], guard := none }) rfl (fun K hK => ?_) (AllReadyH.nil)
  go_simp
  refine (kind256_any W0.drew HROOTS.out.root).mono ?_
  rintro e w2 ⟨rfl, hb2⟩
  go_simp
  have B2 := Lib.hid (show Below W0.heap.size W0 w2 from ⟨hb2.os, hb2.tape, hb2.output, hb2.size, hb2.block⟩)
  clear hb2
  refine hK.out _ _ ?_ (fun hHeld => ?_)
  · exact anyW _
  clear hK K
  try simp only [Act.put, List.setIfInBounds_toArray, List.set_cons_zero, List.set_cons_succ]
  refine wpAnyH_ready (rs := [5]) (by kernel_rfl) (by simp) ?_
  refine AllReadyH.cons (o := { dst := some 9, op := Go.Op.call { callee := Go.Callee.value (Go.Operand.func 52), args := #[Go.Operand.tmp 6, Go.Operand.tmp 7, Go.Operand.tmp 8], argTypes := #[44, 96, 22] }, type := 0, pos := "sha256.go:15", after := #[{ on := 2, ground := Go.Ground.data }, { on := 3, ground := Go.Ground.data }, { on := 4, ground := Go.Ground.data }, { on := 3, ground := Go.Ground.chain }], guard := none }) rfl (fun K hK => ?_) (AllReadyH.nil)
  go_simp
  refine (add_any g t m b ws rest v w2 HT.out HWS.out (HROW.out.below B2.out HROW.out.lt) (HSRC.out.turns (Turns.of_below (S := (· = g)) B2.out) (fun _ h => h)) hlen (HROOTS.out.below B2.out).cube HOFF.out.cube).mono ?_
  rintro e w3 ⟨rfl, ws3, rest3, t3, l3, r3, tt3⟩
  go_simp
  refine hK.out _ _ ?_ (fun hHeld => ?_)
  · exact anyW _
  clear hK K
  try simp only [Act.put, List.setIfInBounds_toArray, List.set_cons_zero, List.set_cons_succ]
  refine wpAnyH_done (by kernel_rfl) ?_ _
  refine bodyPost_end (results_none Tryd.results24 _ _ _) rfl ⟨rfl, ⟨ws3, rest3, t3, l3, r3⟩, (Turns.of_below (S := (· = g)) B2.out).trans tt3 (fun _ _ h => h)⟩
end Go.Proofs.YtnmegdhidpkklaaDoor
