/-
  slices.SortStableFunc over coins. Conditions: at most nineteen coins in a row of the caller's own.
-/
import Derived.Test.YtammeedmccblcaaCsSort
namespace Go.Proofs.Ytammeedmccblcaa.Cs
open Go.RowKit Go.Sort Go.Shelf

def fnV (f : Nat) : Value := .func (.func f) #[] #[]
theorem empty_ins (c : Nat) (fv : Value) (w : World) : Calls Try.prog 76 #[.slice none 0 c, .int .i64 0, .int .i64 0, fv] w fun e w' => e = .returned (.tuple #[]) ∧ w' = w := by
  go_enter Try.func76, Try.ntmps76
  go_wp2
  go_loop [8] (fun i => i = .int .i64 1) (fun _ => 0)
  case atStart => rfl
  case round =>
    subst hrel
    go_wp2
    go_end0
    exact ⟨rfl, rfl⟩
theorem aE : ∀ w, (isAgg 75).run Try.prog w = .ok true w := fun w => by kernel_rfl
theorem zE : ∀ w, (Go.sizeOf 75).run Try.prog w = .ok 2 w := fun w => by kernel_rfl
theorem ins_own (g base cap : Nat) (e : TypeId) (l : List Cn) (w : World) (h : w.ownsRow base e 2 (.slice (some ⟨g, 0, none⟩) l.length cap) l.length (l.flatMap cnC)) (hl : l.length ≤ 19) :
    Calls Try.prog 76 #[.slice (some ⟨g, 0, none⟩) l.length cap, .int .i64 0, .int .i64 l.length, fnV 47] w fun e w' => e = .returned (.tuple #[]) ∧ ∃ m os, w' = sortWorldK cnC 2 w g 0 m (sortD l).toArray os := by
  have eg : ∀ args w, (callFunc 47 args).run Try.prog w = .ok (.enter 47 args) w := enters_of Try.func47 (by kernel_rfl) rfl
  have hcmp : CmpLays Try.prog 47 #[] cnC 2 byF g 0 l.toArray.size w := fun _ _ _ _ x y => by_any x y _
  have hcon := AnyQ.insertionSortCmpFunc Try.sortIns 2 aE zE cnC (fun _ => rfl) (fun x v hv => by
    simp only [cnC, List.mem_cons, List.not_mem_nil, or_false] at hv
    rcases hv with rfl | rfl <;> rfl) byF 47 #[] g 0 cap 0 l.length l.toArray w eg hcmp (holds_own h) (h.lt g rfl).2 (Nat.zero_le _) (by simp) (by simp; omega)
  rw [insertion_list, show l.toArray.size = l.length by simp] at hcon
  exact hcon
theorem stable_own (g base cap : Nat) (e : TypeId) (l : List Cn) (w : World) (h : w.ownsRow base e 2 (.slice (some ⟨g, 0, none⟩) l.length cap) l.length (l.flatMap cnC)) (hl : l.length ≤ 19) :
    Calls Try.prog 46 #[.slice (some ⟨g, 0, none⟩) l.length cap, fnV 47] w fun e w' => e = .returned (.tuple #[]) ∧ ∃ m os, w' = sortWorldK cnC 2 w g 0 m (sortD l).toArray os := by
  have hcon := ins_own g base cap e l w h hl
  generalize sortWorldK cnC 2 w g 0 = SW at hcon ⊢
  obtain ⟨n, hn⟩ : ∃ n, n = l.length := ⟨_, rfl⟩
  rw [← hn] at hcon hl ⊢
  obtain ⟨D, hD⟩ : ∃ D, D = (sortD l).toArray := ⟨_, rfl⟩
  rw [← hD] at hcon ⊢
  unfold fnV at hcon ⊢
  clear h hn hD
  go_enter Try.func46, Try.ntmps46
  go_wp2
  go_loop [7, 8] (fun a b => a = .int .i64 0 ∧ b = .int .i64 20) (fun _ _ => 0)
  case atStart => exact ⟨rfl, rfl⟩
  case round =>
    obtain ⟨rfl, rfl⟩ := hrel
    go_wp2_with (go_at_call 76; refine hcon.mono ?_; rintro e w' ⟨rfl, m, os, rfl⟩)
    go_loop [6] (fun a => a = .int .i64 20) (fun _ => 0)
    case atStart => rfl
    case round =>
      subst hrel
      go_wp2
      go_end0
      go_wp2
      go_end0
      exact ⟨rfl, m, os, rfl⟩
theorem stable_nil (w : World) :
    Calls Try.prog 46 #[.slice none 0 0, fnV 47] w fun e w' => e = .returned (.tuple #[]) ∧ w' = w := by
  have hcon := empty_ins 0 (fnV 47) w
  unfold fnV at hcon ⊢
  go_enter Try.func46, Try.ntmps46
  go_wp2
  go_loop [7, 8] (fun a b => a = .int .i64 0 ∧ b = .int .i64 20) (fun _ _ => 0)
  case atStart => exact ⟨rfl, rfl⟩
  case round =>
    obtain ⟨rfl, rfl⟩ := hrel
    go_wp2_with (go_at_call 76; refine hcon.mono ?_; rintro e w' ⟨rfl, rfl⟩)
    go_loop [6] (fun a => a = .int .i64 20) (fun _ => 0)
    case atStart => rfl
    case round =>
      subst hrel
      go_wp2
      go_end0
      go_wp2
      go_end0
      exact ⟨rfl, rfl⟩
theorem stable_any (base : Nat) (v : Value) (e : TypeId) (l : List Cn) (w : World) (h : w.ownsRow base e 2 v l.length (l.flatMap cnC)) (hl : l.length ≤ 19) :
    Calls Try.prog 46 #[v, fnV 47] w fun e' w' => e' = .returned (.tuple #[]) ∧ w'.ownsRow base e 2 v l.length ((sortD l).flatMap cnC) ∧ w.grownBy w' v.ownBlock := by
  rcases h.2 with ⟨rfl, hn⟩ | ⟨g, cap, cur, rfl, _⟩
  · obtain rfl : l = [] := List.length_eq_zero_iff.1 hn
    refine (stable_nil w).mono ?_
    rintro e' w' ⟨rfl, rfl⟩
    exact ⟨rfl, h, World.grownBy.refl _ _⟩
  · refine (stable_own g base cap e l w h hl).mono ?_
    rintro e' w' ⟨rfl, m, os, rfl⟩
    obtain ⟨h1, h2⟩ := own_sorted h (sortD_perm l).length_eq m os
    exact ⟨rfl, h1, h2⟩
end Go.Proofs.Ytammeedmccblcaa.Cs
