/-
  FeesEstimates and FeesGrows return true. Conditions: the acts are data.
-/
import Derived.Test.YtfhpodeppmnopaaFeAwake
import Derived.Test.YtfhpodeppmnopaaFePlay
namespace Go.Proofs.Ytfhpodeppmnopaa
open Go.RowKit

theorem ok_played {al : List AcP} (h : ∀ a ∈ al, a.ok) : Ok 60 (playF al) := by
  have := ok_play (al.take 60) ok_zero (fun x hx => h x (List.mem_of_mem_take hx))
  exact Ok.more this (by rw [List.length_take]; omega)
/-- Played, and what came of it laid beside. -/
theorem beside {w w2 : World} {g : Nat} {m : Option Nat} {S : Bs} {us zs : List Value} (ho : Owned w w2 7 g m S) (hr : RefV w2 7 us S) :
    Owned w ((w2.alloc (.cells zs.toArray 30)).setRow w2.heap.size us.toArray) 7 g m S ∧ RefV ((w2.alloc (.cells zs.toArray 30)).setRow w2.heap.size us.toArray) 7 us S ∧
      VRow ((w2.alloc (.cells zs.toArray 30)).setRow w2.heap.size us.toArray) w2.heap.size 30 us := by
  have b : Below w2.heap.size w2 ((w2.alloc (.cells zs.toArray 30)).setRow w2.heap.size us.toArray) := below_setRow ((Below.refl _ w2).alloc (Nat.le_refl _) _) (Nat.le_refl _) _
  exact ⟨ho.below b, hr.below b, (VRow.new w2 _ zs).setRow us⟩

theorem grows_t {n : Nat} {S : Bs} {t p : Int} (hS : Ok n S) (hE : estE S t p = 0) (ht : t < 12) : estE S (t + 1) p = 0 ∧ estX S (t + 1) p ≤ estX S t p := by
  unfold estE at hE ⊢
  unfold estX
  by_cases h : EArg t p
  · rw [if_pos h] at hE; cases hE
  · rw [if_neg h] at hE
    have h' : ¬ EArg (t + 1) p := by unfold EArg at h ⊢; omega
    have h1 : 1 ≤ t := by unfold EArg at h; omega
    rw [if_neg h', if_neg h', if_neg h]
    have hn : estB S t p ≠ 0 := fun q => by rw [if_pos q] at hE; cases hE
    have hg := est_grows hS (t := (t - 1).toNat) (t' := (t + 1 - 1).toNat) (by omega) (by omega) (p := p) (p' := p) (fun k hk => by
      have := hS.mo k (t - 1).toNat hk (by omega)
      rwa [show (t - 1).toNat + 1 = (t + 1 - 1).toNat by omega] at this) (Int.le_refl _) 24 (by omega) 0 0 0 0 (by omega) (by omega) (.inl rfl)
    have hg' : estB S (t + 1) p = estB S t p ∨ (0 < estB S (t + 1) p ∧ (estB S t p = 0 ∨ estB S (t + 1) p ≤ estB S t p)) := hg
    generalize estB S (t + 1) p = y at *
    generalize estB S t p = x at *
    exact ⟨if_neg (by omega), by omega⟩
theorem grows_p {n : Nat} {S : Bs} {t p : Int} (hS : Ok n S) (hE : estE S t p = 0) (hp : 1 < p) : estE S t (p - 1) = 0 ∧ estX S t (p - 1) ≤ estX S t p := by
  unfold estE at hE ⊢
  unfold estX
  by_cases h : EArg t p
  · rw [if_pos h] at hE; cases hE
  · rw [if_neg h] at hE
    have h' : ¬ EArg t (p - 1) := by unfold EArg at h ⊢; omega
    have h1 : 1 ≤ t ∧ t ≤ 12 := by unfold EArg at h; omega
    rw [if_neg h', if_neg h', if_neg h]
    have hn : estB S t p ≠ 0 := fun q => by rw [if_pos q] at hE; cases hE
    have hg := est_grows hS (t := (t - 1).toNat) (t' := (t - 1).toNat) (by omega) (by omega) (p := p) (p' := p - 1) (fun k hk => Int.le_refl _) (by omega) 24 (by omega) 0 0 0 0 (by omega) (by omega) (.inl rfl)
    have hg' : estB S t (p - 1) = estB S t p ∨ (0 < estB S t (p - 1) ∧ (estB S t p = 0 ∨ estB S t (p - 1) ≤ estB S t p)) := hg
    generalize estB S t (p - 1) = y at *
    generalize estB S t p = x at *
    exact ⟨if_neg (by omega), by omega⟩

end Go.Proofs.Ytfhpodeppmnopaa
