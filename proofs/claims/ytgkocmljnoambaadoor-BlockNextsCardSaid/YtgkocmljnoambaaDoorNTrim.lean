/-
  bytes.TrimLeft over the digits of a number: what lies behind the zeros. Conditions: none.
-/
import Derived.Test.YtgkocmljnoambaaDoorNTgt
namespace Go.Proofs.YtgkocmljnoambaaDoor
open Go.RowKit

/-- f zeros lead. -/
structure LZ (n f : Nat) : Prop where
  le : f ≤ 32
  zero : ∀ i, i < f → dg n i = 0
  stop : f < 32 → dg n f ≠ 0
theorem LZ.ex (n : Nat) : ∃ f, LZ n f := by
  have key : ∀ k, k ≤ 32 → (∀ i, i < 32 - k → dg n i = 0) → ∃ f, LZ n f := by
    intro k
    induction k with
    | zero => intro _ h; exact ⟨32, Nat.le_refl _, fun i hi => h i (by omega), fun h => absurd h (by omega)⟩
    | succ k ih =>
      intro hk h
      by_cases hz : dg n (32 - (k + 1)) = 0
      · refine ih (by omega) fun i hi => ?_
        by_cases he : i = 32 - (k + 1)
        · rw [he]; exact hz
        · exact h i (by omega)
      · exact ⟨32 - (k + 1), by omega, h, fun _ => hz⟩
  exact key 32 (by omega) (fun i hi => absurd hi (by omega))
theorem LZ.eq {n f g : Nat} (h : LZ n f) (k : LZ n g) : f = g := by
  rcases Nat.lt_trichotomy f g with hl | hl | hl
  · exact absurd (k.zero f hl) (h.stop (by have := k.le; omega))
  · exact hl
  · exact absurd (h.zero g hl) (k.stop (by have := h.le; omega))
/-- What is left behind k bytes. -/
def offK (k : Nat) : Nat := if k = 32 then 31 else k
def leftV (g k : Nat) : Value := .slice (some ⟨g, offK k, none⟩) (32 - k) (32 - k)
def trimV (g f : Nat) : Value := if f = 32 then .slice none 0 0 else leftV g f

theorem run_tail1 (g k : Nat) (hk : k < 32) (W : World) :
    (Instr.slice 44 (.slice (some ⟨g, k, none⟩) (32 - k) (32 - k)) (some (.int .i64 1)) none none).run Tryd.prog W = .ok (leftV g (k + 1)) W := by
  obtain ⟨i0, hi, hz0, hz1, hz2⟩ := info_parts info_u8
  have he : Tryd.prog.elem 44 = 5 := by kernel_rfl
  have ht : Tryd.prog.underlying 44 = some (.slice (Tryd.prog.elem 44)) := by rw [he]; exact slice_u8
  rw [run_slice_l (ht := ht) (h0 := by omega) (h1 := by omega), he]
  unfold leftV offK
  have hadd : (⟨g, k, none⟩ : Addr).add 1 = ⟨g, k + 1, none⟩ := by unfold Addr.add; split <;> simp_all
  by_cases h31 : k = 31
  · subst h31
    simp [sizeOf, typeInfo, hi, hz1, sliced, go_sem]
  · have e1 : ¬ (32 - k = 1) := by omega
    have e2 : ¬ (k = 31) := h31
    have e3 : ¬ (k + 1 = 32) := by omega
    simp [sizeOf, typeInfo, hi, hz1, sliced, go_sem, e1, e3]
    omega

set_option maxRecDepth 100000 in
set_option maxHeartbeats 1600000 in
theorem trimByte_any (n f g : Nat) (t : TypeId) (w : World) (hf : LZ n f) (hr : IRow w g t .u8 (num n)) :
    Calls Tryd.prog 39 #[.slice (some ⟨g, 0, none⟩) 32 32, .int .u8 0] w fun e w' => e = .returned (trimV g f) ∧ w = w' := by
  have HR := Lib.hid hr
  have HF := Lib.hid hf
  have hfl := hf.le
  clear hr hf
  go_enter Tryd.func39, Tryd.ntmps39
  go_wp2_with fail
  go_loop [0] (fun sv => ∃ k : Nat, k ≤ f ∧ sv = leftV g k) (fun sv => match sv with | .slice _ l _ => l | _ => 0)
  case atStart => exact ⟨0, by omega, rfl⟩
  case round =>
    obtain ⟨k, hk, rfl⟩ := hrel
    by_cases hlt : k < f
    · have hk32 : k < 32 := by omega
      have hcell : w.cell? ⟨g, k, none⟩ = some (.int .u8 0) := by
        have h := HR.out.cell (num_at n hk32)
        rw [HF.out.zero k hlt] at h
        exact h
      have hs := run_tail1 g k hk32
      have hlv : leftV g k = .slice (some ⟨g, k, none⟩) (32 - k) (32 - k) := by unfold leftV offK; rw [if_neg (by omega)]
      have hpos : (0 : Int) < ((32 - k : Nat) : Int) := by omega
      rw [hlv]
      clear hlv
      go_wp2_with fail
      exact ⟨⟨k + 1, by omega, rfl⟩, by show (32 - (k + 1)) < 32 - k; omega⟩
    · obtain rfl : k = f := by omega
      by_cases h32 : k = 32
      · subst h32
        have htv : trimV g 32 = .slice none 0 0 := rfl
        have HTV := Lib.hid htv
        clear htv hlt
        unfold leftV
        go_wp2_with fail
        go_ret
        exact ⟨rfl, rfl⟩
      · have hk32 : k < 32 := by omega
        have hcell : w.cell? ⟨g, k, none⟩ = some (.int .u8 ((dg n k : Nat) : Int)) := HR.out.cell (num_at n hk32)
        have hne : (((dg n k : Nat) : Int) == 0) = false := by have := HF.out.stop hk32; simp; omega
        have hlv : leftV g k = .slice (some ⟨g, k, none⟩) (32 - k) (32 - k) := by unfold leftV offK; rw [if_neg h32]
        have HTV := Lib.hid (show trimV g k = .slice (some ⟨g, k, none⟩) (32 - k) (32 - k) by unfold trimV; rw [if_neg h32, hlv])
        have hpos : (0 : Int) < ((32 - k : Nat) : Int) := by omega
        have hnz : ((((32 - k : Nat) : Int)) == 0) = false := by simp; omega
        rw [hlv]
        clear hlv hlt
        go_wp2_with fail
        go_ret
        exact ⟨by rw [HTV.out]; rfl, rfl⟩
set_option maxRecDepth 100000 in
set_option maxHeartbeats 1600000 in
theorem trimLeft_any (n f g : Nat) (t : TypeId) (w : World) (hf : LZ n f) (hr : IRow w g t .u8 (num n)) :
    Calls Tryd.prog 25 #[.slice (some ⟨g, 0, none⟩) 32 32, .string ⟨#[0]⟩] w fun e w' => e = .returned (trimV g f) ∧ w = w' := by
  have C := Lib.hid (trimByte_any n f g t w hf hr)
  clear hf hr
  go_enter Tryd.func25, Tryd.ntmps25
  go_wp2_with fail
  refine C.out.mono ?_
  rintro e w' ⟨rfl, rfl⟩
  go_wp2_with fail
  go_ret
  exact ⟨rfl, rfl⟩
end Go.Proofs.YtgkocmljnoambaaDoor
