/-
  The reference's value: a hexadecimal digit's number. Conditions: none.
-/
import Derived.Test.YtginbfeimiihlaaDoorHexRef
namespace Go.Proofs.YtginbfeimiihlaaDoor
open Go.RowKit

/-- Is it the k-th digit? -/
def hitB (c : UInt8) (k : Nat) : Bool := decide ((c.toNat : Int) = digI k) || (decide (9 < k) && decide ((c.toNat : Int) = digI k - 32))
/-- The digit's number, or -1. -/
def refVal (c : UInt8) : Int := match (List.range 16).find? (hitB c) with | some k => k | none => -1
theorem find_first {f : Nat → Bool} {n k : Nat} (hk : k < n) (hf : f k = true) (hall : ∀ j, j < k → f j = false) : (List.range n).find? f = some k := by
  rw [List.find?_range_eq_some]
  exact ⟨hf, by simpa using hk, fun j hj => by simpa using hall j hj⟩
theorem refVal_at {c : UInt8} {k : Nat} (hk : k < 16) (hf : hitB c k = true) (hall : ∀ j, j < k → hitB c j = false) : refVal c = k := by
  unfold refVal
  rw [find_first hk hf hall]
theorem refVal_no {c : UInt8} (hall : ∀ j, j < 16 → hitB c j = false) : refVal c = -1 := by
  unfold refVal
  have : (List.range 16).find? (hitB c) = none := by
    rw [List.find?_eq_none]
    intro j hj
    rw [hall j (by simpa using hj)]
    simp
  rw [this]

/-- The number, by the program's table of digits. -/
def valB (c : UInt8) : Int := let p := posB hexD c; if p < 0 then -1 else if 15 < p then p - 6 else p
theorem val_same_fin : ∀ c : Fin 256, refVal (UInt8.ofNat c.val) = valB (UInt8.ofNat c.val) := by decide +kernel
theorem val_same (c : UInt8) : refVal c = valB c := by
  have h := val_same_fin ⟨c.toNat, by have := c.toNat_lt; omega⟩
  simpa using h
theorem val_bd (c : UInt8) : -1 ≤ valB c ∧ valB c ≤ 15 := by
  have h : ∀ c : Fin 256, -1 ≤ valB (UInt8.ofNat c.val) ∧ valB (UInt8.ofNat c.val) ≤ 15 := by decide +kernel
  have h := h ⟨c.toNat, by have := c.toNat_lt; omega⟩
  simpa using h

set_option maxRecDepth 100000 in
set_option maxHeartbeats 1600000 in
theorem value_any (c : UInt8) (w : World) :
    Calls Tryd.prog 24 #[.int .u8 (c.toNat : Int)] w fun e w' => e = .returned (.int .i64 (valB c)) ∧ w = w' := by
  rw [← val_same c]
  have hc := c.toNat_lt
  obtain ⟨q, hq⟩ : ∃ q : Int, q = (c.toNat : Int) := ⟨_, rfl⟩
  rw [← hq]
  have HQ := Lib.hid hq
  have hq0 : 0 ≤ q := by omega
  have hq1 : q ≤ 255 := by omega
  clear hq
  go_enter Tryd.func24, Tryd.ntmps24
  go_wp2_with fail
  go_loopw [3] (fun j wr => ∃ k : Nat, k ≤ 16 ∧ j = .int .u8 k ∧ w = wr ∧ Hid (∀ j, j < k → hitB c j = false)) (fun j _ => 16 - (intOf j).toNat)
  case atStart => exact ⟨0, by omega, rfl, rfl, Lib.hid (fun j h => by omega)⟩
  case round =>
    obtain ⟨k, hk, rfl, rfl, hall⟩ := hrel
    by_cases h16 : k < 16
    · have hbd := digI_bd (q := (k : Int)) (by omega) (by omega)
      obtain ⟨y, hy⟩ : ∃ y, y = digI k := ⟨_, rfl⟩
      have C := fun W => digit_dig (k : Int) W (by omega) (by omega)
      rw [← hy] at C hbd
      have hhit : hitB c k = (decide (q = y) || (decide (9 < k) && decide (q = y - 32))) := by unfold hitB; rw [← hy, ← HQ.out]
      have HC := Lib.hid C
      have HH := Lib.hid hhit
      clear C hy hhit
      have HN : hitB c k = false → Hid (∀ j, j < k + 1 → hitB c j = false) := fun h => Lib.hid (fun j hj => by
        by_cases hjk : j < k
        · exact hall.out j hjk
        · have : j = k := by omega
          rw [this]; exact h)
      have HA : hitB c k = true → Hid (refVal c = (k : Int)) := fun h => Lib.hid (refVal_at h16 h hall.out)
      have HN' := Lib.hid HN
      have HA' := Lib.hid HA
      clear HN HA
      by_cases h1 : q = y
      · have hd1 : (q == y) = true := by simpa using h1
        have HR := HA'.out (by rw [HH.out]; simp [h1])
        go_wp2_with fail
        refine (HC.out _).mono ?_
        rintro e w4 ⟨rfl, rfl⟩
        go_wp2
        go_ret
        exact ⟨by rw [HR.out]; rfl, rfl⟩
      · have hd1 : (q == y) = false := by simpa using h1
        by_cases h2 : 9 < k
        · have hd2 : decide ((9 : Int) < k) = true := decide_eq_true (by omega)
          by_cases h3 : q = y - 32
          · have hd3 : (q == y - 32) = true := by simpa using h3
            have HR := HA'.out (by rw [HH.out]; simp [h2, h3])
            go_wp2_with fail
            refine (HC.out _).mono ?_
            rintro e w4 ⟨rfl, rfl⟩
            go_wp2
            go_ret
            exact ⟨by rw [HR.out]; rfl, rfl⟩
          · have hd3 : (q == y - 32) = false := by simpa using h3
            have HR := HN'.out (by rw [HH.out]; simp [h1, h3])
            go_wp2_with fail
            refine (HC.out _).mono ?_
            rintro e w4 ⟨rfl, rfl⟩
            go_wp2
            refine ⟨⟨k + 1, by omega, by go_num, trivial, HR⟩, by simp [intOf]; omega⟩
        · have hd2 : decide ((9 : Int) < k) = false := decide_eq_false (by omega)
          have HR := HN'.out (by rw [HH.out]; simp [h1, h2])
          go_wp2_with fail
          refine (HC.out _).mono ?_
          rintro e w4 ⟨rfl, rfl⟩
          go_wp2
          refine ⟨⟨k + 1, by omega, by go_num, trivial, HR⟩, by simp [intOf]; omega⟩
    · have HR := Lib.hid (refVal_no (c := c) (fun j hj => hall.out j (by omega)))
      clear hall
      go_wp2
      go_ret
      exact ⟨by rw [HR.out]; rfl, rfl⟩
end Go.Proofs.YtginbfeimiihlaaDoor
