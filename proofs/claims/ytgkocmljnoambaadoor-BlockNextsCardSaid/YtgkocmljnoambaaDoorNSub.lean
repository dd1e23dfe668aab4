/-
  block.Subsidy and the reference's: the new coins of a height. Conditions: none.
-/
import Derived.Test.YtgkocmljnoambaaDoorNHead
namespace Go.Proofs.YtgkocmljnoambaaDoor
open Go.RowKit

/-- 50 coins, halved once for each 150 blocks. -/
def subN (h : Int) : Int := if h < 0 then 0 else if 64 ≤ h / 150 then 0 else 5000000000 / 2 ^ (h / 150).toNat
set_option maxHeartbeats 1600000 in
theorem subsidy_any (h : Int) (w : World) (h1 : h ≤ 9223372036854775807) :
    Calls Tryd.prog 19 #[.int .i64 h] w fun e w' => e = .returned (.int .i64 (subN h)) ∧ w = w' := by
  obtain ⟨r, hr⟩ : ∃ r, r = subN h := ⟨_, rfl⟩
  rw [← hr]
  by_cases hn : h < 0
  · have hz : r = 0 := by rw [hr]; unfold subN; rw [if_pos hn]
    subst hz
    clear hr
    go_enter Tryd.func19, Tryd.ntmps19
    go_wp2
    go_ret
    exact ⟨rfl, rfl⟩
  · by_cases hb : 64 ≤ h / 150
    · have hz : r = 0 := by rw [hr]; unfold subN; rw [if_neg hn, if_pos hb]
      subst hz
      clear hr
      go_enter Tryd.func19, Tryd.ntmps19
      go_wp2
      go_ret
      exact ⟨rfl, rfl⟩
    · have hz : r = 5000000000 / 2 ^ (h / 150).toNat := by rw [hr]; unfold subN; rw [if_neg hn, if_neg hb]
      have HZ := Lib.hid hz
      clear hr hz
      go_enter Tryd.func19, Tryd.ntmps19
      go_wp2
      go_ret
      exact ⟨by rw [HZ.out]; rfl, rfl⟩

theorem sub_at {h k : Nat} (hk : 150 * k ≤ h) (he : h < 150 * k + 150) : ((5000000000 / 2 ^ k : Nat) : Int) = subN (h : Int) := by
  have hd : (h : Int) / 150 = (k : Int) := by omega
  unfold subN
  rw [if_neg (by omega), hd]
  by_cases h64 : 64 ≤ k
  · rw [if_pos (by omega)]
    have h1 : 2 ^ 64 ≤ 2 ^ k := Nat.pow_le_pow_right (by omega) h64
    rw [Nat.div_eq_of_lt (by omega)]
    rfl
  · rw [if_neg (by omega), Int.toNat_natCast, Int.natCast_ediv, Int.natCast_pow]
    rfl
theorem sub_none {h k : Nat} (hk : 150 * k ≤ h) (hz : 5000000000 / 2 ^ k = 0) : subN (h : Int) = 0 := by
  have h1 := sub_at (h := h) (k := h / 150) (by omega) (by omega)
  rw [← h1]
  have h2 : 2 ^ k ≤ 2 ^ (h / 150) := Nat.pow_le_pow_right (by omega) (by omega)
  have h3 : 5000000000 < 2 ^ k := by
    rcases Nat.lt_or_ge 5000000000 (2 ^ k) with h | h
    · exact h
    · have := Nat.div_pos h (Nat.pow_pos (by omega)); omega
  rw [Nat.div_eq_of_lt (by omega)]
  rfl
theorem half_next (k : Nat) : 5000000000 / 2 ^ k / 2 = 5000000000 / 2 ^ (k + 1) := by rw [Nat.pow_succ, Nat.div_div_eq_div_mul]
set_option maxHeartbeats 1600000 in
theorem refSubsidy_any (h : Int) (w : World) (h1 : h ≤ 1000000) :
    Calls Tryd.prog 20 #[.int .i64 h] w fun e w' => e = .returned (.int .i64 (subN h)) ∧ w = w' := by
  obtain ⟨r, hr⟩ : ∃ r, r = subN h := ⟨_, rfl⟩
  rw [← hr]
  by_cases hn : h < 0
  · have hz : r = 0 := by rw [hr]; unfold subN; rw [if_pos hn]
    subst hz
    clear hr
    go_enter Tryd.func20, Tryd.ntmps20
    go_wp2
    go_ret
    exact ⟨rfl, rfl⟩
  · obtain ⟨n, rfl⟩ : ∃ n : Nat, h = n := ⟨h.toNat, by omega⟩
    have HR := Lib.hid hr
    clear hr
    go_enter Tryd.func20, Tryd.ntmps20
    go_wp2_with fail
    go_loop [3, 4] (fun vv hv => ∃ k V : Nat, 150 * k ≤ n ∧ Hid (V = 5000000000 / 2 ^ k) ∧ V ≤ 5000000000 ∧ vv = .int .i64 V ∧ hv = .int .i64 ((n : Int) - 150 * k)) (fun _ hv => (intOf hv).toNat)
    case atStart => exact ⟨0, 5000000000, by omega, Lib.hid rfl, by omega, rfl, by simp⟩
    case round =>
      obtain ⟨k, V, hk, hV, hV5, rfl, rfl⟩ := hrel
      obtain ⟨m, hm⟩ : ∃ m : Nat, (n : Int) - 150 * k = m := ⟨n - 150 * k, by omega⟩
      have HM := Lib.hid hm
      have hmb : m ≤ 1000000 := by omega
      rw [hm]
      clear hm
      by_cases h150 : 150 ≤ m
      · by_cases hv0 : V = 0
        · subst hv0
          have hz : r = 0 := by
            rw [HR.out]
            exact sub_none hk hV.out.symm
          have HZ := Lib.hid hz
          clear hz
          go_wp2
          go_ret
          exact ⟨by rw [HZ.out]; rfl, rfl⟩
        · have hp : (0 : Int) < V := by omega
          go_wp2
          go_round
          case rel => exact ⟨k + 1, V / 2, by have := HM.out; omega, Lib.hid (by rw [hV.out, half_next]), by omega, by go_num, by congr 1; have := HM.out; omega⟩
          case measure => simp [intOf]; omega
      · have hz : r = (V : Int) := by
          rw [HR.out, hV.out]
          exact (sub_at hk (by have := HM.out; omega)).symm
        have HZ := Lib.hid hz
        clear hz
        go_wp2
        go_ret
        exact ⟨by rw [HZ.out]; rfl, rfl⟩
end Go.Proofs.YtgkocmljnoambaaDoor
