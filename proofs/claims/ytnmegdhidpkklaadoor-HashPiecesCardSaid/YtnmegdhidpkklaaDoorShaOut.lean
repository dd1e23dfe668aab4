/-
  What closes a message and what a digest gives, as rows of numbers. Conditions: none (plain mathematics).
-/
import Derived.Test.YtnmegdhidpkklaaDoorPadding
import Derived.Test.YtnmegdhidpkklaaDoorPut32
namespace Go.Proofs.YtnmegdhidpkklaaDoor
open Go.RowKit

def nums (bs : List UInt8) : List Int := bs.map fun u => (u.toNat : Int)
theorem nums_append (a b : List UInt8) : nums (a ++ b) = nums a ++ nums b := by simp [nums]
theorem nums_length (a : List UInt8) : (nums a).length = a.length := by simp [nums]
theorem nums_bv (a : List UInt8) : (nums a).map (Value.int .u8) = a.map bv := by
  unfold nums bv
  rw [List.map_map]
  rfl
theorem byte_of {m : Nat} : ((UInt8.ofNat (m % 256)).toNat : Int) = ((m % 256 : Nat) : Int) := by
  rw [UInt8.toNat_ofNat']
  omega
theorem lenI_full (n : Nat) : lenI n 8 = nums (lenB n) := by
  unfold lenI nums lenB
  rw [List.map_map]
  refine List.map_congr_left fun j hj => ?_
  have hj8 : j < 8 := List.mem_range.1 hj
  rw [if_pos (by omega)]
  show _ = ((UInt8.ofNat (8 * n / 256 ^ (7 - j) % 256)).toNat : Int)
  rw [byte_of]
  have e : (2 : Int) ^ (8 * (7 - j)) = ((256 ^ (7 - j) : Nat) : Int) := by
    rw [Int.pow_mul, Int.natCast_pow]
    rfl
  rw [e]
  generalize 256 ^ (7 - j) = m
  rw [Int.natCast_emod, Int.natCast_ediv, Int.natCast_mul]
  rfl
theorem padI_full (n : Nat) : padI n ((119 - n % 64) % 64) 8 = nums (padB n) := by
  unfold padI padB
  rw [nums_append, nums_append, lenI_full]
  congr 1
  have h : ∀ k, nums (List.replicate k (0 : UInt8)) = List.replicate k (0 : Int) := fun k => by unfold nums; rw [List.map_replicate]; rfl
  rw [h]
  rfl

theorem outB_append (a b : List Int) : outB (a ++ b) = outB a ++ outB b := by simp [outB]
theorem word_bytes {x : Int} (h : U32 x) : nums (outB [x]) = [x / 16777216 % 256, x / 65536 % 256, x / 256 % 256, x % 256] := by
  obtain ⟨h0, h1⟩ := h
  have hb : ∀ y : Int, ((UInt8.ofNat (y % 256).toNat).toNat : Int) = y % 256 := fun y => by
    rw [UInt8.toNat_ofNat']
    omega
  simp only [nums, outB, List.flatMap_cons, List.flatMap_nil, List.append_nil, List.map_cons, List.map_nil, hb]
/-- A word more in a row of zeros. -/
theorem put4_next {m : Nat} {ws : List Int} {x : Int} (hx : U32 x) (h : (outB ws).length + 4 ≤ m) :
    put4 (padZ m (nums (outB ws))) (4 * ws.length) x = padZ m (nums (outB (ws ++ [x]))) := by
  have hl := outB_length ws
  have e0 : (nums (outB ws)).length = 4 * ws.length := by rw [nums_length, hl]
  rw [outB_append, nums_append, word_bytes hx]
  unfold put4
  have s0 := padZ_set (n := m) (l := nums (outB ws)) (z := x / 16777216 % 256) (by omega)
  have s1 := padZ_set (n := m) (l := nums (outB ws) ++ [x / 16777216 % 256]) (z := x / 65536 % 256) (by simp; omega)
  have s2 := padZ_set (n := m) (l := nums (outB ws) ++ [x / 16777216 % 256] ++ [x / 65536 % 256]) (z := x / 256 % 256) (by simp; omega)
  have s3 := padZ_set (n := m) (l := nums (outB ws) ++ [x / 16777216 % 256] ++ [x / 65536 % 256] ++ [x / 256 % 256]) (z := x % 256) (by simp; omega)
  simp only [List.length_append, List.length_cons, List.length_nil, e0] at s0 s1 s2 s3
  rw [s0, s1, s2, s3]
  simp only [List.append_assoc, List.cons_append, List.nil_append]
end Go.Proofs.YtnmegdhidpkklaaDoor
