/-
  Words turned round, and read: bits.RotateLeft32, hash.get32, the reference's rot. Conditions: none.
-/
import Derived.Test.YtnmegdhidpkklaaDoorWords
import Derived.StillTailTactics
namespace Go.Proofs.YtnmegdhidpkklaaDoor
open Go.RowKit

set_option maxHeartbeats 800000 in
theorem rotl_any (x k : Int) (m n : Nat) (w : World) (_hx : U32 x) (h1 : IntKind.u64.wrap k = (m : Int)) (h2 : m % 32 = n) (hm : m < 18446744073709551616) :
    Calls Tryd.prog 86 #[.int .u32 x, .int .i64 k] w fun e w' => e = .returned (.int .u32 (rot32 n x)) ∧ w = w' := by
  have e1 : (m : Int) % 32 = (n : Int) := by omega
  have hn : n ≤ 31 := by omega
  have e2 : bits .and .u64 (m : Int) 31 = (n : Int) := by
    have h := bits_mask .u64 64 (by decide) wraps_u64 5 (by decide) (m : Int) (by omega) (by omega)
    have e5 : ((2 : Int) ^ 5 - 1) = 31 := by decide
    rw [e5] at h
    rw [h, ← e1]
    rfl
  obtain ⟨q, hq⟩ : ∃ q, q = 32 - n := ⟨_, rfl⟩
  have e3 : (32 : Int) - (n : Int) = (q : Int) := by omega
  have hr : rot32 n x = bits .or .u32 (x * 2 ^ n % 4294967296) (x / 2 ^ q) := by rw [hq]; rfl
  have HR := Lib.hid hr
  have hq32 : q ≤ 32 := by omega
  clear hr hq h2
  go_enter Tryd.func86, Tryd.ntmps86
  go_wp2
  go_ret
  exact ⟨by rw [HR.out]; rfl, rfl⟩

theorem or_be32 (x0 x1 x2 x3 : Int) (a0 : 0 ≤ x0) (b0 : x0 < 256) (a1 : 0 ≤ x1) (b1 : x1 < 256) (a2 : 0 ≤ x2) (b2 : x2 < 256) (a3 : 0 ≤ x3) (b3 : x3 < 256) :
    bits .or .u32 (bits .or .u32 (bits .or .u32 (x0 * 16777216) (x1 * 65536)) (x2 * 256)) x3 = x0 * 16777216 + x1 * 65536 + x2 * 256 + x3 := by
  have e1 : bits .or .u32 (x0 * 16777216) (x1 * 65536) = x0 * 16777216 + x1 * 65536 :=
    bits_join .u32 32 (by decide) wraps_u32 24 _ _ (by omega) (by omega) (by omega) (by omega) (by omega) (by omega)
  have e2 : bits .or .u32 (x0 * 16777216 + x1 * 65536) (x2 * 256) = x0 * 16777216 + x1 * 65536 + x2 * 256 :=
    bits_join .u32 32 (by decide) wraps_u32 16 _ _ (by omega) (by omega) (by omega) (by omega) (by omega) (by omega)
  have e3 : bits .or .u32 (x0 * 16777216 + x1 * 65536 + x2 * 256) x3 = x0 * 16777216 + x1 * 65536 + x2 * 256 + x3 :=
    bits_join .u32 32 (by decide) wraps_u32 8 _ _ (by omega) (by omega) (by omega) (by omega) (by omega) (by omega)
  rw [e1, e2, e3]

set_option maxRecDepth 100000 in
set_option maxHeartbeats 1600000 in
theorem get32_any (b o len c : Nat) (q0 q1 q2 q3 : UInt8) (w : World) (hl : 4 ≤ len) (h0 : w.cell? ⟨b, o, none⟩ = some (bv q0)) (h1 : w.cell? ⟨b, o + 1, none⟩ = some (bv q1)) (h2 : w.cell? ⟨b, o + 2, none⟩ = some (bv q2)) (h3 : w.cell? ⟨b, o + 3, none⟩ = some (bv q3)) :
    Calls Tryd.prog 69 #[.slice (some ⟨b, o, none⟩) len c] w fun e w' => e = .returned (.int .u32 (be32 q0 q1 q2 q3)) ∧ ∃ k, w' = w.drewN k := by
  have a0 := q0.toNat_lt
  have a1 := q1.toNat_lt
  have a2 := q2.toNat_lt
  have a3 := q3.toNat_lt
  have hor := or_be32 q0.toNat q1.toNat q2.toNat q3.toNat (by omega) (by omega) (by omega) (by omega) (by omega) (by omega) (by omega) (by omega)
  unfold bv at h0 h1 h2 h3
  have i0 : (0 : Int) < (len : Int) := by omega
  have i1 : (1 : Int) < (len : Int) := by omega
  have i2 : (2 : Int) < (len : Int) := by omega
  have i3 : (3 : Int) < (len : Int) := by omega
  have u0 : IntKind.u32.wrap (q0.toNat : Int) = (q0.toNat : Int) := by rw [u32_wrap]; omega
  have u1 : IntKind.u32.wrap (q1.toNat : Int) = (q1.toNat : Int) := by rw [u32_wrap]; omega
  have u2 : IntKind.u32.wrap (q2.toNat : Int) = (q2.toNat : Int) := by rw [u32_wrap]; omega
  have u3 : IntKind.u32.wrap (q3.toNat : Int) = (q3.toNat : Int) := by rw [u32_wrap]; omega
  have v0 : IntKind.u32.wrap ((q0.toNat : Int) * 16777216) = (q0.toNat : Int) * 16777216 := by rw [u32_wrap]; omega
  have v1 : IntKind.u32.wrap ((q1.toNat : Int) * 65536) = (q1.toNat : Int) * 65536 := by rw [u32_wrap]; omega
  have v2 : IntKind.u32.wrap ((q2.toNat : Int) * 256) = (q2.toNat : Int) * 256 := by rw [u32_wrap]; omega
  go_enter Tryd.func69, Tryd.ntmps69
  go_wp2_with fail
  go_quiet (fail)
  go_wp2
  go_ret
  exact ⟨rfl, _, rfl⟩
end Go.Proofs.YtnmegdhidpkklaaDoor
