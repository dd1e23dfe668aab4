/-
  Texts joined: RmMix, RmLine, RmStep. Conditions: those of each.
-/
import Derived.Test.YtfkpdbmgiefnfaaDoorP11
import Derived.Test.YtfkpdbmgiefnfaaDoorP3
import Derived.Test.YtfkpdbmgiefnfaaDoorP4
import Derived.Test.YtfkpdbmgiefnfaaDoorP1
import Derived.Laws.CopyRow
/-
  hash.mix, the reference's f, math/bits.ReverseBytes32. Conditions: none.
-/
namespace Go.Proofs.YtfkpdbmgiefnfaaDoor.Rm
open Go.RowKit

theorem and_split {a b c d i : Nat} (hb : b < 2 ^ i) (hd : d < 2 ^ i) : (2 ^ i * a + b) &&& (2 ^ i * c + d) = 2 ^ i * (a &&& c) + (b &&& d) := by
  apply Nat.eq_of_testBit_eq
  intro j
  rw [Nat.testBit_and, Nat.testBit_two_pow_mul_add _ hb, Nat.testBit_two_pow_mul_add _ hd, Nat.testBit_two_pow_mul_add _ (Nat.lt_of_le_of_lt Nat.and_le_left hb)]
  split
  · rw [Nat.testBit_and]
  · rw [Nat.testBit_and]
theorem and_mask (x : Nat) : x &&& 16711935 = x / 65536 % 256 * 65536 + x % 256 := by
  have h : x = 2 ^ 16 * (x / 65536) + x % 65536 := by omega
  have hm : (16711935 : Nat) = 2 ^ 16 * 255 + 255 := by decide
  have e : x &&& 16711935 = 2 ^ 16 * (x / 65536 &&& 255) + (x % 65536 &&& 255) := by
    conv => lhs; rw [h, hm]
    exact and_split (by omega) (by omega)
  rw [e, show (255 : Nat) = 2 ^ 8 - 1 from rfl, Nat.and_two_pow_sub_one_eq_mod, Nat.and_two_pow_sub_one_eq_mod]
  omega
theorem mask_int {x : Int} (h : U32 x) : bits .and .u32 x 16711935 = x / 65536 % 256 * 65536 + x % 256 := by
  obtain ⟨h0, h1⟩ := h
  obtain ⟨a, rfl⟩ := Int.eq_ofNat_of_zero_le h0
  have e := (bits_nat .u32 32 (by decide) wraps_u32 a 16711935 (by omega) (by decide)).1
  have e2 : ((16711935 : Nat) : Int) = 16711935 := rfl
  rw [e2] at e
  rw [e, and_mask a]
  omega
set_option maxRecDepth 100000 in
theorem rev_bits {x : Int} (h : U32 x) : ∃ y, y = bits .or .u32 (bits .and .u32 (x / 256) 16711935) (bits .and .u32 x 16711935 * 256 % 4294967296) ∧ bits .or .u32 (y / 65536) (y * 65536 % 4294967296) = rev32 x := by
  obtain ⟨h0, h1⟩ := h
  refine ⟨_, rfl, ?_⟩
  rw [mask_int (x := x / 256) ⟨by omega, by omega⟩, mask_int (x := x) ⟨h0, h1⟩]
  obtain ⟨b3, hb3⟩ : ∃ b, b = x / 16777216 := ⟨_, rfl⟩
  obtain ⟨b2, hb2⟩ : ∃ b, b = x / 65536 % 256 := ⟨_, rfl⟩
  obtain ⟨b1, hb1⟩ : ∃ b, b = x / 256 % 256 := ⟨_, rfl⟩
  obtain ⟨b0, hb0⟩ : ∃ b, b = x % 256 := ⟨_, rfl⟩
  have g1 : x / 256 / 65536 % 256 * 65536 + x / 256 % 256 = b3 * 65536 + b1 := by omega
  have g2 : (x / 65536 % 256 * 65536 + x % 256) * 256 % 4294967296 = b2 * 16777216 + b0 * 256 := by omega
  rw [g1, g2]
  have j1 : bits .or .u32 (b3 * 65536 + b1) (b2 * 16777216 + b0 * 256) = b2 * 16777216 + b3 * 65536 + b0 * 256 + b1 := by
    have c1 : 0 ≤ b3 ∧ b3 < 256 ∧ 0 ≤ b2 ∧ b2 < 256 ∧ 0 ≤ b1 ∧ b1 < 256 ∧ 0 ≤ b0 ∧ b0 < 256 := by omega
    obtain ⟨c30, c31, c20, c21, c10, c11, c00, c01⟩ := c1
    clear hb0 hb1 hb2 hb3 g1 g2
    have p1 : b3 * 65536 + b1 = bits .or .u32 (b3 * 65536) b1 := (bits_join .u32 32 (by decide) wraps_u32 16 _ _ (by omega) (by omega) (by omega) (by omega) (by omega) (by omega)).symm
    have p2 : b2 * 16777216 + b0 * 256 = bits .or .u32 (b2 * 16777216) (b0 * 256) := (bits_join .u32 32 (by decide) wraps_u32 24 _ _ (by omega) (by omega) (by omega) (by omega) (by omega) (by omega)).symm
    have q1 : b2 * 16777216 + b3 * 65536 = bits .or .u32 (b2 * 16777216) (b3 * 65536) := (bits_join .u32 32 (by decide) wraps_u32 24 _ _ (by omega) (by omega) (by omega) (by omega) (by omega) (by omega)).symm
    have q2 : b2 * 16777216 + b3 * 65536 + b0 * 256 = bits .or .u32 (b2 * 16777216 + b3 * 65536) (b0 * 256) := (bits_join .u32 32 (by decide) wraps_u32 16 _ _ (by omega) (by omega) (by omega) (by omega) (by omega) (by omega)).symm
    have q3 : b2 * 16777216 + b3 * 65536 + b0 * 256 + b1 = bits .or .u32 (b2 * 16777216 + b3 * 65536 + b0 * 256) b1 := (bits_join .u32 32 (by decide) wraps_u32 8 _ _ (by omega) (by omega) (by omega) (by omega) (by omega) (by omega)).symm
    rw [q3, q2, q1, p1, p2]
    obtain ⟨A, hA⟩ : ∃ A : Nat, b3 * 65536 = (A : Int) := ⟨(b3 * 65536).toNat, by omega⟩
    obtain ⟨Bq, hBq⟩ : ∃ A : Nat, b2 * 16777216 = (A : Int) := ⟨(b2 * 16777216).toNat, by omega⟩
    obtain ⟨Cq, hCq⟩ : ∃ A : Nat, b0 * 256 = (A : Int) := ⟨(b0 * 256).toNat, by omega⟩
    obtain ⟨n1, hn1⟩ : ∃ A : Nat, b1 = (A : Int) := ⟨b1.toNat, by omega⟩
    have l3 : A < 4294967296 := by omega
    have l2 : Bq < 4294967296 := by omega
    have l1 : n1 < 4294967296 := by omega
    have l0 : Cq < 4294967296 := by omega
    rw [hA, hBq, hCq, hn1]
    clear hA hBq hCq hn1 p1 p2 q1 q2 q3
    have H : ∀ a b : Nat, a < 4294967296 → b < 4294967296 → bits .or .u32 (a : Int) (b : Int) = ((a ||| b : Nat) : Int) := fun a b ha hb => (bits_nat .u32 32 (by decide) wraps_u32 a b ha hb).2
    have B : ∀ a b : Nat, a < 4294967296 → b < 4294967296 → a ||| b < 4294967296 := fun a b ha hb => by
      have h := Nat.or_lt_two_pow (n := 32) (x := a) (y := b) (by rw [show (2 : Nat) ^ 32 = 4294967296 by decide]; exact ha) (by rw [show (2 : Nat) ^ 32 = 4294967296 by decide]; exact hb)
      rw [show (2 : Nat) ^ 32 = 4294967296 by decide] at h
      exact h
    rw [H _ _ l3 l1, H _ _ l2 l0, H _ _ l2 l3, H _ _ (B _ _ l3 l1) (B _ _ l2 l0), H _ _ (B _ _ l2 l3) l0, H _ _ (B _ _ (B _ _ l2 l3) l0) l1]
    congr 1
    apply Nat.eq_of_testBit_eq
    intro j
    simp only [Nat.testBit_or]
    cases A.testBit j <;> cases Bq.testBit j <;> cases Cq.testBit j <;> cases n1.testBit j <;> rfl
  rw [j1]
  obtain ⟨hi, hhi⟩ : ∃ z, z = (b2 * 16777216 + b3 * 65536 + b0 * 256 + b1) / 65536 := ⟨_, rfl⟩
  obtain ⟨lo, hlo⟩ : ∃ z, z = (b2 * 16777216 + b3 * 65536 + b0 * 256 + b1) * 65536 % 4294967296 := ⟨_, rfl⟩
  have k1 : hi = b2 * 256 + b3 := by omega
  have k2 : lo = b0 * 16777216 + b1 * 65536 := by omega
  rw [← hhi, ← hlo, k1, k2]
  have c1 : 0 ≤ b3 ∧ b3 < 256 ∧ 0 ≤ b2 ∧ b2 < 256 ∧ 0 ≤ b1 ∧ b1 < 256 ∧ 0 ≤ b0 ∧ b0 < 256 := by omega
  have sw : ∀ a b : Int, bits .or .u32 a b = bits .or .u32 b a := fun a b => by simp only [bits, BitVec.or_comm]
  rw [sw, bits_join .u32 32 (by decide) wraps_u32 16 _ _ (by omega) (by omega) (by omega) (by omega) (by omega) (by omega)]
  unfold rev32
  omega
end Go.Proofs.YtfkpdbmgiefnfaaDoor.Rm

/-
  hash.leftLine and hash.rightLine, walked. Conditions: the tables are laid; the words are of 32 bits.
-/
namespace Go.Proofs.YtfkpdbmgiefnfaaDoor.Rm
open Go.RowKit

/-- A table of bytes lies in the program's memory. -/
def TabIs (g : Nat) (l : List Int) (w : World) : Prop := g < w.heap.size ∧ ∀ (t : Nat) (k : Int), l[t]? = some k → w.cell? ⟨g, t, none⟩ = some (.int .u8 k)
theorem TabIs.below {g : Nat} {l : List Int} {w w' : World} (h : TabIs g l w) (hb : Below w.heap.size w w') : TabIs g l w' :=
  ⟨Nat.lt_of_lt_of_le h.1 hb.size, fun t k hk => (hb.cell (p := ⟨g, t, none⟩) h.1).trans (h.2 t k hk)⟩
theorem TabIs.turns {g : Nat} {l : List Int} {S : Nat → Prop} {w w' : World} (h : TabIs g l w) (hb : Turns S w w') (hS : ¬ S g) : TabIs g l w' :=
  ⟨Nat.lt_of_lt_of_le h.1 hb.size, fun t k hk => (hb.cell (p := ⟨g, t, none⟩) h.1 hS).trans (h.2 t k hk)⟩
end Go.Proofs.YtfkpdbmgiefnfaaDoor.Rm

/-
  hash.stepRipemd, walked. Conditions: the block has 64 bytes; the words are of 32 bits; the tables are laid.
-/
namespace Go.Proofs.YtfkpdbmgiefnfaaDoor.Rm
open Go.RowKit

theorem wordR_cells {bs : List UInt8} {t : Nat} (h : 4 * t + 4 ≤ bs.length) : ∃ q0 q1 q2 q3, bs[4 * t]? = some q0 ∧ bs[4 * t + 1]? = some q1 ∧ bs[4 * t + 2]? = some q2 ∧ bs[4 * t + 3]? = some q3 ∧ wordR bs t = be32 q3 q2 q1 q0 := by
  refine ⟨bs[4 * t]'(by omega), bs[4 * t + 1]'(by omega), bs[4 * t + 2]'(by omega), bs[4 * t + 3]'(by omega), List.getElem?_eq_getElem _, List.getElem?_eq_getElem _, List.getElem?_eq_getElem _, List.getElem?_eq_getElem _, ?_⟩
  unfold wordR
  simp only [List.getD_eq_getElem?_getD]
  rw [List.getElem?_eq_getElem (show 4 * t < bs.length by omega), List.getElem?_eq_getElem (show 4 * t + 1 < bs.length by omega), List.getElem?_eq_getElem (show 4 * t + 2 < bs.length by omega), List.getElem?_eq_getElem (show 4 * t + 3 < bs.length by omega)]
  rfl
theorem join_at (s p q : S5) {i : Nat} (hi : i < 5) : ∃ x y z, s.list[(i + 1) % 5]? = some x ∧ p.list[(i + 2) % 5]? = some y ∧ q.list[(i + 3) % 5]? = some z ∧ (joinR s p q).list[i]? = some (add32 (add32 x y) z) := by
  obtain rfl | rfl | rfl | rfl | rfl : i = 0 ∨ i = 1 ∨ i = 2 ∨ i = 3 ∨ i = 4 := by omega
  all_goals exact ⟨_, _, _, rfl, rfl, rfl, rfl⟩
end Go.Proofs.YtfkpdbmgiefnfaaDoor.Rm
