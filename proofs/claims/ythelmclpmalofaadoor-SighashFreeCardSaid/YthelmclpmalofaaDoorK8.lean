/-
  Texts joined: Put32, ShaOut, Took. Conditions: those of each.
-/
import Derived.Test.YthelmclpmalofaaDoorK7
/-
  hash.put32, walked. Conditions: four places are there, the row may be written.
-/
namespace Go.Proofs.YthelmclpmalofaaDoor
open Go.RowKit

/-- Four bytes of a word laid over a row. -/
def put4 (xs : List Int) (o : Nat) (x : Int) : List Int := (((xs.set o (x / 16777216 % 256)).set (o + 1) (x / 65536 % 256)).set (o + 2) (x / 256 % 256)).set (o + 3) (x % 256)
theorem put4_length (xs : List Int) (o : Nat) (x : Int) : (put4 xs o x).length = xs.length := by simp [put4]

set_option maxRecDepth 100000 in
set_option maxHeartbeats 1600000 in
theorem put32_any (b o len c : Nat) (t : TypeId) (xs : List Int) (x : Int) (w : World) (hr : IRow w b t .u8 xs) (hl : 4 ≤ len) (ho : o + 4 ≤ xs.length) :
    Calls Tryd.prog 87 #[.slice (some ⟨b, o, none⟩) len c, .int .u32 x] w fun e w' => e = .returned (.tuple #[]) ∧ IRow w' b t .u8 (put4 xs o x) ∧ ∀ B, B ≤ b → Below B w w' := by
  have i0 : (0 : Int) < (len : Int) := by omega
  have i1 : (1 : Int) < (len : Int) := by omega
  have i2 : (2 : Int) < (len : Int) := by omega
  have i3 : (3 : Int) < (len : Int) := by omega
  have r1 := hr.set o (x / 16777216 % 256)
  have r2 := r1.set (o + 1) (x / 65536 % 256)
  have r3 := r2.set (o + 2) (x / 256 % 256)
  have r4 := r3.set (o + 3) (x % 256)
  have k0 := hr.cell (i := o) (List.getElem?_eq_getElem (by omega))
  have k1 := r1.cell (i := o + 1) (List.getElem?_eq_getElem (by simp; omega))
  have k2 := r2.cell (i := o + 2) (List.getElem?_eq_getElem (by simp; omega))
  have k3 := r3.cell (i := o + 3) (List.getElem?_eq_getElem (by simp; omega))
  have f0 := hr.free o
  have f1 := r1.free (o + 1)
  have f2 := r2.free (o + 2)
  have f3 := r3.free (o + 3)
  have HR := Lib.hid r4
  clear hr r1 r2 r3 r4
  go_enter Tryd.func87, Tryd.ntmps87
  go_wp2
  refine bodyPost_end (results_none Tryd.results87 _ _ _) rfl ⟨rfl, HR.out, fun B hB => ((((Below.refl B w).setCell hB _).setCell hB _).setCell hB _).setCell hB _⟩
end Go.Proofs.YthelmclpmalofaaDoor

/-
  What closes a message and what a digest gives, as rows of numbers. Conditions: none (plain mathematics).
-/
namespace Go.Proofs.YthelmclpmalofaaDoor
open Go.RowKit

def nums (bs : List UInt8) : List Int := bs.map fun u => (u.toNat : Int)
theorem nums_append (a b : List UInt8) : nums (a ++ b) = nums a ++ nums b := by simp [nums]
theorem nums_length (a : List UInt8) : (nums a).length = a.length := by simp [nums]
theorem nums_bv (a : List UInt8) : (nums a).map (Value.int .u8) = a.map bv := by
  unfold nums bv
  rw [List.map_map]
  rfl
theorem byte_of {m : Nat} : ((UInt8.ofNat (m % 256)).toNat : Int) = ((m % 256 : Nat) : Int) := by
  rw [UInt8.toNat_ofNat']
  omega
theorem lenI_full (n : Nat) : lenI n 8 = nums (lenB n) := by
  unfold lenI nums lenB
  rw [List.map_map]
  refine List.map_congr_left fun j hj => ?_
  have hj8 : j < 8 := List.mem_range.1 hj
  rw [if_pos (by omega)]
  show _ = ((UInt8.ofNat (8 * n / 256 ^ (7 - j) % 256)).toNat : Int)
  rw [byte_of]
  have e : (2 : Int) ^ (8 * (7 - j)) = ((256 ^ (7 - j) : Nat) : Int) := by
    rw [Int.pow_mul, Int.natCast_pow]
    rfl
  rw [e]
  generalize 256 ^ (7 - j) = m
  rw [Int.natCast_emod, Int.natCast_ediv, Int.natCast_mul]
  rfl
theorem padI_full (n : Nat) : padI n ((119 - n % 64) % 64) 8 = nums (padB n) := by
  unfold padI padB
  rw [nums_append, nums_append, lenI_full]
  congr 1
  have h : ∀ k, nums (List.replicate k (0 : UInt8)) = List.replicate k (0 : Int) := fun k => by unfold nums; rw [List.map_replicate]; rfl
  rw [h]
  rfl

theorem outB_append (a b : List Int) : outB (a ++ b) = outB a ++ outB b := by simp [outB]
theorem word_bytes {x : Int} (h : U32 x) : nums (outB [x]) = [x / 16777216 % 256, x / 65536 % 256, x / 256 % 256, x % 256] := by
  obtain ⟨h0, h1⟩ := h
  have hb : ∀ y : Int, ((UInt8.ofNat (y % 256).toNat).toNat : Int) = y % 256 := fun y => by
    rw [UInt8.toNat_ofNat']
    omega
  simp only [nums, outB, List.flatMap_cons, List.flatMap_nil, List.append_nil, List.map_cons, List.map_nil, hb]
/-- A word more in a row of zeros. -/
theorem put4_next {m : Nat} {ws : List Int} {x : Int} (hx : U32 x) (h : (outB ws).length + 4 ≤ m) :
    put4 (padZ m (nums (outB ws))) (4 * ws.length) x = padZ m (nums (outB (ws ++ [x]))) := by
  have hl := outB_length ws
  have e0 : (nums (outB ws)).length = 4 * ws.length := by rw [nums_length, hl]
  rw [outB_append, nums_append, word_bytes hx]
  unfold put4
  have s0 := padZ_set (n := m) (l := nums (outB ws)) (z := x / 16777216 % 256) (by omega)
  have s1 := padZ_set (n := m) (l := nums (outB ws) ++ [x / 16777216 % 256]) (z := x / 65536 % 256) (by simp; omega)
  have s2 := padZ_set (n := m) (l := nums (outB ws) ++ [x / 16777216 % 256] ++ [x / 65536 % 256]) (z := x / 256 % 256) (by simp; omega)
  have s3 := padZ_set (n := m) (l := nums (outB ws) ++ [x / 16777216 % 256] ++ [x / 65536 % 256] ++ [x / 256 % 256]) (z := x % 256) (by simp; omega)
  simp only [List.length_append, List.length_cons, List.length_nil, e0] at s0 s1 s2 s3
  rw [s0, s1, s2, s3]
  simp only [List.append_assoc, List.cons_append, List.nil_append]
end Go.Proofs.YthelmclpmalofaaDoor

/-
  What an intake holds, on plain numbers. Conditions: none (plain mathematics).
-/
namespace Go.Proofs.YthelmclpmalofaaDoor

theorem join_drop {m b : List UInt8} {q : Nat} (hq : 64 * q ≤ m.length) : (m ++ b).drop (64 * q) = m.drop (64 * q) ++ b := List.drop_append_of_le_length hq
/-- The block that a piece fills up. -/
theorem join_block {m b : List UInt8} {n : Nat} (hn : n + m.length % 64 = 64) :
    ((m ++ b).drop (64 * (m.length / 64))).take 64 = m.drop (64 * (m.length / 64)) ++ b.take n := by
  rw [join_drop (by omega), List.take_append]
  have hl : (m.drop (64 * (m.length / 64))).length = m.length % 64 := by rw [List.length_drop]; omega
  rw [List.take_of_length_le (by omega), hl]
  congr 2
  omega
theorem join_rest {m b : List UInt8} {n : Nat} (hn : n + m.length % 64 = 64) : (m ++ b).drop (64 * (m.length / 64 + 1)) = b.drop n := by
  have e : 64 * (m.length / 64 + 1) = m.length + n := by omega
  rw [e, ← List.drop_drop, List.drop_left]
theorem blocks256_next {m b : List UInt8} {n : Nat} (hn : n + m.length % 64 = 64) :
    blocks256 (m ++ b) (m.length / 64 + 1) = comp256 (blocks256 m (m.length / 64)) (m.drop (64 * (m.length / 64)) ++ b.take n) := by
  rw [blocks256, blocks256_more b _ (by omega), join_block hn]
theorem blocks256_same (m b : List UInt8) : blocks256 (m ++ b) (m.length / 64) = blocks256 m (m.length / 64) := blocks256_more b _ (by omega)
/-- A message that is closed has whole blocks. -/
theorem full_blocks (m : List UInt8) : (full m).length % 64 = 0 := by
  unfold full
  rw [List.length_append]
  exact padB_fits m.length
/-- What an intake holds behind the bytes m: the words behind the whole blocks, and the rest before any other bytes. -/
structure Took (m : List UInt8) (ws : List Int) (rest : List Int) : Prop where
  size : rest.length = 128
  words : m ≠ [] → ws = (blocks256 m (m.length / 64)).list
  low : rest.take (m.length % 64) = nums (m.drop (64 * (m.length / 64)))
theorem Took.zero : Took [] (List.replicate 8 0) (List.replicate 128 0) := ⟨by rw [List.length_replicate], fun h => absurd rfl h, rfl⟩
/-- Row r with the numbers ns from place k on. -/
def laid (r : List Int) (k : Nat) (ns : List Int) : List Int := r.take k ++ ns ++ r.drop (k + ns.length)
theorem laid_length {r ns : List Int} {k : Nat} (h : k + ns.length ≤ r.length) : (laid r k ns).length = r.length := by
  unfold laid
  simp only [List.length_append, List.length_take, List.length_drop]
  omega
theorem laid_take {r ns : List Int} {k : Nat} (h : k + ns.length ≤ r.length) : (laid r k ns).take (k + ns.length) = r.take k ++ ns := by
  unfold laid
  exact List.take_left' (by rw [List.length_append, List.length_take]; omega)
/-- A piece that fills no block. -/
theorem Took.some {m b : List UInt8} {ws rest : List Int} (h : Took m ws rest) (hm : m ≠ []) (hb : m.length % 64 + b.length < 64) :
    Took (m ++ b) ws (laid rest (m.length % 64) (nums b)) := by
  have hl : (m ++ b).length = m.length + b.length := List.length_append
  have e1 : (m ++ b).length / 64 = m.length / 64 := by omega
  have e2 : (m ++ b).length % 64 = m.length % 64 + (nums b).length := by rw [nums_length]; omega
  have hf : m.length % 64 + (nums b).length ≤ rest.length := by rw [nums_length, h.size]; omega
  refine ⟨by rw [laid_length hf, h.size], fun _ => ?_, ?_⟩
  · rw [e1, blocks256_same]
    exact h.words hm
  · rw [e2, laid_take hf, e1, join_drop (by omega), nums_append, h.low]
/-- Behind the whole blocks of all that came. -/
theorem Took.done {m : List UInt8} {rest : List Int} (hr : rest.length = 128) :
    Took m (blocks256 m (m.length / 64)).list (laid rest 0 (nums (m.drop (64 * (m.length / 64))))) := by
  have hl : (nums (m.drop (64 * (m.length / 64)))).length = m.length % 64 := by rw [nums_length, List.length_drop]; omega
  have hf : 0 + (nums (m.drop (64 * (m.length / 64)))).length ≤ rest.length := by rw [hr, hl]; omega
  refine ⟨by rw [laid_length hf, hr], fun _ => rfl, ?_⟩
  have h := laid_take hf
  rw [Nat.zero_add, hl] at h
  rw [h]
  rfl
end Go.Proofs.YthelmclpmalofaaDoor
