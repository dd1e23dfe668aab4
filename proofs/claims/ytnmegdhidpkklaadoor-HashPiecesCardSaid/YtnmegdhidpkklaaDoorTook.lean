/-
  What an intake holds, on plain numbers. Conditions: none (plain mathematics).
-/
import Derived.Test.YtnmegdhidpkklaaDoorShaOut
namespace Go.Proofs.YtnmegdhidpkklaaDoor

theorem join_drop {m b : List UInt8} {q : Nat} (hq : 64 * q ≤ m.length) : (m ++ b).drop (64 * q) = m.drop (64 * q) ++ b := List.drop_append_of_le_length hq
/-- The block that a piece fills up. -/
theorem join_block {m b : List UInt8} {n : Nat} (hn : n + m.length % 64 = 64) :
    ((m ++ b).drop (64 * (m.length / 64))).take 64 = m.drop (64 * (m.length / 64)) ++ b.take n := by
  rw [join_drop (by omega), List.take_append]
  have hl : (m.drop (64 * (m.length / 64))).length = m.length % 64 := by rw [List.length_drop]; omega
  rw [List.take_of_length_le (by omega), hl]
  congr 2
  omega
theorem join_rest {m b : List UInt8} {n : Nat} (hn : n + m.length % 64 = 64) : (m ++ b).drop (64 * (m.length / 64 + 1)) = b.drop n := by
  have e : 64 * (m.length / 64 + 1) = m.length + n := by omega
  rw [e, ← List.drop_drop, List.drop_left]
theorem blocks256_next {m b : List UInt8} {n : Nat} (hn : n + m.length % 64 = 64) :
    blocks256 (m ++ b) (m.length / 64 + 1) = comp256 (blocks256 m (m.length / 64)) (m.drop (64 * (m.length / 64)) ++ b.take n) := by
  rw [blocks256, blocks256_more b _ (by omega), join_block hn]
theorem blocks256_same (m b : List UInt8) : blocks256 (m ++ b) (m.length / 64) = blocks256 m (m.length / 64) := blocks256_more b _ (by omega)
/-- A message that is closed has whole blocks. -/
theorem full_blocks (m : List UInt8) : (full m).length % 64 = 0 := by
  unfold full
  rw [List.length_append]
  exact padB_fits m.length
/-- What an intake holds behind the bytes m: the words behind the whole blocks, and the rest before any other bytes. -/
structure Took (m : List UInt8) (ws : List Int) (rest : List Int) : Prop where
  size : rest.length = 128
  words : m ≠ [] → ws = (blocks256 m (m.length / 64)).list
  low : rest.take (m.length % 64) = nums (m.drop (64 * (m.length / 64)))
theorem Took.zero : Took [] (List.replicate 8 0) (List.replicate 128 0) := ⟨by rw [List.length_replicate], fun h => absurd rfl h, rfl⟩
/-- Row r with the numbers ns from place k on. -/
def laid (r : List Int) (k : Nat) (ns : List Int) : List Int := r.take k ++ ns ++ r.drop (k + ns.length)
theorem laid_length {r ns : List Int} {k : Nat} (h : k + ns.length ≤ r.length) : (laid r k ns).length = r.length := by
  unfold laid
  simp only [List.length_append, List.length_take, List.length_drop]
  omega
theorem laid_take {r ns : List Int} {k : Nat} (h : k + ns.length ≤ r.length) : (laid r k ns).take (k + ns.length) = r.take k ++ ns := by
  unfold laid
  exact List.take_left' (by rw [List.length_append, List.length_take]; omega)
/-- A piece that fills no block. -/
theorem Took.some {m b : List UInt8} {ws rest : List Int} (h : Took m ws rest) (hm : m ≠ []) (hb : m.length % 64 + b.length < 64) :
    Took (m ++ b) ws (laid rest (m.length % 64) (nums b)) := by
  have hl : (m ++ b).length = m.length + b.length := List.length_append
  have e1 : (m ++ b).length / 64 = m.length / 64 := by omega
  have e2 : (m ++ b).length % 64 = m.length % 64 + (nums b).length := by rw [nums_length]; omega
  have hf : m.length % 64 + (nums b).length ≤ rest.length := by rw [nums_length, h.size]; omega
  refine ⟨by rw [laid_length hf, h.size], fun _ => ?_, ?_⟩
  · rw [e1, blocks256_same]
    exact h.words hm
  · rw [e2, laid_take hf, e1, join_drop (by omega), nums_append, h.low]
/-- Behind the whole blocks of all that came. -/
theorem Took.done {m : List UInt8} {rest : List Int} (hr : rest.length = 128) :
    Took m (blocks256 m (m.length / 64)).list (laid rest 0 (nums (m.drop (64 * (m.length / 64))))) := by
  have hl : (nums (m.drop (64 * (m.length / 64)))).length = m.length % 64 := by rw [nums_length, List.length_drop]; omega
  have hf : 0 + (nums (m.drop (64 * (m.length / 64)))).length ≤ rest.length := by rw [hr, hl]; omega
  refine ⟨by rw [laid_length hf, hr], fun _ => rfl, ?_⟩
  have h := laid_take hf
  rw [Nat.zero_add, hl] at h
  rw [h]
  rfl
end Go.Proofs.YtnmegdhidpkklaaDoor
