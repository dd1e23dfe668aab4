/-
  Texts joined: RmTook, RmInRow, RmAdd. Conditions: those of each.
-/
import Derived.Test.YtfkpdbmgiefnfaaDoorP11
import Derived.Test.YtfkpdbmgiefnfaaDoorP5
import Derived.Test.YtfkpdbmgiefnfaaDoorP6
import Derived.Test.YtfkpdbmgiefnfaaDoorP12
/-
  What an intake holds, on plain numbers. Conditions: none (plain mathematics).
-/
namespace Go.Proofs.YtfkpdbmgiefnfaaDoor.Rm

theorem join_drop {m b : List UInt8} {q : Nat} (hq : 64 * q ≤ m.length) : (m ++ b).drop (64 * q) = m.drop (64 * q) ++ b := List.drop_append_of_le_length hq
/-- The block that a piece fills up. -/
theorem join_block {m b : List UInt8} {n : Nat} (hn : n + m.length % 64 = 64) :
    ((m ++ b).drop (64 * (m.length / 64))).take 64 = m.drop (64 * (m.length / 64)) ++ b.take n := by
  rw [join_drop (by omega), List.take_append]
  have hl : (m.drop (64 * (m.length / 64))).length = m.length % 64 := by rw [List.length_drop]; omega
  rw [List.take_of_length_le (by omega), hl]
  congr 2
  omega
theorem join_rest {m b : List UInt8} {n : Nat} (hn : n + m.length % 64 = 64) : (m ++ b).drop (64 * (m.length / 64 + 1)) = b.drop n := by
  have e : 64 * (m.length / 64 + 1) = m.length + n := by omega
  rw [e, ← List.drop_drop, List.drop_left]
theorem blocksR_next {m b : List UInt8} {n : Nat} (hn : n + m.length % 64 = 64) :
    blocksR (m ++ b) (m.length / 64 + 1) = compR (blocksR m (m.length / 64)) (m.drop (64 * (m.length / 64)) ++ b.take n) := by
  rw [blocksR, blocksR_more b _ (by omega), join_block hn]
theorem blocksR_same (m b : List UInt8) : blocksR (m ++ b) (m.length / 64) = blocksR m (m.length / 64) := blocksR_more b _ (by omega)
/-- What an intake holds behind the bytes m: the words behind the whole blocks, and the rest before any other bytes. -/
structure Took (m : List UInt8) (ws : List Int) (rest : List Int) : Prop where
  size : rest.length = 128
  words : m ≠ [] → ws = (blocksR m (m.length / 64)).list
  low : rest.take (m.length % 64) = nums (m.drop (64 * (m.length / 64)))
theorem Took.zero : Took [] (List.replicate 5 0) (List.replicate 128 0) := ⟨by rw [List.length_replicate], fun h => absurd rfl h, rfl⟩
/-- Row r with the numbers ns from place k on. -/
def laid (r : List Int) (k : Nat) (ns : List Int) : List Int := r.take k ++ ns ++ r.drop (k + ns.length)
theorem laid_length {r ns : List Int} {k : Nat} (h : k + ns.length ≤ r.length) : (laid r k ns).length = r.length := by
  unfold laid
  simp only [List.length_append, List.length_take, List.length_drop]
  omega
theorem laid_take {r ns : List Int} {k : Nat} (h : k + ns.length ≤ r.length) : (laid r k ns).take (k + ns.length) = r.take k ++ ns := by
  unfold laid
  exact List.take_left' (by rw [List.length_append, List.length_take]; omega)
/-- A piece that fills no block. -/
theorem Took.some {m b : List UInt8} {ws rest : List Int} (h : Took m ws rest) (hm : m ≠ []) (hb : m.length % 64 + b.length < 64) :
    Took (m ++ b) ws (laid rest (m.length % 64) (nums b)) := by
  have hl : (m ++ b).length = m.length + b.length := List.length_append
  have e1 : (m ++ b).length / 64 = m.length / 64 := by omega
  have e2 : (m ++ b).length % 64 = m.length % 64 + (nums b).length := by rw [nums_length]; omega
  have hf : m.length % 64 + (nums b).length ≤ rest.length := by rw [nums_length, h.size]; omega
  refine ⟨by rw [laid_length hf, h.size], fun _ => ?_, ?_⟩
  · rw [e1, blocksR_same]
    exact h.words hm
  · rw [e2, laid_take hf, e1, join_drop (by omega), nums_append, h.low]
/-- Behind the whole blocks of all that came. -/
theorem Took.done {m : List UInt8} {rest : List Int} (hr : rest.length = 128) :
    Took m (blocksR m (m.length / 64)).list (laid rest 0 (nums (m.drop (64 * (m.length / 64))))) := by
  have hl : (nums (m.drop (64 * (m.length / 64)))).length = m.length % 64 := by rw [nums_length, List.length_drop]; omega
  have hf : 0 + (nums (m.drop (64 * (m.length / 64)))).length ≤ rest.length := by rw [hr, hl]; omega
  refine ⟨by rw [laid_length hf, hr], fun _ => rfl, ?_⟩
  have h := laid_take hf
  rw [Nat.zero_add, hl] at h
  rw [h]
  rfl
end Go.Proofs.YtfkpdbmgiefnfaaDoor.Rm

/-
  What an intake of RIPEMD-160 is in memory: 5 words, 128 bytes, a size. Conditions: none.
-/
namespace Go.Proofs.YtfkpdbmgiefnfaaDoor.Rm
open Go.RowKit

/-- The cells of an intake. -/
def inRow (ws rest : List Int) (n : Nat) : List Value := ws.map (Value.int .u32) ++ (rest.map (Value.int .u8) ++ [.int .u64 (n : Int)])
theorem inRow_length {ws rest : List Int} (n : Nat) (hw : ws.length = 5) (hr : rest.length = 128) : (inRow ws rest n).length = 134 := by simp [inRow, hw, hr]
theorem inRow_word {ws rest : List Int} (n : Nat) {j : Nat} {x : Int} (h : ws[j]? = some x) : (inRow ws rest n)[j]? = some (.int .u32 x) := by
  unfold inRow
  rw [List.getElem?_append_left (by rw [List.length_map]; exact (List.getElem?_eq_some_iff.1 h).1), List.getElem?_map, h]
  rfl
theorem inRow_rest {ws rest : List Int} (n : Nat) (hw : ws.length = 5) {j : Nat} {x : Int} (h : rest[j]? = some x) : (inRow ws rest n)[5 + j]? = some (.int .u8 x) := by
  unfold inRow
  have hj := (List.getElem?_eq_some_iff.1 h).1
  rw [List.getElem?_append_right (by rw [List.length_map]; omega), List.length_map, hw, show 5 + j - 5 = j by omega, List.getElem?_append_left (by rw [List.length_map]; exact hj), List.getElem?_map, h]
  rfl
theorem inRow_size {ws rest : List Int} (n : Nat) (hw : ws.length = 5) (hr : rest.length = 128) : (inRow ws rest n)[133]? = some (.int .u64 (n : Int)) := by
  unfold inRow
  rw [List.getElem?_append_right (by rw [List.length_map]; omega), List.length_map, hw, List.getElem?_append_right (by rw [List.length_map]; omega), List.length_map, hr]
  rfl
/-- Other words. -/
theorem inRow_words {ws us rest : List Int} (n : Nat) (hw : ws.length = 5) (hu : us.length = 5) :
    (inRow ws rest n).take 0 ++ us.map (Value.int .u32) ++ (inRow ws rest n).drop (0 + (us.map (Value.int .u32)).length) = inRow us rest n := by
  unfold inRow
  rw [List.length_map, hu, List.take_zero, List.nil_append, List.drop_left' (by rw [List.length_map]; omega)]
/-- Another size. -/
theorem inRow_sized {ws rest : List Int} (n m : Nat) (hw : ws.length = 5) (hr : rest.length = 128) : (inRow ws rest n).set 133 (.int .u64 (m : Int)) = inRow ws rest m := by
  unfold inRow
  rw [List.set_append_right _ _ (by rw [List.length_map]; omega), List.length_map, hw, List.set_append_right _ _ (by rw [List.length_map]; omega), List.length_map, hr]
  rfl
/-- Other bytes from place k on. -/
theorem inRow_laid {ws rest ns : List Int} (n : Nat) {k : Nat} (hw : ws.length = 5) (hf : k + ns.length ≤ rest.length) :
    (inRow ws rest n).take (5 + k) ++ ns.map (Value.int .u8) ++ (inRow ws rest n).drop (5 + k + (ns.map (Value.int .u8)).length) = inRow ws (laid rest k ns) n := by
  have e1 : (inRow ws rest n).take (5 + k) = ws.map (Value.int .u32) ++ (rest.map (Value.int .u8)).take k := by
    unfold inRow
    have hk : (ws.map (Value.int .u32)).length = 5 := by rw [List.length_map, hw]
    rw [← hk, List.take_append, List.take_of_length_le (by omega), Nat.add_sub_cancel_left, List.take_append_of_le_length (by rw [List.length_map]; omega)]
  have e2 : (inRow ws rest n).drop (5 + k + (ns.map (Value.int .u8)).length) = (rest.map (Value.int .u8)).drop (k + ns.length) ++ [.int .u64 (n : Int)] := by
    unfold inRow
    rw [List.length_map, Nat.add_assoc, ← List.drop_drop, List.drop_left' (by rw [List.length_map, hw]), List.drop_append_of_le_length (by rw [List.length_map]; omega)]
  rw [e1, e2]
  unfold inRow laid
  simp only [List.map_append, List.map_take, List.map_drop, List.append_assoc]
end Go.Proofs.YtfkpdbmgiefnfaaDoor.Rm

/-
  What an intake of RIPEMD-160 takes in, walked. Conditions: the sizes stay below 2^60; the piece lies elsewhere; the roots are laid.
-/
namespace Go.Proofs.YtfkpdbmgiefnfaaDoor.Rm
open Go.RowKit

/-- At the end. -/
def Fed (w0 : World) (g : Nat) (t : TypeId) (mb : List UInt8) (e : Ending) (wx : World) : Prop :=
  e = .returned (.tuple #[]) ∧ ∃ ws rest, Took mb ws rest ∧ ws.length = 5 ∧ VRow wx g t (inRow ws rest mb.length) ∧ Turns (· = g) w0 wx

theorem words_one (s : S5) : (s.list.map (Value.int .u32)).toArray.all (·.oneCell') = true := by simp [S5.list, Value.oneCell']
end Go.Proofs.YtfkpdbmgiefnfaaDoor.Rm
