/-
  Texts joined: S5Took, Took, InRow. Conditions: those of each.
-/
import Derived.Test.YtpcopimbnbmkmaaDoorL4
import Derived.Test.YtpcopimbnbmkmaaDoorL6
import Derived.Deep.MidRow
/-
  What an intake holds, on plain numbers. Conditions: none (plain mathematics).
-/
namespace Go.Proofs.YtpcopimbnbmkmaaDoor.S5

theorem join_drop {m b : List UInt8} {q : Nat} (hq : 128 * q ≤ m.length) : (m ++ b).drop (128 * q) = m.drop (128 * q) ++ b := List.drop_append_of_le_length hq
/-- The block that a piece fills up. -/
theorem join_block {m b : List UInt8} {n : Nat} (hn : n + m.length % 128 = 128) :
    ((m ++ b).drop (128 * (m.length / 128))).take 128 = m.drop (128 * (m.length / 128)) ++ b.take n := by
  rw [join_drop (by omega), List.take_append]
  have hl : (m.drop (128 * (m.length / 128))).length = m.length % 128 := by rw [List.length_drop]; omega
  rw [List.take_of_length_le (by omega), hl]
  congr 2
  omega
theorem join_rest {m b : List UInt8} {n : Nat} (hn : n + m.length % 128 = 128) : (m ++ b).drop (128 * (m.length / 128 + 1)) = b.drop n := by
  have e : 128 * (m.length / 128 + 1) = m.length + n := by omega
  rw [e, ← List.drop_drop, List.drop_left]
theorem blocks512_next {m b : List UInt8} {n : Nat} (hn : n + m.length % 128 = 128) :
    blocks512 (m ++ b) (m.length / 128 + 1) = comp512 (blocks512 m (m.length / 128)) (m.drop (128 * (m.length / 128)) ++ b.take n) := by
  rw [blocks512, blocks512_more b _ (by omega), join_block hn]
theorem blocks512_same (m b : List UInt8) : blocks512 (m ++ b) (m.length / 128) = blocks512 m (m.length / 128) := blocks512_more b _ (by omega)
/-- A message that is closed has whole blocks. -/
theorem full_blocks (m : List UInt8) : (full m).length % 128 = 0 := by
  unfold full
  rw [List.length_append]
  exact padB_fits m.length
/-- What an intake holds behind the bytes m: the words behind the whole blocks, and the rest before any other bytes. -/
structure Took (m : List UInt8) (ws : List Int) (rest : List Int) : Prop where
  size : rest.length = 128
  words : m ≠ [] → ws = (blocks512 m (m.length / 128)).list
  low : rest.take (m.length % 128) = nums (m.drop (128 * (m.length / 128)))
theorem Took.zero : Took [] (List.replicate 8 0) (List.replicate 128 0) := ⟨by rw [List.length_replicate], fun h => absurd rfl h, rfl⟩
/-- Row r with the numbers ns from place k on. -/
def laid (r : List Int) (k : Nat) (ns : List Int) : List Int := r.take k ++ ns ++ r.drop (k + ns.length)
theorem laid_length {r ns : List Int} {k : Nat} (h : k + ns.length ≤ r.length) : (laid r k ns).length = r.length := by
  unfold laid
  simp only [List.length_append, List.length_take, List.length_drop]
  omega
theorem laid_take {r ns : List Int} {k : Nat} (h : k + ns.length ≤ r.length) : (laid r k ns).take (k + ns.length) = r.take k ++ ns := by
  unfold laid
  exact List.take_left' (by rw [List.length_append, List.length_take]; omega)
/-- A piece that fills no block. -/
theorem Took.some {m b : List UInt8} {ws rest : List Int} (h : Took m ws rest) (hm : m ≠ []) (hb : m.length % 128 + b.length < 128) :
    Took (m ++ b) ws (laid rest (m.length % 128) (nums b)) := by
  have hl : (m ++ b).length = m.length + b.length := List.length_append
  have e1 : (m ++ b).length / 128 = m.length / 128 := by omega
  have e2 : (m ++ b).length % 128 = m.length % 128 + (nums b).length := by rw [nums_length]; omega
  have hf : m.length % 128 + (nums b).length ≤ rest.length := by rw [nums_length, h.size]; omega
  refine ⟨by rw [laid_length hf, h.size], fun _ => ?_, ?_⟩
  · rw [e1, blocks512_same]
    exact h.words hm
  · rw [e2, laid_take hf, e1, join_drop (by omega), nums_append, h.low]
/-- Behind the whole blocks of all that came. -/
theorem Took.done {m : List UInt8} {rest : List Int} (hr : rest.length = 128) :
    Took m (blocks512 m (m.length / 128)).list (laid rest 0 (nums (m.drop (128 * (m.length / 128))))) := by
  have hl : (nums (m.drop (128 * (m.length / 128)))).length = m.length % 128 := by rw [nums_length, List.length_drop]; omega
  have hf : 0 + (nums (m.drop (128 * (m.length / 128)))).length ≤ rest.length := by rw [hr, hl]; omega
  refine ⟨by rw [laid_length hf, hr], fun _ => rfl, ?_⟩
  have h := laid_take hf
  rw [Nat.zero_add, hl] at h
  rw [h]
  rfl
end Go.Proofs.YtpcopimbnbmkmaaDoor.S5

/-
  What an intake holds, on plain numbers. Conditions: none (plain mathematics).
-/
namespace Go.Proofs.YtpcopimbnbmkmaaDoor

theorem join_drop {m b : List UInt8} {q : Nat} (hq : 64 * q ≤ m.length) : (m ++ b).drop (64 * q) = m.drop (64 * q) ++ b := List.drop_append_of_le_length hq
/-- The block that a piece fills up. -/
theorem join_block {m b : List UInt8} {n : Nat} (hn : n + m.length % 64 = 64) :
    ((m ++ b).drop (64 * (m.length / 64))).take 64 = m.drop (64 * (m.length / 64)) ++ b.take n := by
  rw [join_drop (by omega), List.take_append]
  have hl : (m.drop (64 * (m.length / 64))).length = m.length % 64 := by rw [List.length_drop]; omega
  rw [List.take_of_length_le (by omega), hl]
  congr 2
  omega
theorem join_rest {m b : List UInt8} {n : Nat} (hn : n + m.length % 64 = 64) : (m ++ b).drop (64 * (m.length / 64 + 1)) = b.drop n := by
  have e : 64 * (m.length / 64 + 1) = m.length + n := by omega
  rw [e, ← List.drop_drop, List.drop_left]
theorem blocks256_next {m b : List UInt8} {n : Nat} (hn : n + m.length % 64 = 64) :
    blocks256 (m ++ b) (m.length / 64 + 1) = comp256 (blocks256 m (m.length / 64)) (m.drop (64 * (m.length / 64)) ++ b.take n) := by
  rw [blocks256, blocks256_more b _ (by omega), join_block hn]
theorem blocks256_same (m b : List UInt8) : blocks256 (m ++ b) (m.length / 64) = blocks256 m (m.length / 64) := blocks256_more b _ (by omega)
/-- A message that is closed has whole blocks. -/
theorem full_blocks (m : List UInt8) : (full m).length % 64 = 0 := by
  unfold full
  rw [List.length_append]
  exact padB_fits m.length
/-- What an intake holds behind the bytes m: the words behind the whole blocks, and the rest before any other bytes. -/
structure Took (m : List UInt8) (ws : List Int) (rest : List Int) : Prop where
  size : rest.length = 128
  words : m ≠ [] → ws = (blocks256 m (m.length / 64)).list
  low : rest.take (m.length % 64) = nums (m.drop (64 * (m.length / 64)))
theorem Took.zero : Took [] (List.replicate 8 0) (List.replicate 128 0) := ⟨by rw [List.length_replicate], fun h => absurd rfl h, rfl⟩
/-- Row r with the numbers ns from place k on. -/
def laid (r : List Int) (k : Nat) (ns : List Int) : List Int := r.take k ++ ns ++ r.drop (k + ns.length)
theorem laid_length {r ns : List Int} {k : Nat} (h : k + ns.length ≤ r.length) : (laid r k ns).length = r.length := by
  unfold laid
  simp only [List.length_append, List.length_take, List.length_drop]
  omega
theorem laid_take {r ns : List Int} {k : Nat} (h : k + ns.length ≤ r.length) : (laid r k ns).take (k + ns.length) = r.take k ++ ns := by
  unfold laid
  exact List.take_left' (by rw [List.length_append, List.length_take]; omega)
/-- A piece that fills no block. -/
theorem Took.some {m b : List UInt8} {ws rest : List Int} (h : Took m ws rest) (hm : m ≠ []) (hb : m.length % 64 + b.length < 64) :
    Took (m ++ b) ws (laid rest (m.length % 64) (nums b)) := by
  have hl : (m ++ b).length = m.length + b.length := List.length_append
  have e1 : (m ++ b).length / 64 = m.length / 64 := by omega
  have e2 : (m ++ b).length % 64 = m.length % 64 + (nums b).length := by rw [nums_length]; omega
  have hf : m.length % 64 + (nums b).length ≤ rest.length := by rw [nums_length, h.size]; omega
  refine ⟨by rw [laid_length hf, h.size], fun _ => ?_, ?_⟩
  · rw [e1, blocks256_same]
    exact h.words hm
  · rw [e2, laid_take hf, e1, join_drop (by omega), nums_append, h.low]
/-- Behind the whole blocks of all that came. -/
theorem Took.done {m : List UInt8} {rest : List Int} (hr : rest.length = 128) :
    Took m (blocks256 m (m.length / 64)).list (laid rest 0 (nums (m.drop (64 * (m.length / 64))))) := by
  have hl : (nums (m.drop (64 * (m.length / 64)))).length = m.length % 64 := by rw [nums_length, List.length_drop]; omega
  have hf : 0 + (nums (m.drop (64 * (m.length / 64)))).length ≤ rest.length := by rw [hr, hl]; omega
  refine ⟨by rw [laid_length hf, hr], fun _ => rfl, ?_⟩
  have h := laid_take hf
  rw [Nat.zero_add, hl] at h
  rw [h]
  rfl
end Go.Proofs.YtpcopimbnbmkmaaDoor

/-
  What an intake is in memory: 8 words, 128 bytes, a size. Conditions: none.
-/
namespace Go.Proofs.YtpcopimbnbmkmaaDoor
open Go.RowKit

section
variable {w w' : World} {g : Nat} {t : TypeId} {vs : List Value}
theorem VRow.range (h : VRow w g t vs) {o : Nat} {cs : List Value} (hs : ∀ (j : Nat) (v : Value), cs[j]? = some v → vs[o + j]? = some v) : w.rangeAt g o cs := fun j v hv => h.cell (hs j v hv)
theorem VRow.there (h : VRow w g t vs) {o n : Nat} (hn : o + n ≤ vs.length) : w.there g o n := fun j hj => ⟨by rw [h.cell (List.getElem?_eq_getElem (show o + j < vs.length by omega))]; rfl, h.free _⟩
theorem VRow.setCells : ∀ (us : List Value) {w : World} {vs : List Value} {o : Nat}, VRow w g t vs → o + us.length ≤ vs.length → VRow (w.setCells g o us) g t (vs.take o ++ us ++ vs.drop (o + us.length))
  | [], w, vs, o, h, _ => by
    simp only [List.append_nil, List.length_nil, Nat.add_zero, List.take_append_drop]
    exact h
  | v :: us, w, vs, o, h, hl => by
    have hl' : o + (us.length + 1) ≤ vs.length := by simpa using hl
    have h1 := VRow.setCells us (o := o + 1) (h.set o v) (by rw [List.length_set]; omega)
    have e := list_seg_step vs o v us (by omega)
    rw [e] at h1
    exact h1
theorem below_setCells {B : Nat} (hg : B ≤ g) : ∀ (us : List Value) {a w : World} {o : Nat}, Below B a w → Below B a (w.setCells g o us)
  | [], _, _, _, h => h
  | v :: us, _, _, _, h => below_setCells hg us (h.setCell hg v)
end

/-- The cells of an intake. -/
def inRow (ws rest : List Int) (n : Nat) : List Value := ws.map (Value.int .u32) ++ (rest.map (Value.int .u8) ++ [.int .u64 (n : Int)])
theorem inRow_length {ws rest : List Int} (n : Nat) (hw : ws.length = 8) (hr : rest.length = 128) : (inRow ws rest n).length = 137 := by simp [inRow, hw, hr]
theorem inRow_word {ws rest : List Int} (n : Nat) {j : Nat} {x : Int} (h : ws[j]? = some x) : (inRow ws rest n)[j]? = some (.int .u32 x) := by
  unfold inRow
  rw [List.getElem?_append_left (by rw [List.length_map]; exact (List.getElem?_eq_some_iff.1 h).1), List.getElem?_map, h]
  rfl
theorem inRow_rest {ws rest : List Int} (n : Nat) (hw : ws.length = 8) {j : Nat} {x : Int} (h : rest[j]? = some x) : (inRow ws rest n)[8 + j]? = some (.int .u8 x) := by
  unfold inRow
  have hj := (List.getElem?_eq_some_iff.1 h).1
  rw [List.getElem?_append_right (by rw [List.length_map]; omega), List.length_map, hw, show 8 + j - 8 = j by omega, List.getElem?_append_left (by rw [List.length_map]; exact hj), List.getElem?_map, h]
  rfl
theorem inRow_size {ws rest : List Int} (n : Nat) (hw : ws.length = 8) (hr : rest.length = 128) : (inRow ws rest n)[136]? = some (.int .u64 (n : Int)) := by
  unfold inRow
  rw [List.getElem?_append_right (by rw [List.length_map]; omega), List.length_map, hw, List.getElem?_append_right (by rw [List.length_map]; omega), List.length_map, hr]
  rfl
/-- Other words. -/
theorem inRow_words {ws us rest : List Int} (n : Nat) (hw : ws.length = 8) (hu : us.length = 8) :
    (inRow ws rest n).take 0 ++ us.map (Value.int .u32) ++ (inRow ws rest n).drop (0 + (us.map (Value.int .u32)).length) = inRow us rest n := by
  unfold inRow
  rw [List.length_map, hu, List.take_zero, List.nil_append, List.drop_left' (by rw [List.length_map]; omega)]
/-- Another size. -/
theorem inRow_sized {ws rest : List Int} (n m : Nat) (hw : ws.length = 8) (hr : rest.length = 128) : (inRow ws rest n).set 136 (.int .u64 (m : Int)) = inRow ws rest m := by
  unfold inRow
  rw [List.set_append_right _ _ (by rw [List.length_map]; omega), List.length_map, hw, List.set_append_right _ _ (by rw [List.length_map]; omega), List.length_map, hr]
  rfl
/-- Other bytes from place k on. -/
theorem inRow_laid {ws rest ns : List Int} (n : Nat) {k : Nat} (hw : ws.length = 8) (hf : k + ns.length ≤ rest.length) :
    (inRow ws rest n).take (8 + k) ++ ns.map (Value.int .u8) ++ (inRow ws rest n).drop (8 + k + (ns.map (Value.int .u8)).length) = inRow ws (laid rest k ns) n := by
  have e1 : (inRow ws rest n).take (8 + k) = ws.map (Value.int .u32) ++ (rest.map (Value.int .u8)).take k := by
    unfold inRow
    have hk : (ws.map (Value.int .u32)).length = 8 := by rw [List.length_map, hw]
    rw [← hk, List.take_append, List.take_of_length_le (by omega), Nat.add_sub_cancel_left, List.take_append_of_le_length (by rw [List.length_map]; omega)]
  have e2 : (inRow ws rest n).drop (8 + k + (ns.map (Value.int .u8)).length) = (rest.map (Value.int .u8)).drop (k + ns.length) ++ [.int .u64 (n : Int)] := by
    unfold inRow
    rw [List.length_map, Nat.add_assoc, ← List.drop_drop, List.drop_left' (by rw [List.length_map, hw]), List.drop_append_of_le_length (by rw [List.length_map]; omega)]
  rw [e1, e2]
  unfold inRow laid
  simp only [List.map_append, List.map_take, List.map_drop, List.append_assoc]
end Go.Proofs.YtpcopimbnbmkmaaDoor
