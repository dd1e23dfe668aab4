/-
  What an intake is in memory: 8 words, 128 bytes, a size. Conditions: none.
-/
import Derived.Test.YtnmegdhidpkklaaDoorTook
import Derived.Deep.MidRow
namespace Go.Proofs.YtnmegdhidpkklaaDoor
open Go.RowKit

section
variable {w w' : World} {g : Nat} {t : TypeId} {vs : List Value}
theorem VRow.range (h : VRow w g t vs) {o : Nat} {cs : List Value} (hs : ∀ (j : Nat) (v : Value), cs[j]? = some v → vs[o + j]? = some v) : w.rangeAt g o cs := fun j v hv => h.cell (hs j v hv)
theorem VRow.there (h : VRow w g t vs) {o n : Nat} (hn : o + n ≤ vs.length) : w.there g o n := fun j hj => ⟨by rw [h.cell (List.getElem?_eq_getElem (show o + j < vs.length by omega))]; rfl, h.free _⟩
theorem VRow.setCells : ∀ (us : List Value) {w : World} {vs : List Value} {o : Nat}, VRow w g t vs → o + us.length ≤ vs.length → VRow (w.setCells g o us) g t (vs.take o ++ us ++ vs.drop (o + us.length))
  | [], w, vs, o, h, _ => by
    simp only [List.append_nil, List.length_nil, Nat.add_zero, List.take_append_drop]
    exact h
  | v :: us, w, vs, o, h, hl => by
    have hl' : o + (us.length + 1) ≤ vs.length := by simpa using hl
    have h1 := VRow.setCells us (o := o + 1) (h.set o v) (by rw [List.length_set]; omega)
    have e := list_seg_step vs o v us (by omega)
    rw [e] at h1
    exact h1
theorem below_setCells {B : Nat} (hg : B ≤ g) : ∀ (us : List Value) {a w : World} {o : Nat}, Below B a w → Below B a (w.setCells g o us)
  | [], _, _, _, h => h
  | v :: us, _, _, _, h => below_setCells hg us (h.setCell hg v)
end

/-- The cells of an intake. -/
def inRow (ws rest : List Int) (n : Nat) : List Value := ws.map (Value.int .u32) ++ (rest.map (Value.int .u8) ++ [.int .u64 (n : Int)])
theorem inRow_length {ws rest : List Int} (n : Nat) (hw : ws.length = 8) (hr : rest.length = 128) : (inRow ws rest n).length = 137 := by simp [inRow, hw, hr]
theorem inRow_word {ws rest : List Int} (n : Nat) {j : Nat} {x : Int} (h : ws[j]? = some x) : (inRow ws rest n)[j]? = some (.int .u32 x) := by
  unfold inRow
  rw [List.getElem?_append_left (by rw [List.length_map]; exact (List.getElem?_eq_some_iff.1 h).1), List.getElem?_map, h]
  rfl
theorem inRow_rest {ws rest : List Int} (n : Nat) (hw : ws.length = 8) {j : Nat} {x : Int} (h : rest[j]? = some x) : (inRow ws rest n)[8 + j]? = some (.int .u8 x) := by
  unfold inRow
  have hj := (List.getElem?_eq_some_iff.1 h).1
  rw [List.getElem?_append_right (by rw [List.length_map]; omega), List.length_map, hw, show 8 + j - 8 = j by omega, List.getElem?_append_left (by rw [List.length_map]; exact hj), List.getElem?_map, h]
  rfl
theorem inRow_size {ws rest : List Int} (n : Nat) (hw : ws.length = 8) (hr : rest.length = 128) : (inRow ws rest n)[136]? = some (.int .u64 (n : Int)) := by
  unfold inRow
  rw [List.getElem?_append_right (by rw [List.length_map]; omega), List.length_map, hw, List.getElem?_append_right (by rw [List.length_map]; omega), List.length_map, hr]
  rfl
/-- Other words. -/
theorem inRow_words {ws us rest : List Int} (n : Nat) (hw : ws.length = 8) (hu : us.length = 8) :
    (inRow ws rest n).take 0 ++ us.map (Value.int .u32) ++ (inRow ws rest n).drop (0 + (us.map (Value.int .u32)).length) = inRow us rest n := by
  unfold inRow
  rw [List.length_map, hu, List.take_zero, List.nil_append, List.drop_left' (by rw [List.length_map]; omega)]
/-- Another size. -/
theorem inRow_sized {ws rest : List Int} (n m : Nat) (hw : ws.length = 8) (hr : rest.length = 128) : (inRow ws rest n).set 136 (.int .u64 (m : Int)) = inRow ws rest m := by
  unfold inRow
  rw [List.set_append_right _ _ (by rw [List.length_map]; omega), List.length_map, hw, List.set_append_right _ _ (by rw [List.length_map]; omega), List.length_map, hr]
  rfl
/-- Other bytes from place k on. -/
theorem inRow_laid {ws rest ns : List Int} (n : Nat) {k : Nat} (hw : ws.length = 8) (hf : k + ns.length ≤ rest.length) :
    (inRow ws rest n).take (8 + k) ++ ns.map (Value.int .u8) ++ (inRow ws rest n).drop (8 + k + (ns.map (Value.int .u8)).length) = inRow ws (laid rest k ns) n := by
  have e1 : (inRow ws rest n).take (8 + k) = ws.map (Value.int .u32) ++ (rest.map (Value.int .u8)).take k := by
    unfold inRow
    have hk : (ws.map (Value.int .u32)).length = 8 := by rw [List.length_map, hw]
    rw [← hk, List.take_append, List.take_of_length_le (by omega), Nat.add_sub_cancel_left, List.take_append_of_le_length (by rw [List.length_map]; omega)]
  have e2 : (inRow ws rest n).drop (8 + k + (ns.map (Value.int .u8)).length) = (rest.map (Value.int .u8)).drop (k + ns.length) ++ [.int .u64 (n : Int)] := by
    unfold inRow
    rw [List.length_map, Nat.add_assoc, ← List.drop_drop, List.drop_left' (by rw [List.length_map, hw]), List.drop_append_of_le_length (by rw [List.length_map]; omega)]
  rw [e1, e2]
  unfold inRow laid
  simp only [List.map_append, List.map_take, List.map_drop, List.append_assoc]
end Go.Proofs.YtnmegdhidpkklaaDoor
