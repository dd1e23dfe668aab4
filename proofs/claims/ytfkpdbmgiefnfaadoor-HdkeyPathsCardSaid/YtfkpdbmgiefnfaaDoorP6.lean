/-
  Texts joined: InRow, Src, Add. Conditions: those of each.
-/
import Derived.Test.YtfkpdbmgiefnfaaDoorP5
import Derived.Deep.MidRow
import Derived.Laws.CopyRow
/-
  What an intake is in memory: 8 words, 128 bytes, a size. Conditions: none.
-/
namespace Go.Proofs.YtfkpdbmgiefnfaaDoor
open Go.RowKit

section
variable {w w' : World} {g : Nat} {t : TypeId} {vs : List Value}
theorem VRow.range (h : VRow w g t vs) {o : Nat} {cs : List Value} (hs : ∀ (j : Nat) (v : Value), cs[j]? = some v → vs[o + j]? = some v) : w.rangeAt g o cs := fun j v hv => h.cell (hs j v hv)
theorem VRow.there (h : VRow w g t vs) {o n : Nat} (hn : o + n ≤ vs.length) : w.there g o n := fun j hj => ⟨by rw [h.cell (List.getElem?_eq_getElem (show o + j < vs.length by omega))]; rfl, h.free _⟩
theorem VRow.setCells : ∀ (us : List Value) {w : World} {vs : List Value} {o : Nat}, VRow w g t vs → o + us.length ≤ vs.length → VRow (w.setCells g o us) g t (vs.take o ++ us ++ vs.drop (o + us.length))
  | [], w, vs, o, h, _ => by
    simp only [List.append_nil, List.length_nil, Nat.add_zero, List.take_append_drop]
    exact h
  | v :: us, w, vs, o, h, hl => by
    have hl' : o + (us.length + 1) ≤ vs.length := by simpa using hl
    have h1 := VRow.setCells us (o := o + 1) (h.set o v) (by rw [List.length_set]; omega)
    have e := list_seg_step vs o v us (by omega)
    rw [e] at h1
    exact h1
theorem below_setCells {B : Nat} (hg : B ≤ g) : ∀ (us : List Value) {a w : World} {o : Nat}, Below B a w → Below B a (w.setCells g o us)
  | [], _, _, _, h => h
  | v :: us, _, _, _, h => below_setCells hg us (h.setCell hg v)
end

/-- The cells of an intake. -/
def inRow (ws rest : List Int) (n : Nat) : List Value := ws.map (Value.int .u32) ++ (rest.map (Value.int .u8) ++ [.int .u64 (n : Int)])
theorem inRow_length {ws rest : List Int} (n : Nat) (hw : ws.length = 8) (hr : rest.length = 128) : (inRow ws rest n).length = 137 := by simp [inRow, hw, hr]
theorem inRow_word {ws rest : List Int} (n : Nat) {j : Nat} {x : Int} (h : ws[j]? = some x) : (inRow ws rest n)[j]? = some (.int .u32 x) := by
  unfold inRow
  rw [List.getElem?_append_left (by rw [List.length_map]; exact (List.getElem?_eq_some_iff.1 h).1), List.getElem?_map, h]
  rfl
theorem inRow_rest {ws rest : List Int} (n : Nat) (hw : ws.length = 8) {j : Nat} {x : Int} (h : rest[j]? = some x) : (inRow ws rest n)[8 + j]? = some (.int .u8 x) := by
  unfold inRow
  have hj := (List.getElem?_eq_some_iff.1 h).1
  rw [List.getElem?_append_right (by rw [List.length_map]; omega), List.length_map, hw, show 8 + j - 8 = j by omega, List.getElem?_append_left (by rw [List.length_map]; exact hj), List.getElem?_map, h]
  rfl
theorem inRow_size {ws rest : List Int} (n : Nat) (hw : ws.length = 8) (hr : rest.length = 128) : (inRow ws rest n)[136]? = some (.int .u64 (n : Int)) := by
  unfold inRow
  rw [List.getElem?_append_right (by rw [List.length_map]; omega), List.length_map, hw, List.getElem?_append_right (by rw [List.length_map]; omega), List.length_map, hr]
  rfl
/-- Other words. -/
theorem inRow_words {ws us rest : List Int} (n : Nat) (hw : ws.length = 8) (hu : us.length = 8) :
    (inRow ws rest n).take 0 ++ us.map (Value.int .u32) ++ (inRow ws rest n).drop (0 + (us.map (Value.int .u32)).length) = inRow us rest n := by
  unfold inRow
  rw [List.length_map, hu, List.take_zero, List.nil_append, List.drop_left' (by rw [List.length_map]; omega)]
/-- Another size. -/
theorem inRow_sized {ws rest : List Int} (n m : Nat) (hw : ws.length = 8) (hr : rest.length = 128) : (inRow ws rest n).set 136 (.int .u64 (m : Int)) = inRow ws rest m := by
  unfold inRow
  rw [List.set_append_right _ _ (by rw [List.length_map]; omega), List.length_map, hw, List.set_append_right _ _ (by rw [List.length_map]; omega), List.length_map, hr]
  rfl
/-- Other bytes from place k on. -/
theorem inRow_laid {ws rest ns : List Int} (n : Nat) {k : Nat} (hw : ws.length = 8) (hf : k + ns.length ≤ rest.length) :
    (inRow ws rest n).take (8 + k) ++ ns.map (Value.int .u8) ++ (inRow ws rest n).drop (8 + k + (ns.map (Value.int .u8)).length) = inRow ws (laid rest k ns) n := by
  have e1 : (inRow ws rest n).take (8 + k) = ws.map (Value.int .u32) ++ (rest.map (Value.int .u8)).take k := by
    unfold inRow
    have hk : (ws.map (Value.int .u32)).length = 8 := by rw [List.length_map, hw]
    rw [← hk, List.take_append, List.take_of_length_le (by omega), Nat.add_sub_cancel_left, List.take_append_of_le_length (by rw [List.length_map]; omega)]
  have e2 : (inRow ws rest n).drop (8 + k + (ns.map (Value.int .u8)).length) = (rest.map (Value.int .u8)).drop (k + ns.length) ++ [.int .u64 (n : Int)] := by
    unfold inRow
    rw [List.length_map, Nat.add_assoc, ← List.drop_drop, List.drop_left' (by rw [List.length_map, hw]), List.drop_append_of_le_length (by rw [List.length_map]; omega)]
  rw [e1, e2]
  unfold inRow laid
  simp only [List.map_append, List.map_take, List.map_drop, List.append_assoc]
end Go.Proofs.YtfkpdbmgiefnfaaDoor

/-
  Bytes that a call takes in, and a copy of them into the middle of a row. Conditions: none.
-/
namespace Go.Proofs.YtfkpdbmgiefnfaaDoor
open Go.RowKit

theorem Turns.setRow {S : Nat → Prop} {a w : World} (h : Turns S a w) {g : Nat} (hg : g < a.heap.size → S g) (cs : Array Value) : Turns S a (w.setRow g cs) :=
  ⟨h.os, h.tape, h.output, by simpa [World.setRow] using h.size, fun k hk hn => by
    have e : (w.setRow g cs).heap[k]? = w.heap[k]? := by
      simp only [World.setRow, Array.getElem?_modify]
      rw [if_neg (by rintro rfl; exact hn (hg hk))]
    rw [e]; exact h.block k hk hn⟩
theorem Turns.setCells {S : Nat → Prop} {a : World} {g : Nat} (hg : g < a.heap.size → S g) : ∀ (us : List Value) {w : World} {o : Nat}, Turns S a w → Turns S a (w.setCells g o us)
  | [], _, _, h => h
  | v :: us, _, _, h => Turns.setCells hg us (h.setCell hg v)

/-- The slice value v reads as these bytes, outside block g. -/
def Src (w : World) (g : Nat) (v : Value) (xs : List UInt8) : Prop :=
  ∃ A c, v = .slice A xs.length c ∧ xs.length ≤ c ∧ c ≤ maxLen ∧ (A = none → xs = [] ∧ c = 0) ∧
    (xs ≠ [] → ∃ b o, A = some ⟨b, o, none⟩ ∧ b < w.heap.size ∧ b ≠ g ∧ ∀ (j : Nat) (u : UInt8), xs[j]? = some u → w.cell? ⟨b, o + j, none⟩ = some (bv u))
section
variable {w w' : World} {g : Nat} {v : Value} {xs : List UInt8}
theorem Src.form (h : Src w g v xs) : ∃ A c, v = .slice A xs.length c ∧ xs.length ≤ c ∧ c ≤ 9223372036854775807 := by
  obtain ⟨A, c, hv, h1, h2, _⟩ := h
  unfold maxLen at h2
  exact ⟨A, c, hv, h1, h2⟩
theorem Src.turns {S : Nat → Prop} (h : Src w g v xs) (ht : Turns S w w') (hS : ∀ k, S k → k = g) : Src w' g v xs := by
  obtain ⟨A, c, hv, h1, h2, h3, h4⟩ := h
  refine ⟨A, c, hv, h1, h2, h3, fun hne => ?_⟩
  obtain ⟨b, o, e, hb, hg, hc⟩ := h4 hne
  exact ⟨b, o, e, Nat.lt_of_lt_of_le hb ht.size, hg, fun j u hu => (ht.cell (p := ⟨b, o + j, none⟩) hb (fun hs => hg (hS _ hs))).trans (hc j u hu)⟩
theorem Src.of_byt {B : Nat} (h : Byt w B v xs) (hB : B ≤ w.heap.size) (hg : B ≤ g) : Src w g v xs := by
  obtain ⟨A, c, hv, h1, h2, h3, h4⟩ := h
  refine ⟨A, c, hv, h1, h2, h3, fun hne => ?_⟩
  obtain ⟨b, o, e, hb, hc⟩ := h4 hne
  exact ⟨b, o, e, by omega, by omega, hc⟩
theorem Src.nil (w : World) (g : Nat) : Src w g (.slice none 0 0) [] := ⟨none, 0, rfl, Nat.le_refl _, by unfold maxLen; omega, fun _ => ⟨rfl, rfl⟩, fun h => absurd rfl h⟩
theorem Src.tail {A : Option Addr} {n c z : Nat} (h : Src w g (.slice A n c) xs) (hz : z ≤ xs.length) : Src w g (.slice (if c = z then A else A.map (fun x => x.add z)) (n - z) (c - z)) (xs.drop z) := by
  obtain ⟨A', c', e, h1, h2, h3, h4⟩ := h
  injection e with e1 e2 e3
  subst e1 e2 e3
  refine ⟨_, _, by rw [List.length_drop], by rw [List.length_drop]; omega, by omega, fun hn => ?_, fun hne => ?_⟩
  · split at hn
    · obtain ⟨rfl, hc0⟩ := h3 hn
      exact ⟨by simp, by omega⟩
    · cases A with
      | none => obtain ⟨rfl, hc0⟩ := h3 rfl; exact ⟨by simp, by omega⟩
      | some a => cases hn
  · obtain ⟨b, o, rfl, hb, hg, hcell⟩ := h4 (by rintro rfl; simp at hne)
    have hzl : z < xs.length := by
      rcases Nat.lt_or_ge z xs.length with h | h
      · exact h
      · exact absurd (List.drop_eq_nil_of_le h) hne
    have hadd : (⟨b, o, none⟩ : Addr).add z = ⟨b, o + z, none⟩ := by
      unfold Addr.add
      split <;> simp_all
    refine ⟨b, o + z, ?_, hb, hg, fun j u hu => ?_⟩
    · rw [if_neg (by omega)]
      simp [hadd]
    · rw [Nat.add_assoc]
      exact hcell _ u (by rw [← hu, List.getElem?_drop])
theorem VRow.turns {S : Nat → Prop} {t : TypeId} {vs : List Value} (h : VRow w g t vs) (ht : Turns S w w') (hS : ¬ S g) : VRow w' g t vs := (ht.block g h.lt hS).trans h
end

theorem run_tail (A : Option Addr) (n c z : Nat) (hz : z ≤ n) (W : World) :
    (Instr.slice 22 (.slice A n c) (some (.int .i64 (z : Int))) none none).run Tryd.prog W = .ok (.slice (if c = z then A else A.map (fun x => x.add z)) (n - z) (c - z)) W := by
  obtain ⟨i0, hi, hz0, hz1, hz2⟩ := info_parts info_u8
  have he : Tryd.prog.elem 22 = 5 := by kernel_rfl
  have ht : Tryd.prog.underlying 22 = some (.slice (Tryd.prog.elem 22)) := by rw [he]; exact slice_u8
  rw [run_slice_l (ht := ht) (h0 := by omega) (h1 := by omega), he]
  simp [sizeOf, typeInfo, hi, hz1, sliced, go_sem]

/-- A row with some of these bytes from place o on. -/
def over (vs : List Value) (o : Nat) (ys : List UInt8) : List Value := vs.take o ++ ys.map bv ++ vs.drop (o + (ys.map bv).length)
theorem run_copy_src {w : World} (g o dLen dCap : Nat) (t ty : TypeId) (vs : List Value) (hrow : VRow w g t vs) {x : Value} {ys : List UInt8} (hs : Src w g x ys) (n : Nat) (hn : n = min ys.length dLen) (hfit : o + n ≤ vs.length) :
    (Builtin.copy_ #[22, 22] ty #[.slice (some ⟨g, o, none⟩) dLen dCap, x]).run Tryd.prog w = .ok (goInt n) (w.setRow g (over vs o (ys.take n)).toArray) := by
  obtain ⟨i0, hi, hz0, hz1, hz2⟩ := info_parts info_u8
  obtain ⟨A, c, rfl, h1, h2, h3, h4⟩ := hs
  unfold VRow at hrow
  rcases A with _ | ad
  · obtain ⟨rfl, rfl⟩ := h3 rfl
    obtain rfl : n = 0 := by simpa using hn
    rw [List.length_nil, run_copy_nil (P := Tryd.prog) w _ _ ty 5 _ dLen dCap slice_u8 (by rw [hi]; rfl)]
    have e : (over vs o ([].take 0)).toArray = vs.toArray := by unfold over; simp
    rw [e, setRow_self w g _ t _ hrow]
    rfl
  · have hl : (ys.take n).length = n := by rw [List.length_take]; omega
    have h := run_copy_row (P := Tryd.prog) w 22 22 ty 5 g o dLen dCap ad ys.length c vs.toArray t ((ys.take n).map bv) slice_u8 (by rw [hi]; simp [hz1]) hrow (by rw [List.length_map, hl, hn]) (fun j v hv => by
        rw [List.getElem?_map, List.getElem?_take] at hv
        split at hv
        · rename_i hj
          cases hy : ys[j]? with
          | none => rw [hy] at hv; exact absurd hv (by simp)
          | some u =>
            rw [hy] at hv
            obtain rfl : bv u = v := Option.some.inj hv
            obtain ⟨b, o', hA, _, _, hc⟩ := h4 (fun e => by rw [e] at hy; exact absurd hy (by simp))
            obtain rfl : ad = ⟨b, o', none⟩ := Option.some.inj hA
            have hadd : (⟨b, o', none⟩ : Addr).add j = ⟨b, o' + j, none⟩ := by unfold Addr.add; split <;> simp_all
            rw [hadd]
            exact hc j u hy
        · exact absurd hv (by simp)) (by rw [List.length_map, hl]; simpa using hfit) (by intro v hv; obtain ⟨q, _, rfl⟩ := List.mem_map.1 hv; rfl)
    rw [h]
    simp only [List.length_map, hl, over]
theorem op_copy_src {w : World} {op : Oper} {a : Act} {K : Act → World → Prop} {Q : Exit → Act → World → Prop} (s x : Operand)
    (ho : op.op = .call { callee := .builtin .copy, args := #[s, x], argTypes := #[22, 22] })
    (g o dLen dCap : Nat) (t : TypeId) (vs : List Value) (hrow : VRow w g t vs) {u : Value} {ys : List UInt8} (hd : a.eval s = .slice (some ⟨g, o, none⟩) dLen dCap) (hx : a.eval x = u) (hs : Src w g u ys) (n : Nat) (hn : n = min ys.length dLen) (hfit : o + n ≤ vs.length)
    (h : K (a.put op.dst (.int .i64 n)) (w.setRow g (over vs o (ys.take n)).toArray)) : op.wp Tryd.prog a w K Q := by
  have hrun := run_copy_src g o dLen dCap t op.type vs hrow hs n hn hfit
  unfold Oper.wp execOp
  simp only [ho, resolve, invoke, builtin, Sem.run_bind, Sem.run_pure, Result.andThen_ok, List.map_toArray, List.map_cons, List.map_nil, hd, hx, hrun]
  exact h
theorem wpList_copy_src {w : World} {ops : Array Oper} {rest : List Oper} {op : Oper} {a : Act} {Q : Exit → Act → World → Prop} (hgd : op.guard = none) (s x : Operand)
    (ho : op.op = .call { callee := .builtin .copy, args := #[s, x], argTypes := #[22, 22] })
    (g o dLen dCap : Nat) (t : TypeId) (vs : List Value) (hrow : VRow w g t vs) {u : Value} {ys : List UInt8} (hd : a.eval s = .slice (some ⟨g, o, none⟩) dLen dCap) (hx : a.eval x = u) (hs : Src w g u ys) (n : Nat) (hn : n = min ys.length dLen) (hfit : o + n ≤ vs.length)
    (h : wpList Tryd.prog ops Q rest (a.put op.dst (.int .i64 n)) (w.setRow g (over vs o (ys.take n)).toArray)) : wpList Tryd.prog ops Q (op :: rest) a w :=
  wpList_plain hgd fun _ hK => op_copy_src s x ho g o dLen dCap t vs hrow hd hx hs n hn hfit (hK _ _ h)
end Go.Proofs.YtfkpdbmgiefnfaaDoor

/-
  What an intake of SHA-256 takes in, walked. Conditions: the sizes stay below 2^60; the piece lies elsewhere; the roots are laid.
-/
namespace Go.Proofs.YtfkpdbmgiefnfaaDoor
open Go.RowKit

theorem CubeIs.turns {S : Nat → Prop} {w w' : World} (h : CubeIs w) (ht : Turns S w w') (hS : ¬ S 2) : CubeIs w' :=
  ⟨Nat.lt_of_lt_of_le h.1 ht.size, fun t k hk => (ht.cell (p := ⟨2, t, none⟩) h.1 hS).trans (h.2 t k hk)⟩

/-- At the end. -/
def Fed (w0 : World) (g : Nat) (t : TypeId) (mb : List UInt8) (e : Ending) (wx : World) : Prop :=
  e = .returned (.tuple #[]) ∧ ∃ ws rest, Took mb ws rest ∧ ws.length = 8 ∧ VRow wx g t (inRow ws rest mb.length) ∧ Turns (· = g) w0 wx

theorem VRow.setCells_other {g k : Nat} {t : TypeId} {vs : List Value} (hk : k ≠ g) : ∀ (us : List Value) {w : World} {o : Nat}, VRow w k t vs → VRow (w.setCells g o us) k t vs
  | [], _, _, h => h
  | v :: us, w, o, h => VRow.setCells_other hk us (h.turns ((Turns.refl (· = g) w).setCell (p := ⟨g, o, none⟩) (fun _ => rfl) v) hk)
/-- A slice's length. -/
def slen : Value → Nat
  | .slice _ n _ => n
  | _ => 0
theorem words_one (s : S8) : (s.list.map (Value.int .u32)).toArray.all (·.oneCell') = true := by simp [S8.list, Value.oneCell']
theorem S8.list_length (s : S8) : s.list.length = 8 := rfl
end Go.Proofs.YtfkpdbmgiefnfaaDoor
