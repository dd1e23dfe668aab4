/-
  Bytes that a call takes in, and a copy of them into the middle of a row. Conditions: none.
-/
import Derived.Test.YtnmegdhidpkklaaDoorInRow
import Derived.Laws.CopyRow
namespace Go.Proofs.YtnmegdhidpkklaaDoor
open Go.RowKit

theorem Turns.setRow {S : Nat → Prop} {a w : World} (h : Turns S a w) {g : Nat} (hg : g < a.heap.size → S g) (cs : Array Value) : Turns S a (w.setRow g cs) :=
  ⟨h.os, h.tape, h.output, by simpa [World.setRow] using h.size, fun k hk hn => by
    have e : (w.setRow g cs).heap[k]? = w.heap[k]? := by
      simp only [World.setRow, Array.getElem?_modify]
      rw [if_neg (by rintro rfl; exact hn (hg hk))]
    rw [e]; exact h.block k hk hn⟩
theorem Turns.setCells {S : Nat → Prop} {a : World} {g : Nat} (hg : g < a.heap.size → S g) : ∀ (us : List Value) {w : World} {o : Nat}, Turns S a w → Turns S a (w.setCells g o us)
  | [], _, _, h => h
  | v :: us, _, _, h => Turns.setCells hg us (h.setCell hg v)

/-- The slice value v reads as these bytes, outside block g. -/
def Src (w : World) (g : Nat) (v : Value) (xs : List UInt8) : Prop :=
  ∃ A c, v = .slice A xs.length c ∧ xs.length ≤ c ∧ c ≤ maxLen ∧ (A = none → xs = [] ∧ c = 0) ∧
    (xs ≠ [] → ∃ b o, A = some ⟨b, o, none⟩ ∧ b < w.heap.size ∧ b ≠ g ∧ ∀ (j : Nat) (u : UInt8), xs[j]? = some u → w.cell? ⟨b, o + j, none⟩ = some (bv u))
section
variable {w w' : World} {g : Nat} {v : Value} {xs : List UInt8}
theorem Src.form (h : Src w g v xs) : ∃ A c, v = .slice A xs.length c ∧ xs.length ≤ c ∧ c ≤ 9223372036854775807 := by
  obtain ⟨A, c, hv, h1, h2, _⟩ := h
  unfold maxLen at h2
  exact ⟨A, c, hv, h1, h2⟩
theorem Src.turns {S : Nat → Prop} (h : Src w g v xs) (ht : Turns S w w') (hS : ∀ k, S k → k = g) : Src w' g v xs := by
  obtain ⟨A, c, hv, h1, h2, h3, h4⟩ := h
  refine ⟨A, c, hv, h1, h2, h3, fun hne => ?_⟩
  obtain ⟨b, o, e, hb, hg, hc⟩ := h4 hne
  exact ⟨b, o, e, Nat.lt_of_lt_of_le hb ht.size, hg, fun j u hu => (ht.cell (p := ⟨b, o + j, none⟩) hb (fun hs => hg (hS _ hs))).trans (hc j u hu)⟩
theorem Src.of_byt {B : Nat} (h : Byt w B v xs) (hB : B ≤ w.heap.size) (hg : B ≤ g) : Src w g v xs := by
  obtain ⟨A, c, hv, h1, h2, h3, h4⟩ := h
  refine ⟨A, c, hv, h1, h2, h3, fun hne => ?_⟩
  obtain ⟨b, o, e, hb, hc⟩ := h4 hne
  exact ⟨b, o, e, by omega, by omega, hc⟩
theorem Src.nil (w : World) (g : Nat) : Src w g (.slice none 0 0) [] := ⟨none, 0, rfl, Nat.le_refl _, by unfold maxLen; omega, fun _ => ⟨rfl, rfl⟩, fun h => absurd rfl h⟩
theorem Src.tail {A : Option Addr} {n c z : Nat} (h : Src w g (.slice A n c) xs) (hz : z ≤ xs.length) : Src w g (.slice (if c = z then A else A.map (fun x => x.add z)) (n - z) (c - z)) (xs.drop z) := by
  obtain ⟨A', c', e, h1, h2, h3, h4⟩ := h
  injection e with e1 e2 e3
  subst e1 e2 e3
  refine ⟨_, _, by rw [List.length_drop], by rw [List.length_drop]; omega, by omega, fun hn => ?_, fun hne => ?_⟩
  · split at hn
    · obtain ⟨rfl, hc0⟩ := h3 hn
      exact ⟨by simp, by omega⟩
    · cases A with
      | none => obtain ⟨rfl, hc0⟩ := h3 rfl; exact ⟨by simp, by omega⟩
      | some a => cases hn
  · obtain ⟨b, o, rfl, hb, hg, hcell⟩ := h4 (by rintro rfl; simp at hne)
    have hzl : z < xs.length := by
      rcases Nat.lt_or_ge z xs.length with h | h
      · exact h
      · exact absurd (List.drop_eq_nil_of_le h) hne
    have hadd : (⟨b, o, none⟩ : Addr).add z = ⟨b, o + z, none⟩ := by
      unfold Addr.add
      split <;> simp_all
    refine ⟨b, o + z, ?_, hb, hg, fun j u hu => ?_⟩
    · rw [if_neg (by omega)]
      simp [hadd]
    · rw [Nat.add_assoc]
      exact hcell _ u (by rw [← hu, List.getElem?_drop])
theorem VRow.turns {S : Nat → Prop} {t : TypeId} {vs : List Value} (h : VRow w g t vs) (ht : Turns S w w') (hS : ¬ S g) : VRow w' g t vs := (ht.block g h.lt hS).trans h
end

theorem run_tail (A : Option Addr) (n c z : Nat) (hz : z ≤ n) (W : World) :
    (Instr.slice 22 (.slice A n c) (some (.int .i64 (z : Int))) none none).run Tryd.prog W = .ok (.slice (if c = z then A else A.map (fun x => x.add z)) (n - z) (c - z)) W := by
  obtain ⟨i0, hi, hz0, hz1, hz2⟩ := info_parts info_u8
  have he : Tryd.prog.elem 22 = 5 := by kernel_rfl
  have ht : Tryd.prog.underlying 22 = some (.slice (Tryd.prog.elem 22)) := by rw [he]; exact slice_u8
  rw [run_slice_l (ht := ht) (h0 := by omega) (h1 := by omega), he]
  simp [sizeOf, typeInfo, hi, hz1, sliced, go_sem]

/-- A row with some of these bytes from place o on. -/
def over (vs : List Value) (o : Nat) (ys : List UInt8) : List Value := vs.take o ++ ys.map bv ++ vs.drop (o + (ys.map bv).length)
theorem run_copy_src {w : World} (g o dLen dCap : Nat) (t ty : TypeId) (vs : List Value) (hrow : VRow w g t vs) {x : Value} {ys : List UInt8} (hs : Src w g x ys) (n : Nat) (hn : n = min ys.length dLen) (hfit : o + n ≤ vs.length) :
    (Builtin.copy_ #[22, 22] ty #[.slice (some ⟨g, o, none⟩) dLen dCap, x]).run Tryd.prog w = .ok (goInt n) (w.setRow g (over vs o (ys.take n)).toArray) := by
  obtain ⟨i0, hi, hz0, hz1, hz2⟩ := info_parts info_u8
  obtain ⟨A, c, rfl, h1, h2, h3, h4⟩ := hs
  unfold VRow at hrow
  rcases A with _ | ad
  · obtain ⟨rfl, rfl⟩ := h3 rfl
    obtain rfl : n = 0 := by simpa using hn
    rw [List.length_nil, run_copy_nil (P := Tryd.prog) w _ _ ty 5 _ dLen dCap slice_u8 (by rw [hi]; rfl)]
    have e : (over vs o ([].take 0)).toArray = vs.toArray := by unfold over; simp
    rw [e, setRow_self w g _ t _ hrow]
    rfl
  · have hl : (ys.take n).length = n := by rw [List.length_take]; omega
    have h := run_copy_row (P := Tryd.prog) w 22 22 ty 5 g o dLen dCap ad ys.length c vs.toArray t ((ys.take n).map bv) slice_u8 (by rw [hi]; simp [hz1]) hrow (by rw [List.length_map, hl, hn]) (fun j v hv => by
        rw [List.getElem?_map, List.getElem?_take] at hv
        split at hv
        · rename_i hj
          cases hy : ys[j]? with
          | none => rw [hy] at hv; exact absurd hv (by simp)
          | some u =>
            rw [hy] at hv
            obtain rfl : bv u = v := Option.some.inj hv
            obtain ⟨b, o', hA, _, _, hc⟩ := h4 (fun e => by rw [e] at hy; exact absurd hy (by simp))
            obtain rfl : ad = ⟨b, o', none⟩ := Option.some.inj hA
            have hadd : (⟨b, o', none⟩ : Addr).add j = ⟨b, o' + j, none⟩ := by unfold Addr.add; split <;> simp_all
            rw [hadd]
            exact hc j u hy
        · exact absurd hv (by simp)) (by rw [List.length_map, hl]; simpa using hfit) (by intro v hv; obtain ⟨q, _, rfl⟩ := List.mem_map.1 hv; rfl)
    rw [h]
    simp only [List.length_map, hl, over]
theorem op_copy_src {w : World} {op : Oper} {a : Act} {K : Act → World → Prop} {Q : Exit → Act → World → Prop} (s x : Operand)
    (ho : op.op = .call { callee := .builtin .copy, args := #[s, x], argTypes := #[22, 22] })
    (g o dLen dCap : Nat) (t : TypeId) (vs : List Value) (hrow : VRow w g t vs) {u : Value} {ys : List UInt8} (hd : a.eval s = .slice (some ⟨g, o, none⟩) dLen dCap) (hx : a.eval x = u) (hs : Src w g u ys) (n : Nat) (hn : n = min ys.length dLen) (hfit : o + n ≤ vs.length)
    (h : K (a.put op.dst (.int .i64 n)) (w.setRow g (over vs o (ys.take n)).toArray)) : op.wp Tryd.prog a w K Q := by
  have hrun := run_copy_src g o dLen dCap t op.type vs hrow hs n hn hfit
  unfold Oper.wp execOp
  simp only [ho, resolve, invoke, builtin, Sem.run_bind, Sem.run_pure, Result.andThen_ok, List.map_toArray, List.map_cons, List.map_nil, hd, hx, hrun]
  exact h
theorem wpList_copy_src {w : World} {ops : Array Oper} {rest : List Oper} {op : Oper} {a : Act} {Q : Exit → Act → World → Prop} (hgd : op.guard = none) (s x : Operand)
    (ho : op.op = .call { callee := .builtin .copy, args := #[s, x], argTypes := #[22, 22] })
    (g o dLen dCap : Nat) (t : TypeId) (vs : List Value) (hrow : VRow w g t vs) {u : Value} {ys : List UInt8} (hd : a.eval s = .slice (some ⟨g, o, none⟩) dLen dCap) (hx : a.eval x = u) (hs : Src w g u ys) (n : Nat) (hn : n = min ys.length dLen) (hfit : o + n ≤ vs.length)
    (h : wpList Tryd.prog ops Q rest (a.put op.dst (.int .i64 n)) (w.setRow g (over vs o (ys.take n)).toArray)) : wpList Tryd.prog ops Q (op :: rest) a w :=
  wpList_plain hgd fun _ hK => op_copy_src s x ho g o dLen dCap t vs hrow hd hx hs n hn hfit (hK _ _ h)
end Go.Proofs.YtnmegdhidpkklaaDoor
