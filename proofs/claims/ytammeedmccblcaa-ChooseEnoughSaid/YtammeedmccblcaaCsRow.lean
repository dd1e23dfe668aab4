/-
  Rows of elements of several cells: as they are read, and as a function's own that it adds to. Conditions: none.
-/
import Derived.Test.YtammeedmccblcaaVRow
import Derived.Test.YtammeedmccblcaaInts
import Derived.Test.YtammeedmccblcaaCsPure
import Derived.Maps.AppendAt
namespace Go.Proofs.Ytammeedmccblcaa.Cs
open Go.RowKit

theorem wrap_small2 {x : Int} (h0 : -9223372036854775808 ≤ x) (h1 : x ≤ 9223372036854775807) : wrap64 x = x := by unfold wrap64; omega
/-- A slice whose elements' cells are these, one behind the other. -/
def RowR (w : World) (B : Nat) (v : Value) (n : Nat) (cs : List Value) : Prop := ∃ A c, v = .slice A n c ∧ n ≤ c ∧ c ≤ maxLen ∧ (n ≠ 0 → ∃ b o, A = some ⟨b, o, none⟩ ∧ b < B ∧ w.rangeAt b o cs)
theorem RowR.form {w : World} {B n : Nat} {v : Value} {cs : List Value} (h : RowR w B v n cs) : ∃ A c, v = .slice A n c ∧ n ≤ c ∧ c ≤ 9223372036854775807 := by
  obtain ⟨A, c, hv, h1, h2, _⟩ := h
  exact ⟨A, c, hv, h1, h2⟩
theorem RowR.one {w : World} {B n : Nat} {v : Value} {cs : List Value} (h : RowR w B v n cs) : v.oneCell' = true := by obtain ⟨A, c, rfl, _⟩ := h; rfl
theorem RowR.below {w w' : World} {B n : Nat} {v : Value} {cs : List Value} (h : RowR w B v n cs) (hb : Below B w w') : RowR w' B v n cs := by
  obtain ⟨A, c, hv, h1, h2, h3⟩ := h
  refine ⟨A, c, hv, h1, h2, fun hn => ?_⟩
  obtain ⟨b, o, e, hlt, hr⟩ := h3 hn
  exact ⟨b, o, e, hlt, fun j v hv => (hb.cell (p := ⟨b, _, none⟩) hlt).trans (hr j v hv)⟩
theorem RowR.more {w : World} {B B' n : Nat} {v : Value} {cs : List Value} (h : RowR w B v n cs) (hB : B ≤ B') : RowR w B' v n cs := by
  obtain ⟨A, c, hv, h1, h2, h3⟩ := h
  refine ⟨A, c, hv, h1, h2, fun hn => ?_⟩
  obtain ⟨b, o, e, hlt, hr⟩ := h3 hn
  exact ⟨b, o, e, by omega, hr⟩
theorem RowR.nil (w : World) (B : Nat) : RowR w B (.slice none 0 0) 0 [] := ⟨none, 0, rfl, Nat.le_refl _, by unfold maxLen; omega, fun h => absurd rfl h⟩
theorem RowR.of_own {w : World} {base n size : Nat} {e : TypeId} {v : Value} {cs : List Value} (h : w.ownsRow base e size v n cs) : RowR w w.heap.size v n cs := by
  rcases h.2 with ⟨rfl, hn⟩ | ⟨g, cap, cur, rfl, _, hg, hnc, hcm, _, _⟩
  · subst hn
    exact ⟨none, 0, rfl, Nat.le_refl _, by unfold maxLen; omega, fun h => absurd rfl h⟩
  · refine ⟨some ⟨g, 0, none⟩, cap, rfl, hnc, hcm, fun _ => ⟨g, 0, rfl, (h.lt g rfl).2, fun j u hu => ?_⟩⟩
    have hc := h.cells (g := g) rfl j u hu
    have hadd : (⟨g, 0, none⟩ : Addr).add j = ⟨g, 0 + j, none⟩ := by unfold Addr.add; split <;> simp_all
    rw [← hadd]
    exact hc
/-- Flat cells. -/
theorem flat_in {α : Type} (f : α → List Value) (n : Nat) : ∀ (X : List α), (∀ e ∈ X, (f e).length = n) → ∀ (i : Nat) (e : α), X[i]? = some e → ∀ j v, (f e)[j]? = some v → (X.flatMap f)[i * n + j]? = some v
  | [], _, i, e, h, _, _, _ => by simp at h
  | a :: X, hf, 0, e, h, j, v, hv => by
    obtain rfl : a = e := by simpa using h
    rw [List.flatMap_cons, Nat.zero_mul, Nat.zero_add, List.getElem?_append_left (List.getElem?_eq_some_iff.1 hv).1]
    exact hv
  | a :: X, hf, i + 1, e, h, j, v, hv => by
    have h' : X[i]? = some e := by simpa using h
    have ih := flat_in f n X (fun e he => hf e (by simp [he])) i e h' j v hv
    have ha := hf a (by simp)
    rw [List.flatMap_cons, List.getElem?_append_right (by rw [ha, Nat.add_mul]; omega), ha, show (i + 1) * n + j - n = i * n + j by rw [Nat.add_mul]; omega]
    exact ih
theorem flat_len {α : Type} (f : α → List Value) (n : Nat) : ∀ (X : List α), (∀ e ∈ X, (f e).length = n) → (X.flatMap f).length = X.length * n
  | [], _ => by simp
  | a :: X, hf => by rw [List.flatMap_cons, List.length_append, hf a (by simp), flat_len f n X (fun e he => hf e (by simp [he])), List.length_cons, Nat.add_mul]; omega
theorem flat_of {α : Type} (f : α → List Value) (n : Nat) : ∀ (X : List α), (∀ e ∈ X, (f e).length = n) → ∀ (j : Nat) (v : Value), (X.flatMap f)[j]? = some v → ∃ i e r, X[i]? = some e ∧ (f e)[r]? = some v ∧ j = i * n + r
  | [], _, j, v, h => by simp at h
  | a :: X, hf, j, v, h => by
    have ha := hf a (by simp)
    rw [List.flatMap_cons] at h
    by_cases hj : j < n
    · rw [List.getElem?_append_left (by omega)] at h
      exact ⟨0, a, j, rfl, h, by omega⟩
    · rw [List.getElem?_append_right (by omega), ha] at h
      obtain ⟨i, e, r, h1, h2, h3⟩ := flat_of f n X (fun e he => hf e (by simp [he])) _ v h
      exact ⟨i + 1, e, r, by simpa using h1, h2, by rw [Nat.add_mul]; omega⟩
theorem flat_take {α : Type} (f : α → List Value) (n : Nat) : ∀ (X : List α), (∀ e ∈ X, (f e).length = n) → ∀ k, (X.flatMap f).take (k * n) = (X.take k).flatMap f
  | [], _, k => by simp
  | a :: X, _, 0 => by simp
  | a :: X, hf, k + 1 => by
    have ha := hf a (by simp)
    rw [List.flatMap_cons, List.take_succ_cons, List.flatMap_cons, List.take_append, ha, show (k + 1) * n - n = k * n by rw [Nat.add_mul]; omega, flat_take f n X (fun e he => hf e (by simp [he])) k, List.take_of_length_le (by rw [ha, Nat.add_mul]; omega)]

/-! A coin that comes: its two cells; a coin that is dealt: likewise. -/
def crC (c : Int × Int) : List Value := [.int .i64 c.1, .int .i64 c.2]
def cnC (c : Cn) : List Value := [.int .i64 c.1, .int .i64 (c.2 : Int)]
theorem crC_length (c : Int × Int) : (crC c).length = 2 := rfl
theorem cnC_length (c : Cn) : (cnC c).length = 2 := rfl
def CrR (w : World) (B : Nat) (v : Value) (X : List (Int × Int)) : Prop := RowR w B v X.length (X.flatMap crC)
def CnR (w : World) (B : Nat) (v : Value) (X : List Cn) : Prop := RowR w B v X.length (X.flatMap cnC)
theorem CrR.at {w : World} {B : Nat} {v : Value} {X : List (Int × Int)} (h : CrR w B v X) {i : Nat} {c : Int × Int} (hi : X[i]? = some c) : ∃ b o k, v = .slice (some ⟨b, o, none⟩) X.length k ∧ X.length ≤ k ∧ k ≤ 9223372036854775807 ∧ b < B ∧ w.cell? ⟨b, o + i * 2, none⟩ = some (.int .i64 c.1) ∧ w.cell? ⟨b, o + i * 2 + 1, none⟩ = some (.int .i64 c.2) := by
  obtain ⟨A, k, hv, h1, h2, h3⟩ := h
  have hl := (List.getElem?_eq_some_iff.1 hi).1
  obtain ⟨b, o, rfl, hlt, hr⟩ := h3 (by omega)
  exact ⟨b, o, k, hv, h1, h2, hlt, hr (i * 2) _ (flat_in crC 2 X (fun _ _ => rfl) i c hi 0 _ rfl), by rw [Nat.add_assoc]; exact hr (i * 2 + 1) _ (flat_in crC 2 X (fun _ _ => rfl) i c hi 1 _ rfl)⟩
theorem CnR.at {w : World} {B : Nat} {v : Value} {X : List Cn} (h : CnR w B v X) {i : Nat} {c : Cn} (hi : X[i]? = some c) : ∃ b o k, v = .slice (some ⟨b, o, none⟩) X.length k ∧ X.length ≤ k ∧ k ≤ 9223372036854775807 ∧ b < B ∧ w.cell? ⟨b, o + i * 2, none⟩ = some (.int .i64 c.1) ∧ w.cell? ⟨b, o + i * 2 + 1, none⟩ = some (.int .i64 (c.2 : Int)) := by
  obtain ⟨A, k, hv, h1, h2, h3⟩ := h
  have hl := (List.getElem?_eq_some_iff.1 hi).1
  obtain ⟨b, o, rfl, hlt, hr⟩ := h3 (by omega)
  exact ⟨b, o, k, hv, h1, h2, hlt, hr (i * 2) _ (flat_in cnC 2 X (fun _ _ => rfl) i c hi 0 _ rfl), by rw [Nat.add_assoc]; exact hr (i * 2 + 1) _ (flat_in cnC 2 X (fun _ _ => rfl) i c hi 1 _ rfl)⟩
theorem CnR.first {w : World} {B n c : Nat} {A : Option Addr} {X : List Cn} (h : CnR w B (.slice A n c) X) {k : Nat} (hk : k ≤ X.length) : CnR w B (.slice A k c) (X.take k) := by
  obtain ⟨A', c', e, h1, h2, h3⟩ := h
  injection e with e1 e2 e3
  subst e1 e2 e3
  have hl : (X.take k).length = k := by rw [List.length_take]; omega
  refine ⟨A, c, by rw [hl], by omega, h2, fun hne => ?_⟩
  obtain ⟨b, o, e1, hb, hr⟩ := h3 (by omega)
  refine ⟨b, o, e1, hb, fun j u hu => hr j u ?_⟩
  rw [← flat_take cnC 2 X (fun _ _ => rfl) k, List.getElem?_take] at hu
  split at hu
  · exact hu
  · exact absurd hu (by simp)

/-! A type of slices whose elements have so many cells and bytes. -/
structure SlT (ts e : TypeId) (size bytes : Nat) : Prop where
  u : Try.prog.underlying ts = some (.slice e)
  i : ∃ i z, Try.prog.info? e = some i ∧ i.zero = some z ∧ i.size = size ∧ i.bytes = bytes ∧ z.cells.size = size
  p : 0 < size
theorem slt_of {ts e : TypeId} {size bytes : Nat} {z : Value} (hu : Try.prog.underlying ts = some (.slice e)) (h : (Try.prog.info? e).map (fun i => (i.zero, i.size, i.bytes)) = some (some z, size, bytes)) (hz : z.cells.size = size) (hp : 0 < size) : SlT ts e size bytes := by
  refine ⟨hu, ?_, hp⟩
  cases hi : Try.prog.info? e with
  | none => rw [hi] at h; cases h
  | some i =>
    rw [hi] at h
    simp only [Option.map_some, Option.some.injEq, Prod.mk.injEq] at h
    exact ⟨i, z, rfl, h.1, h.2.1, h.2.2, hz⟩
theorem run_append_row {ts e : TypeId} {size bytes : Nat} (hT : SlT ts e size bytes) {w : World} (ty : TypeId) (base : Nat) (v : Value) (n : Nat) (xs : List Value) (hown : w.ownsRow base e size v n xs)
    (g c : Nat) (C : List Value) (hl : C.length = size) (h0 : w.rangeAt g 0 C) (k0 : ∀ u ∈ C, u.oneCell' = true) (hb : (n + 1) * bytes ≤ 140737488355328) (hm : n + 1 ≤ maxLen) (hbase : base ≤ w.heap.size) :
    ∃ v' w', (Builtin.append_ #[ts, ts] ty #[v, .slice (some ⟨g, 0, none⟩) 1 c]).run Try.prog w = .ok v' w' ∧ w'.ownsRow base e size v' (n + 1) (xs ++ C) ∧ w.grownBy w' v.ownBlock ∧ (v'.ownBlock = v.ownBlock ∨ v'.ownBlock = some w.heap.size) := by
  obtain ⟨i, z, hi, hz, hsz, hby, hzs⟩ := hT.i
  obtain ⟨v', w', hrun, h2, h3, _, h5⟩ := run_append_own_at (P := Try.prog) w base ts ty e i z size bytes hT.u hi hz hsz hby hzs hT.p v n xs hown ⟨g, 0, none⟩ 1 c C (by rw [hl, Nat.one_mul])
    (fun j u hu => by rw [Addr.add_mid]; exact h0 j u hu) k0 hm hb hbase
  exact ⟨v', w', hrun, h2, h3, h5⟩
theorem wpList_append_row {ts e : TypeId} {size bytes : Nat} (hT : SlT ts e size bytes) {w : World} {ops : Array Oper} {rest : List Oper} {o : Oper} {a : Act} {Q : Exit → Act → World → Prop} (hgd : o.guard = none) (s x : Operand)
    (ho : o.op = .call { callee := .builtin .append, args := #[s, x], argTypes := #[ts, ts] })
    (base : Nat) (v : Value) (n : Nat) (xs : List Value) (hs : a.eval s = v) (hown : w.ownsRow base e size v n xs)
    (g c : Nat) (C : List Value) (hx : a.eval x = .slice (some ⟨g, 0, none⟩) 1 c) (hl : C.length = size) (h0 : w.rangeAt g 0 C) (k0 : ∀ u ∈ C, u.oneCell' = true) (hb : (n + 1) * bytes ≤ 140737488355328) (hm : n + 1 ≤ maxLen) (hbase : base ≤ w.heap.size)
    (h : ∀ v' w', w'.ownsRow base e size v' (n + 1) (xs ++ C) → w.grownBy w' v.ownBlock → (v'.ownBlock = v.ownBlock ∨ v'.ownBlock = some w.heap.size) → wpList Try.prog ops Q rest (a.put o.dst v') w') :
    wpList Try.prog ops Q (o :: rest) a w := by
  refine wpList_plain hgd fun K hK => ?_
  obtain ⟨v', w', hrun, h2, h3, h4⟩ := run_append_row hT o.type base v n xs hown g c C hl h0 k0 hb hm hbase
  unfold Oper.wp execOp
  simp only [ho, resolve, invoke, builtin, Sem.run_bind, Sem.run_pure, Result.andThen_ok, List.map_toArray, List.map_cons, List.map_nil, hs, hx, hrun]
  exact hK _ _ (h v' w' h2 h3 h4)
theorem op_append_row {ts e : TypeId} {size bytes : Nat} (hT : SlT ts e size bytes) {w : World} {o : Oper} {a : Act} {K : Act → World → Prop} {Q : Exit → Act → World → Prop} (s x : Operand)
    (ho : o.op = .call { callee := .builtin .append, args := #[s, x], argTypes := #[ts, ts] })
    (base : Nat) (v : Value) (n : Nat) (xs : List Value) (hs : a.eval s = v) (hown : w.ownsRow base e size v n xs)
    (g c : Nat) (C : List Value) (hx : a.eval x = .slice (some ⟨g, 0, none⟩) 1 c) (hl : C.length = size) (h0 : w.rangeAt g 0 C) (k0 : ∀ u ∈ C, u.oneCell' = true) (hb : (n + 1) * bytes ≤ 140737488355328) (hm : n + 1 ≤ maxLen) (hbase : base ≤ w.heap.size)
    (h : ∀ v' w', w'.ownsRow base e size v' (n + 1) (xs ++ C) → w.grownBy w' v.ownBlock → (v'.ownBlock = v.ownBlock ∨ v'.ownBlock = some w.heap.size) → K (a.put o.dst v') w') :
    o.wp Try.prog a w K Q := by
  obtain ⟨v', w', hrun, h2, h3, h4⟩ := run_append_row hT o.type base v n xs hown g c C hl h0 k0 hb hm hbase
  unfold Oper.wp execOp
  simp only [ho, resolve, invoke, builtin, Sem.run_bind, Sem.run_pure, Result.andThen_ok, List.map_toArray, List.map_cons, List.map_nil, hs, hx, hrun]
  exact h v' w' h2 h3 h4
theorem wp_buildSlice {op : Oper} {a : Act} {w : World} {K : Act → World → Prop} {Q : Exit → Act → World → Prop} (t : TypeId) (n : Nat) (parts : Array (Nat × Operand)) (ho : op.op = .buildSlice t n parts) (v : Value) (w' : World)
    (hr : (Instr.buildSlice t n (parts.map fun p => (p.1, a.eval p.2))).run Try.prog w = .ok v w') (h : K (a.put op.dst v) w') : op.wp Try.prog a w K Q := by
  unfold Oper.wp execOp
  simp only [ho, hr, Sem.run_bind, Sem.run_pure, Result.andThen_ok]
  exact h
theorem wpList_buildSlice {ops : Array Oper} {rest : List Oper} {op : Oper} {a : Act} {w : World} {Q : Exit → Act → World → Prop} (hgd : op.guard = none) (t : TypeId) (n : Nat) (parts : Array (Nat × Operand)) (ho : op.op = .buildSlice t n parts) (v : Value) (w' : World)
    (hr : (Instr.buildSlice t n (parts.map fun p => (p.1, a.eval p.2))).run Try.prog w = .ok v w') (h : wpList Try.prog ops Q rest (a.put op.dst v) w') : wpList Try.prog ops Q (op :: rest) a w :=
  wpList_plain hgd fun _ hK => wp_buildSlice t n parts ho v w' hr (hK _ _ h)
theorem slt_coin : SlT 58 75 2 16 := slt_of (z := .agg #[.int .i64 0, .int .i64 0]) Try.underlying58 (by kernel_rfl) rfl (by decide)
theorem slt_Coin : SlT 29 35 2 16 := slt_of (z := .agg #[.int .i64 0, .int .i64 0]) Try.underlying29 (by kernel_rfl) rfl (by decide)
theorem one_coin (a b : Int) (W : World) : (Instr.buildSlice 58 1 #[(0, .agg #[.int .i64 a, .int .i64 b])]).run Try.prog W = .ok (.slice (some ⟨W.heap.size, 0, none⟩) 1 1) (W.alloc (.cells #[.int .i64 a, .int .i64 b] 75)) := by kernel_rfl
theorem one_Coin (a b : Int) (W : World) : (Instr.buildSlice 29 1 #[(0, .agg #[.int .i64 a, .int .i64 b])]).run Try.prog W = .ok (.slice (some ⟨W.heap.size, 0, none⟩) 1 1) (W.alloc (.cells #[.int .i64 a, .int .i64 b] 35)) := by kernel_rfl
theorem bel_grown {W0 W W' : World} {base : Nat} {e : TypeId} {size n : Nat} {v : Value} {xs : List Value} (h : Below W0.heap.size W0 W) (hown : W.ownsRow base e size v n xs) (hb : W0.heap.size ≤ base) (hg : W.grownBy W' v.ownBlock) : Below W0.heap.size W0 W' :=
  h.grown hg h.size fun k hk => Nat.le_trans hb (hown.lt k hk).1
theorem own_below {w w' : World} {base : Nat} {e : TypeId} {size n : Nat} {v : Value} {xs : List Value} (h : w.ownsRow base e size v n xs) (hb : Below w.heap.size w w') : w'.ownsRow base e size v n xs := own_turns h (Turns.of_below (S := fun _ => False) hb) (fun _ _ q => q)
theorem vrow_grown {w w' : World} {g base : Nat} {t e : TypeId} {vs : List Value} {size n : Nat} {v : Value} {xs : List Value} (h : VRow w g t vs) (hown : w.ownsRow base e size v n xs) (hg : w.grownBy w' v.ownBlock) (hlt : g < base) : VRow w' g t vs :=
  (hg.block g h.lt (fun q => by have := (hown.lt g q.symm).1; omega)).trans h
end Go.Proofs.Ytammeedmccblcaa.Cs
