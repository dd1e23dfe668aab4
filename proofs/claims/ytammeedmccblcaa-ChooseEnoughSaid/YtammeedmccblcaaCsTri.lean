/-
  append(append(append([]T{}, s[:k]...), x), s[k:]...) over ints: what each part reads and leaves. Conditions: none.
-/
import Derived.Test.YtammeedmccblcaaCsRef
namespace Go.Proofs.Ytammeedmccblcaa.Cs
open Go.RowKit

/-- A type of slices of ints. -/
structure IntT (ts e : TypeId) : Prop where
  u : Try.prog.underlying ts = some (.slice e)
  el : Try.prog.elem ts = e
  i : ∃ i, Try.prog.info? e = some i ∧ i.zero = some (.int .i64 0) ∧ i.size = 1 ∧ i.bytes = 8
theorem intt_of {ts e : TypeId} (hu : Try.prog.underlying ts = some (.slice e)) (he : Try.prog.elem ts = e) (h : (Try.prog.info? e).map (fun i => (i.zero, i.size, i.bytes)) = some (some (.int .i64 0), 1, 8)) : IntT ts e := by
  refine ⟨hu, he, ?_⟩
  cases hi : Try.prog.info? e with
  | none => rw [hi] at h; cases h
  | some i =>
    rw [hi] at h
    simp only [Option.map_some, Option.some.injEq, Prod.mk.injEq] at h
    exact ⟨i, rfl, h.1, h.2.1, h.2.2⟩
theorem int_t : IntT 38 3 := intt_of Try.underlying38 (by kernel_rfl) (by kernel_rfl)
theorem i64_t : IntT 49 2 := intt_of Try.underlying49 (by kernel_rfl) (by kernel_rfl)
def restV (A : Option Addr) (n c k : Nat) : Value := .slice (if c = k then A else A.map (fun x => x.add k)) (n - k) (c - k)
theorem run_rest {ts e : TypeId} (hT : IntT ts e) (A : Option Addr) (n c z : Nat) (hz : z ≤ n) (W : World) :
    (Instr.slice ts (.slice A n c) (some (.int .i64 (z : Int))) none none).run Try.prog W = .ok (restV A n c z) W := by
  obtain ⟨i0, hi, _, hz1, _⟩ := hT.i
  have ht : Try.prog.underlying ts = some (.slice (Try.prog.elem ts)) := by rw [hT.el]; exact hT.u
  rw [run_slice_l (ht := ht) (h0 := by omega) (h1 := by omega), hT.el]
  simp [restV, sizeOf, typeInfo, hi, hz1, sliced, go_sem]
theorem run_front {ts e : TypeId} (hT : IntT ts e) (A : Option Addr) (n c z : Nat) (hz : z ≤ c) (W : World) :
    (Instr.slice ts (.slice A n c) none (some (.int .i64 (z : Int))) none).run Try.prog W = .ok (.slice A z c) W := by
  obtain ⟨i0, hi, _, hz1, _⟩ := hT.i
  have ht : Try.prog.underlying ts = some (.slice (Try.prog.elem ts)) := by rw [hT.el]; exact hT.u
  rw [run_slice_h (ht := ht) (h0 := by omega) (h2 := by omega), hT.el]
  simp [sizeOf, typeInfo, hi, hz1, sliced, go_sem]
theorem yieldsIf_slice {e : TypeId} {ops : Array Oper} {S : World → Prop} {op : Oper} {a : Act} (hw : Region.wanted op (yielded ops a.tmps) = true) (ty : TypeId) (hT : IntT ty e) (x : Operand) (lo hi : Option Operand) (ho : op.op = .slice ty x lo hi none) {v : Value}
    (hr : ∀ w, (Instr.slice ty (a.eval x) (lo.map a.eval) (hi.map a.eval) none).run Try.prog w = .ok v w) : YieldsIf Try.prog ops S op v a :=
  .inl ⟨hw, fun w _ => by
    unfold execOp
    have ht : Try.prog.underlying ty = some (.slice (Try.prog.elem ty)) := by rw [hT.el]; exact hT.u
    simp only [ho, Option.map_none, Sem.run_bind, Sem.run_pure, run_sliceAt_slice w ty _ _ _ _ ht, hr, Result.andThen_ok]⟩
theorem Ints.rest {k : IntKind} {w : World} {B n c z : Nat} {A : Option Addr} {xs : List Int} (h : Ints k w B (.slice A n c) xs) (hn : n = xs.length) (hz : z ≤ xs.length) : Ints k w B (restV A n c z) (xs.drop z) := by
  obtain ⟨A', c', hv, hl, hm, hA, hx⟩ := h
  injection hv with e1 _ e2
  subst e1 e2
  have hlen : (xs.drop z).length = n - z := by rw [List.length_drop]; omega
  refine ⟨_, c - z, by rw [hlen]; rfl, by rw [hlen]; omega, by omega, fun hn => ?_, fun hne => ?_⟩
  · by_cases hcz : c = z
    · exact ⟨List.drop_of_length_le (by omega), by omega⟩
    · rw [if_neg hcz] at hn
      cases hA' : A with
      | none => obtain ⟨rfl, hc0⟩ := hA hA'; exact ⟨by simp, by omega⟩
      | some a => rw [hA'] at hn; cases hn
  · have hlt : z < xs.length := by
      rcases Nat.lt_or_ge z xs.length with h | h
      · exact h
      · exact absurd (List.drop_of_length_le h) hne
    obtain ⟨b, o, rfl, hb, hc⟩ := hx (by rintro rfl; simp at hlt)
    have hadd : (⟨b, o, none⟩ : Addr).add z = ⟨b, o + z, none⟩ := by unfold Addr.add; split <;> simp_all
    refine ⟨b, o + z, by rw [if_neg (by omega), Option.map_some, hadd], hb, fun j u hu => ?_⟩
    rw [Nat.add_assoc]
    exact hc _ u (by rw [← hu, List.getElem?_drop])
theorem Ints.front {k : IntKind} {w : World} {B n c z : Nat} {A : Option Addr} {xs : List Int} (h : Ints k w B (.slice A n c) xs) (hn : n = xs.length) (hz : z ≤ xs.length) : Ints k w B (.slice A z c) (xs.take z) := by
  subst hn
  exact h.first z hz
theorem ints_row {w : World} {b : Nat} {e : TypeId} {x : Int} (h : VRow w b e [.int .i64 x]) : Ints .i64 w (b + 1) (.slice (some ⟨b, 0, none⟩) 1 1) [x] :=
  ⟨_, _, rfl, Nat.le_refl _, by unfold maxLen; simp, (by intro h; cases h), fun _ => ⟨b, 0, rfl, by omega, fun j u hu => by
    rw [Nat.zero_add]
    cases j with
    | zero => exact h.cell (by simp at hu; subst hu; rfl)
    | succ j => simp at hu⟩⟩
theorem op_append_i {ts e : TypeId} (hT : IntT ts e) {w : World} {o : Oper} {a : Act} {K : Act → World → Prop} {Q : Exit → Act → World → Prop} (s x : Operand)
    (ho : o.op = .call { callee := .builtin .append, args := #[s, x], argTypes := #[ts, ts] })
    (base : Nat) (v : Value) (n : Nat) (xs : List Value) (hs : a.eval s = v) (hown : w.ownsRow base e 1 v n xs)
    (B : Nat) (u : Value) (ys : List Int) (hx : a.eval x = u) (hr : Ints .i64 w B u ys) (hn : n + ys.length ≤ 1000000) (hbase : base ≤ w.heap.size)
    (h : ∀ v' w', w'.ownsRow base e 1 v' (n + ys.length) (xs ++ ys.map (Value.int .i64)) → w.grownBy w' v.ownBlock → (v'.ownBlock = v.ownBlock ∨ v'.ownBlock = some w.heap.size) → K (a.put o.dst v') w') :
    o.wp Try.prog a w K Q := by
  obtain ⟨i, hi, hz, hsz, hby⟩ := hT.i
  obtain ⟨v', w', hrun, h2, h3, h4⟩ := run_append_ints (P := Try.prog) w base ts o.type e i .i64 8 hT.u hi hz hsz hby v n xs hown B u ys hr (by unfold maxLen; omega) (by omega) hbase
  unfold Oper.wp execOp
  simp only [ho, resolve, invoke, builtin, Sem.run_bind, Sem.run_pure, Result.andThen_ok, List.map_toArray, List.map_cons, List.map_nil, hs, hx, hrun]
  exact h v' w' h2 h3 h4
theorem mk0_int (W : World) : (Instr.buildSlice 38 0 #[]).run Try.prog W = .ok (.slice (some ⟨W.heap.size, 0, none⟩) 0 0) (W.alloc (.cells #[] 3)) := by kernel_rfl
theorem mk0_i64 (W : World) : (Instr.buildSlice 49 0 #[]).run Try.prog W = .ok (.slice (some ⟨W.heap.size, 0, none⟩) 0 0) (W.alloc (.cells #[] 2)) := by kernel_rfl
theorem mk1_int (x : Int) (W : World) : (Instr.buildSlice 38 1 #[(0, .int .i64 x)]).run Try.prog W = .ok (.slice (some ⟨W.heap.size, 0, none⟩) 1 1) (W.alloc (.cells #[.int .i64 x] 3)) := by kernel_rfl
theorem mk1_i64 (x : Int) (W : World) : (Instr.buildSlice 49 1 #[(0, .int .i64 x)]).run Try.prog W = .ok (.slice (some ⟨W.heap.size, 0, none⟩) 1 1) (W.alloc (.cells #[.int .i64 x] 2)) := by kernel_rfl
/-- An empty slice of one's own. -/
theorem mk0_own {W W0 : World} {e : TypeId} (h : Below W0.heap.size W0 W) : (W.alloc (.cells #[] e)).ownsRow W0.heap.size e 1 (.slice (some ⟨W.heap.size, 0, none⟩) 0 0) 0 [] := World.ownsRow_made W #[] 0 h.size (by unfold maxLen; omega) rfl
theorem mk1_row (W : World) (e : TypeId) (x : Int) : VRow (W.alloc (.cells #[.int .i64 x] e)) W.heap.size e [.int .i64 x] := VRow.new W e _
theorem mk1_at {W W0 : World} {e : TypeId} {x : Int} (_h : Below W0.heap.size W0 W) : VRow (W.alloc (.cells #[.int .i64 x] e)) W.heap.size e [.int .i64 x] := VRow.new W e _
theorem own_alloc1 {W : World} {base : Nat} {e : TypeId} {size n : Nat} {v : Value} {xs : List Value} {x : Int} (h : W.ownsRow base e size v n xs) : (W.alloc (.cells #[.int .i64 x] e)).ownsRow base e size v n xs := h.alloc _
theorem row_alloc0 {W : World} {b : Nat} {e : TypeId} {vs : List Value} (h : VRow W b e vs) : VRow (W.alloc (.cells #[] e)) b e vs := h.below ((Below.refl _ _).alloc (Nat.le_refl _) _) h.lt
theorem row_grown {W W' : World} {b : Nat} {e : TypeId} {vs : List Value} {v : Value} (h : VRow W b e vs) (hg : W.grownBy W' v.ownBlock) (hne : v.ownBlock ≠ some b) : VRow W' b e vs := (hg.block b h.lt (fun q => hne q.symm)).trans h
theorem own_ne {W : World} {base : Nat} {e : TypeId} {size n : Nat} {v : Value} {xs : List Value} (h : W.ownsRow base e size v n xs) : v.ownBlock ≠ some W.heap.size := fun q => by have := (h.lt _ q).2; omega
theorem mk0_ne {W : World} {b : Nat} {e : TypeId} {vs : List Value} (h : VRow W b e vs) : (Value.slice (some ⟨W.heap.size, 0, none⟩) 0 0).ownBlock ≠ some b := fun q => by
  have := h.lt
  injection q with q
  have q : W.heap.size = b := q
  omega
theorem tri_le {xs : List Int} (h : xs.length ≤ 1000) (kk : Nat) (x : Int) : 0 + (xs.take kk).length ≤ 1000000 ∧ 0 + (xs.take kk).length + [x].length ≤ 1000000 ∧ 0 + (xs.take kk).length + [x].length + (xs.drop kk).length ≤ 1000000 := by
  rw [List.length_take, List.length_drop, List.length_singleton]
  omega
theorem tri_done {w : World} {base : Nat} {e : TypeId} {v : Value} {xs : List Int} {x : Int} {kk : Nat}
    (h : w.ownsRow base e 1 v (0 + (xs.take kk).length + [x].length + (xs.drop kk).length) ([] ++ (xs.take kk).map (Value.int .i64) ++ [x].map (Value.int .i64) ++ (xs.drop kk).map (Value.int .i64))) : Ints .i64 w w.heap.size v (xs.take kk ++ x :: xs.drop kk) := by
  refine Ints.of_own (base := base) (e := e) ?_
  have hl : (xs.take kk ++ x :: xs.drop kk).length = 0 + (xs.take kk).length + [x].length + (xs.drop kk).length := by simp only [List.length_append, List.length_cons, List.length_nil]; omega
  rw [hl, List.map_append, List.map_cons]
  simpa using h
end Go.Proofs.Ytammeedmccblcaa.Cs
