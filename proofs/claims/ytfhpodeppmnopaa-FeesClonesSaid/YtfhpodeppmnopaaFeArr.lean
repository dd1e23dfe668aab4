/-
  Arrays of numbers compared: the counts of a book, and the reference's. Conditions: the cells are as named.
-/
import Derived.Test.YtfhpodeppmnopaaFeEq
import Derived.ChangeKeysEq
namespace Go.Proofs.Ytfhpodeppmnopaa
open Go.RowKit

theorem eqItems_run {d : Nat} {e : TypeId} {c : Nat} {xs ys : Array Value} (f : Nat → Bool) (W : World) : ∀ (is : List Nat),
    (∀ i ∈ is, ∃ a b, (part e xs (i * c)).run Try.prog W = .ok a W ∧ (part e ys (i * c)).run Try.prog W = .ok b W ∧ (Op.equalIn d e a b).run Try.prog W = .ok (f i) W) → (Op.eqItems d e c xs ys is).run Try.prog W = .ok (is.all f) W
  | [], _ => rfl
  | i :: is, h => by
    obtain ⟨a, b, h1, h2, h3⟩ := h i (by simp)
    have ih := eqItems_run f W is (fun j hj => h j (by simp [hj]))
    simp only [Op.eqItems, Sem.run_bind, h1, h2, h3, Result.andThen_ok, List.all_cons]
    cases f i
    · simp
    · simpa using ih
/-- Cells that are numbers. -/
def NumAt (xs : Array Value) (o n : Nat) (f : Nat → Int) : Prop := ∀ i, i < n → xs[o + i]? = some (.int .i64 (f i))
theorem NumAt.extract {xs : Array Value} {o n : Nat} {f : Nat → Int} (h : NumAt xs o n f) : NumAt (xs.extract o (o + n)) 0 n f := fun i hi => by
  have h0 := h i hi
  have hl := (Array.getElem?_eq_some_iff.1 h0).1
  rw [Nat.zero_add, Array.getElem?_extract_of_lt (by omega)]
  rw [Array.getElem?_eq_getElem hl] at h0
  exact h0
theorem eq_nums {d : Nat} {t e : TypeId} {n : Nat} {xs ys : Array Value} {f g : Nat → Int} {it : TypeInfo} (hu : Try.prog.underlying t = some (.array n e)) (he : Try.prog.underlying e = some (.int .i64)) (hi : Try.prog.info? e = some it) (hc : Try.prog.cellsOf e = 1)
    (hx : NumAt xs 0 n f) (hy : NumAt ys 0 n g) (ha : ∀ W, (isAgg e).run Try.prog W = .ok false W) (W : World) : (Op.equalIn (d + 2) t (.agg xs) (.agg ys)).run Try.prog W = .ok ((List.range n).all fun i => f i == g i) W := by
  rw [run_equalIn_array W (d + 1) xs ys hu hi, hc]
  refine eqItems_run (fun i => f i == g i) W _ (fun i hi => ?_)
  have hi' := List.mem_range.1 hi
  have h1 := hx i hi'
  have h2 := hy i hi'
  rw [Nat.zero_add] at h1 h2
  refine ⟨.int .i64 (f i), .int .i64 (g i), ?_, ?_, run_equalIn_int W d e .i64 .i64 (f i) (g i) he⟩
  · simp [part, ha, h1]
  · simp [part, ha, h2]
theorem eq_parts {d : Nat} {t e : TypeId} {n c : Nat} {xs ys : Array Value} (F : Nat → Bool) {it : TypeInfo} (hu : Try.prog.underlying t = some (.array n e)) (hi : Try.prog.info? e = some it) (hc : Try.prog.cellsOf e = c) (hs : ∀ W, (sizeOf e).run Try.prog W = .ok c W)
    (ha : ∀ W, (isAgg e).run Try.prog W = .ok true W) (W : World) (h : ∀ i, i < n → (Op.equalIn d e (.agg (xs.extract (i * c) (i * c + c))) (.agg (ys.extract (i * c) (i * c + c)))).run Try.prog W = .ok (F i) W) :
    (Op.equalIn (d + 1) t (.agg xs) (.agg ys)).run Try.prog W = .ok ((List.range n).all F) W := by
  rw [run_equalIn_array W d xs ys hu hi, hc]
  refine eqItems_run F W _ (fun i hi => ?_)
  refine ⟨_, _, ?_, ?_, h i (List.mem_range.1 hi)⟩
  · simp [part, ha, hs]
  · simp [part, ha, hs]
theorem info_some {e : TypeId} {n : Nat} (h : (Try.prog.info? e).map (·.size) = some n) : ∃ it, Try.prog.info? e = some it := by
  cases hi : Try.prog.info? e with
  | none => rw [hi] at h; cases h
  | some it => exact ⟨it, rfl⟩

/-- The reference's counts of all. -/
theorem eq_all {xs ys : Array Value} {f g : Nat → Int} (hx : NumAt xs 0 24 f) (hy : NumAt ys 0 24 g) (W : World) : (Op.equalIn 10000 25 (.agg xs) (.agg ys)).run Try.prog W = .ok ((List.range 24).all fun i => f i == g i) W := by
  obtain ⟨it, hit⟩ := info_some (e := 2) (n := 1) (by kernel_rfl)
  exact eq_nums (d := 9998) Try.underlying25 Try.underlying2 hit (by kernel_rfl) hx hy (fun W => by kernel_rfl) W
theorem eq_twelve (d : Nat) {xs ys : Array Value} {f g : Nat → Int} (hx : NumAt xs 0 12 f) (hy : NumAt ys 0 12 g) (W : World) : (Op.equalIn (d + 2) 26 (.agg xs) (.agg ys)).run Try.prog W = .ok ((List.range 12).all fun i => f i == g i) W := by
  obtain ⟨it, hit⟩ := info_some (e := 2) (n := 1) (by kernel_rfl)
  exact eq_nums Try.underlying26 Try.underlying2 hit (by kernel_rfl) hx hy (fun W => by kernel_rfl) W
/-- .. of what waited. -/
theorem eq_within {xs ys : Array Value} {f g : Nat → Nat → Int} (hx : ∀ k, k < 24 → NumAt xs (k * 12) 12 (f k)) (hy : ∀ k, k < 24 → NumAt ys (k * 12) 12 (g k)) (W : World) :
    (Op.equalIn 10000 27 (.agg xs) (.agg ys)).run Try.prog W = .ok ((List.range 24).all fun k => (List.range 12).all fun t => f k t == g k t) W := by
  obtain ⟨it, hit⟩ := info_some (e := 26) (n := 12) (by kernel_rfl)
  exact eq_parts (d := 9999) (c := 12) (fun k => (List.range 12).all fun t => f k t == g k t) Try.underlying27 hit (by kernel_rfl) (fun W => by kernel_rfl) (fun W => by kernel_rfl) W
    (fun k hk => eq_twelve 9997 (hx k hk).extract (hy k hk).extract W)
theorem eq_tally (d : Nat) {xs ys : Array Value} {a b : Int} {f g : Nat → Int} (hx0 : xs[0]? = some (.int .i64 a)) (hy0 : ys[0]? = some (.int .i64 b)) (hx : NumAt xs 1 12 f) (hy : NumAt ys 1 12 g) (W : World) :
    (Op.equalIn (d + 3) 55 (.agg xs) (.agg ys)).run Try.prog W = .ok (a == b && (List.range 12).all fun t => f t == g t) W := by
  have hp : Try.prog.stoodInHeld 55 = false := by kernel_rfl
  have hs : Try.prog.underlying 55 = some (.struct (Try.prog.fieldsOf 55)) := by kernel_rfl
  refine (run_equalIn_struct (P := Try.prog) W (d + 2) 55 xs ys hs hp).trans ?_
  have h2 := hs
  rw [Try.underlying55] at h2
  injection h2 with h2
  injection h2 with h2
  rw [← h2]
  have b1 : ∀ W, (isAgg 2).run Try.prog W = .ok false W := fun W => by kernel_rfl
  have b2 : ∀ W, (isAgg 26).run Try.prog W = .ok true W := fun W => by kernel_rfl
  have b3 : ∀ W, (sizeOf 26).run Try.prog W = .ok 12 W := fun W => by kernel_rfl
  have e1 := run_equalIn_int (P := Try.prog) W (d + 1) 2 .i64 .i64 a b Try.underlying2
  have e2 := eq_twelve d hx.extract hy.extract W
  have p1 : (part 2 xs 0).run Try.prog W = .ok (.int .i64 a) W := by simp [part, b1, hx0]
  have p2 : (part 2 ys 0).run Try.prog W = .ok (.int .i64 b) W := by simp [part, b1, hy0]
  have p3 : (part 26 xs 1).run Try.prog W = .ok (.agg (xs.extract 1 (1 + 12))) W := by simp [part, b2, b3]
  have p4 : (part 26 ys 1).run Try.prog W = .ok (.agg (ys.extract 1 (1 + 12))) W := by simp [part, b2, b3]
  generalize ((List.range 12).all fun t => f t == g t) = r at e2 ⊢
  by_cases hab : a = b
  · subst hab
    cases r <;> simp [Op.eqFields, p1, p2, p3, p4, e1, e2]
  · have hb : (a == b) = false := by simp [hab]
    rw [hb] at e1 ⊢
    simp [Op.eqFields, p1, p2, e1]
/-- A book's counts. -/
theorem eq_counts {xs ys : Array Value} {A B : Nat → Int} {f g : Nat → Nat → Int} (hx0 : ∀ k, k < 24 → xs[k * 13]? = some (.int .i64 (A k))) (hy0 : ∀ k, k < 24 → ys[k * 13]? = some (.int .i64 (B k)))
    (hx : ∀ k, k < 24 → NumAt xs (k * 13 + 1) 12 (f k)) (hy : ∀ k, k < 24 → NumAt ys (k * 13 + 1) 12 (g k)) (W : World) :
    (Op.equalIn 10000 56 (.agg xs) (.agg ys)).run Try.prog W = .ok ((List.range 24).all fun k => (A k == B k && (List.range 12).all fun t => f k t == g k t)) W := by
  obtain ⟨it, hit⟩ := info_some (e := 55) (n := 13) (by kernel_rfl)
  have hN : ∀ (zs : Array Value) (k : Nat) (f : Nat → Int), NumAt zs (k * 13 + 1) 12 f → NumAt (zs.extract (k * 13) (k * 13 + 13)) 1 12 f := fun zs k f h i hi => by
    have h0 := h i hi
    have hl := (Array.getElem?_eq_some_iff.1 h0).1
    rw [Array.getElem?_extract_of_lt (by omega)]
    rw [Array.getElem?_eq_getElem hl] at h0
    simpa [Nat.add_assoc] using h0
  have h0 : ∀ (zs : Array Value) (k : Nat) (a : Int), zs[k * 13]? = some (.int .i64 a) → (zs.extract (k * 13) (k * 13 + 13))[0]? = some (.int .i64 a) := fun zs k a h => by
    have hl := (Array.getElem?_eq_some_iff.1 h).1
    rw [Array.getElem?_extract_of_lt (by omega)]
    rw [Array.getElem?_eq_getElem hl] at h
    simpa using h
  exact eq_parts (d := 9999) (c := 13) (fun k => (A k == B k && (List.range 12).all fun t => f k t == g k t)) Try.underlying56 hit (by kernel_rfl) (fun W => by kernel_rfl) (fun W => by kernel_rfl) W
    (fun k hk => eq_tally 9996 (h0 xs k _ (hx0 k hk)) (h0 ys k _ (hy0 k hk)) (hN xs k _ (hx k hk)) (hN ys k _ (hy k hk)) W)
end Go.Proofs.Ytfhpodeppmnopaa
