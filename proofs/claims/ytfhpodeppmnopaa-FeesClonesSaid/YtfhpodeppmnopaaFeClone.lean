/-
  fees: Clone. Conditions: none.
-/
import Derived.Test.YtfhpodeppmnopaaFeWait
import Derived.Shelf.SlMaps.Clone
namespace Go.Proofs.Ytfhpodeppmnopaa
open Go.RowKit Go.Maps Go.ChangeMaps

theorem fold_set (off : Nat) : ∀ (xs : List Value) (k : Nat) (cs : Array Value),
    ((xs.zipIdx k).foldl (fun cs (p : Value × Nat) => cs.setIfInBounds (off + p.2) p.1) cs).size = cs.size ∧
    ∀ i, i < cs.size → ((xs.zipIdx k).foldl (fun cs (p : Value × Nat) => cs.setIfInBounds (off + p.2) p.1) cs)[i]? = if off + k ≤ i ∧ i < off + k + xs.length then xs[i - (off + k)]? else cs[i]?
  | [], k, cs => ⟨rfl, fun i hi => by rw [if_neg (by simp only [List.length_nil]; omega)]; rfl⟩
  | x :: xs, k, cs => by
    rw [List.zipIdx_cons, List.foldl_cons]
    obtain ⟨h1, h2⟩ := fold_set off xs (k + 1) (cs.setIfInBounds (off + k) x)
    refine ⟨by rw [h1]; simp, fun i hi => ?_⟩
    rw [h2 i (by simpa using hi)]
    by_cases c : off + k ≤ i ∧ i < off + k + (x :: xs).length
    · rw [if_pos c]
      simp only [List.length_cons] at c
      by_cases e : i = off + k
      · subst e
        rw [if_neg (by omega), Array.getElem?_setIfInBounds, if_pos rfl, if_pos hi]
        simp
      · rw [if_pos (by omega), show i - (off + k) = i - (off + (k + 1)) + 1 by omega, List.getElem?_cons_succ]
    · rw [if_neg c, if_neg (by simp only [List.length_cons] at c; omega), Array.getElem?_setIfInBounds, if_neg (by simp only [List.length_cons] at c; omega)]

theorem fill_step {place : Nat → Option (Nat × Nat)} {cells X : Array Value} {i : Nat} {v : Value} {rest : List (Nat × Value)} {off size : Nat} (hp : place i = some (off, size)) (hs : v.cells.size = size) (hc : off + size ≤ cells.size)
    (hX : v.cells.zipIdx.foldl (fun cs (p : Value × Nat) => cs.setIfInBounds (off + p.2) p.1) cells = X) : Instr.fill place cells ((i, v) :: rest) = Instr.fill place X rest := by
  subst hs hX
  conv => lhs; unfold Instr.fill
  simp only [hp]
  rw [if_neg (by simp; omega)]

theorem info_book0 : ((Try.prog.info? 59).bind (·.zero)).map (·.cells.size) = some 313 := by kernel_rfl
theorem fields_book : (match Try.prog.underlying 59 with | some (.struct fs) => fs.toList.mapM (fun f => (Try.prog.info? f.type).map fun i => (f.offset, i.size)) | _ => none) = some [(0, 312), (312, 1)] := by kernel_rfl
theorem build_book (xs : List Value) (hx : xs.length = 312) (m : Option Nat) :
    ∃ us : List Value, (∀ W, (Instr.build 59 #[(0, .agg xs.toArray), (1, .map m)]).run Try.prog W = .ok (.agg us.toArray) W) ∧ us.length = 313 ∧ (∀ i, i < 312 → us[i]? = xs[i]?) ∧ us[312]? = some (.map m) := by
  have h0 := info_book0
  have h1 := fields_book
  cases hi : Try.prog.info? 59 with
  | none => rw [hi] at h0; cases h0
  | some it =>
    rw [hi] at h0
    cases hz : it.zero with
    | none => simp [hz] at h0
    | some z =>
      simp [hz] at h0
      rw [Try.underlying59] at h1
      obtain ⟨s1, g1⟩ := fold_set 0 xs 0 z.cells
      obtain ⟨s2, g2⟩ := fold_set 312 [.map m] 0 ((xs.zipIdx 0).foldl (fun cs (p : Value × Nat) => cs.setIfInBounds (0 + p.2) p.1) z.cells)
      rw [s1, h0] at s2 g2
      rw [h0] at s1 g1
      obtain ⟨X, hX⟩ : ∃ X, X = (xs.zipIdx 0).foldl (fun cs (p : Value × Nat) => cs.setIfInBounds (0 + p.2) p.1) z.cells := ⟨_, rfl⟩
      rw [← hX] at s1 g1 s2 g2
      obtain ⟨Y, hY⟩ : ∃ Y, Y = ([Value.map m].zipIdx 0).foldl (fun cs (p : Value × Nat) => cs.setIfInBounds (312 + p.2) p.1) X := ⟨_, rfl⟩
      rw [← hY] at s2 g2
      have hb : Try.prog.built 59 [(0, .agg xs.toArray), (1, .map m)] = some Y := by
        unfold Program.built
        rw [hi, Try.underlying59]
        simp only [hz, h1]
        refine (fill_step (X := X) rfl (by show xs.toArray.size = 312; simpa using hx) (by rw [h0]; decide) ?_).trans ((fill_step (X := Y) (size := 1) rfl rfl (by rw [s1]; decide) ?_).trans rfl)
        · rw [hX]
          show xs.toArray.zipIdx.foldl _ _ = _
          simp
        · rw [hY]
          show #[Value.map m].zipIdx.foldl _ _ = _
          simp
      refine ⟨Y.toList, fun W => (run_build W _ _ Y hb).trans (by rw [Array.toArray_toList]), by simpa using s2, fun i hi => ?_, ?_⟩
      · rw [Array.getElem?_toList, g2 i (by omega), if_neg (by omega), g1 i (by omega), if_pos (by omega)]
        simp
      · rw [Array.getElem?_toList, g2 312 (by omega), if_pos (by simp)]
        rfl

theorem mclone_any (c : Nat) (m : Option Nat) (W0 : List Ent) (w : World) (h : MapAt w c m W0) :
    Calls Try.prog 18 #[.map m] w fun e w' => ∃ m', e = .returned (.map m') ∧ MapAt w' c m' W0 ∧ (∀ b, m' = some b → w.heap.size ≤ b) ∧ Below w.heap.size w w' := by
  have hq := fun w => run_eql_map_nil_sl (P := Try.prog) w 57 _ _ m map_type
  cases m with
  | none =>
    go_enter Try.func18, Try.ntmps18
    go_wp2
    go_ret
    exact ⟨none, rfl, h, (fun b q => by cases q), Below.refl _ _⟩
  | some b =>
    obtain ⟨es, clock, hb, h2⟩ := h
    have hm : MapAt (w.alloc (.map es clock)) c (some w.heap.size) W0 := ⟨es, clock, (MapKept.heap_alloc w _).1, h2⟩
    have HM := Lib.hid hm
    clear hm h2
    go_enter Try.func18, Try.ntmps18
    go_wp2
    rw [run_callFunc_extern Try.func30 (by kernel_rfl) (by kernel_rfl) (by kernel_rfl) (e := Extern.MapsClone.clone) (by kernel_rfl), run_maps_clone_sl w 57 hb]
    simp only [Result.andThen]
    rw [Oper.upon_value]
    go_wp2
    rw [run_typeAssert_map_sl _ 57 20 _ _ _ map_type]
    simp only [Result.andThen]
    rw [Oper.upon_value]
    go_wp2
    go_ret
    exact ⟨_, rfl, HM.out, (fun b q => by cases q; exact Nat.le_refl _), (Below.refl _ w).alloc (Nat.le_refl _) _⟩
end Go.Proofs.Ytfhpodeppmnopaa
