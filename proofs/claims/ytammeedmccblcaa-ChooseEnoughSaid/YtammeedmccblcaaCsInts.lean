/-
  slices.Sort over ints of the caller's own. Conditions: a row of the caller's own, fewer than 2^40 of them.
-/
import Derived.Test.YtammeedmccblcaaCsDeal
namespace Go.Proofs.Ytammeedmccblcaa.Cs
open Go.RowKit Go.Sort Go.Shelf

theorem holds_ints {w : World} {base : Nat} {e : TypeId} {g cap : Nat} {zs : List Int} (h : w.ownsRow base e 1 (.slice (some ⟨g, 0, none⟩) zs.length cap) zs.length (zs.map (Value.int .i64))) : Holds (Value.int .i64) w g 0 zs.toArray := by
  intro j hj
  have hj' : j < zs.length := by simpa using hj
  have hc := h.cells (g := g) rfl j (.int .i64 zs[j]) (by rw [List.getElem?_map, List.getElem?_eq_getElem hj']; rfl)
  rw [Addr.add_mid] at hc
  refine ⟨?_, ?_⟩
  · rw [hc, getElem!_pos _ j hj]
    simp
  · rcases h.2 with ⟨hv, _⟩ | ⟨g', cap', cur, hv, _, hg, _⟩
    · cases hv
    · injection hv with hv _ _
      injection hv with hv
      injection hv with hv
      subst hv
      simp [World.frozen?, hg]
theorem ints_sorted {w : World} {base : Nat} {e : TypeId} {g cap : Nat} {zs zs' : List Int} (h : w.ownsRow base e 1 (.slice (some ⟨g, 0, none⟩) zs.length cap) zs.length (zs.map (Value.int .i64))) (hl : zs'.length = zs.length) (m : Nat) (os : Array Obj) :
    (grow (putRow (Value.int .i64) (Go.Sort.ahead w m) g 0 zs'.toArray) os).ownsRow base e 1 (.slice (some ⟨g, 0, none⟩) zs.length cap) zs.length (zs'.map (Value.int .i64)) ∧ w.grownBy (grow (putRow (Value.int .i64) (Go.Sort.ahead w m) g 0 zs'.toArray) os) (some g) := by
  have hlt := (h.lt g rfl).2
  have hheap : ∀ k, (grow (putRow (Value.int .i64) (Go.Sort.ahead w m) g 0 zs'.toArray) os).heap[k]? = if k < w.heap.size then (if g = k then (w.heap[k]?).map (onCells (putCells (Value.int .i64) 0 zs'.toArray)) else w.heap[k]?) else os[k - w.heap.size]? := by
    intro k
    show ((w.heap.modify g (onCells (putCells (Value.int .i64) 0 zs'.toArray))) ++ os)[k]? = _
    rw [Array.getElem?_append, Array.size_modify, Array.getElem?_modify]
  refine ⟨⟨by rw [List.length_map, hl, Nat.mul_one], ?_⟩, ⟨rfl, rfl, rfl, ?_, fun k hk hne => ?_⟩⟩
  · rcases h.2 with ⟨hv, _⟩ | ⟨g', cap', cur, hv, hb, hg, hn, hm, hc, ht⟩
    · cases hv
    · injection hv with hv h2 h3
      injection hv with hv
      injection hv with hv
      subst hv h3
      refine .inr ⟨g, cap, putCells (Value.int .i64) 0 zs'.toArray cur, rfl, hb, ?_, hn, hm, ?_, ?_⟩
      · rw [hheap, if_pos hlt, if_pos rfl, hg]
        rfl
      · unfold putCells
        rw [Array.size_mapIdx]
        exact hc
      · apply List.ext_getElem?
        intro j
        rw [List.getElem?_take, Nat.mul_one]
        by_cases hj : j < zs.length
        · rw [if_pos hj, Array.getElem?_toList]
          unfold putCells
          rw [Array.getElem?_mapIdx, Array.getElem?_eq_getElem (show j < cur.size by rw [hc]; omega), Option.map_some, if_pos (by simp; omega), Nat.sub_zero, getElem!_pos _ j (by simp; omega), List.getElem?_map, List.getElem?_eq_getElem (by omega)]
          simp
        · rw [if_neg hj, List.getElem?_eq_none (by rw [List.length_map]; omega)]
  · show w.heap.size ≤ ((w.heap.modify g (onCells (putCells (Value.int .i64) 0 zs'.toArray))) ++ os).size
    simp
  · rw [hheap, if_pos hk, if_neg (fun h => hne (by rw [h]))]
theorem empty_insi (c : Nat) (w : World) : Calls Try.prog 61 #[.slice none 0 c, .int .i64 0, .int .i64 0] w fun e w' => e = .returned (.tuple #[]) ∧ w' = w := by
  go_enter Try.func61, Try.ntmps61
  go_wp2
  go_loop [6] (fun i => i = .int .i64 1) (fun _ => 0)
  case atStart => rfl
  case round =>
    subst hrel
    go_wp2
    go_end0
    exact ⟨rfl, rfl⟩
theorem sort_nil (w : World) : Calls Try.prog 40 #[.slice none 0 0] w fun e w' => e = .returned (.tuple #[]) ∧ w' = w := by
  go_enter Try.func40, Try.ntmps40
  go_wp2
  go_loop [1, 2] (fun a b => a = .int .i64 0 ∧ b = .int .i64 0) (fun _ _ => 0)
  case atStart => exact ⟨rfl, rfl⟩
  case round =>
    obtain ⟨rfl, rfl⟩ := hrel
    go_wp2_with (go_at_call 61; refine (empty_insi _ _).mono ?_; rintro e w' ⟨rfl, rfl⟩)
    refine bodyPost_ret (v := .tuple #[]) (by simp [results, Try.results49, go_sem]) rfl ?_
    dsimp only
    go_wp2
    go_end0
    exact ⟨rfl, rfl⟩
theorem sort_any (base : Nat) (v : Value) (e : TypeId) (zs : List Int) (w : World) (h : w.ownsRow base e 1 v zs.length (zs.map (Value.int .i64))) (hl : zs.length < 1000000) :
    Calls Try.prog 40 #[v] w fun e' w' => e' = .returned (.tuple #[]) ∧ w'.ownsRow base e 1 v zs.length ((zs.mergeSort fun x y => decide (x ≤ y)).map (Value.int .i64)) ∧ w.grownBy w' v.ownBlock := by
  rcases h.2 with ⟨rfl, hn⟩ | ⟨g, cap, cur, rfl, _⟩
  · obtain rfl : zs = [] := List.length_eq_zero_iff.1 hn
    refine (sort_nil w).mono ?_
    rintro e' w' ⟨rfl, rfl⟩
    exact ⟨rfl, by rw [List.mergeSort_nil]; exact h, World.grownBy.refl _ _⟩
  · have hc := Any.slices_Sort_int Try.lays189 g 0 cap zs w (holds_ints h) (h.lt g rfl).2 (by omega)
    refine Calls.mono hc ?_
    rintro e' w' ⟨rfl, n, os, rfl⟩
    obtain ⟨h1, h2⟩ := ints_sorted h (List.length_mergeSort _) n os
    exact ⟨rfl, h1, h2⟩
end Go.Proofs.Ytammeedmccblcaa.Cs
