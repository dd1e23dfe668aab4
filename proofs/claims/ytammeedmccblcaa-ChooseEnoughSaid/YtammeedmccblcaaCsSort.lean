/-
  The library's stable sort over coins, as far as nineteen of them. Conditions: at most nineteen coins in a row of the caller's own.
-/
import Derived.Test.YtammeedmccblcaaCsFn
import Derived.Test.YtammeedmccblcaaShelf
namespace Go.Proofs.Ytammeedmccblcaa.Cs
open Go.RowKit Go.Sort Go.Shelf

theorem lt_by (x y : Cn) : ltOf byF x y = decide (y.1 < x.1) := by
  unfold ltOf byF cmpF
  by_cases h1 : y.1 < x.1
  · rw [if_pos h1]; simp [h1]
  · rw [if_neg h1]
    split <;> simp [h1]
theorem get_list (l : List Cn) (j : Nat) (c : Cn) (h : l[j]? = some c) : l.toArray[j]! = c := by
  obtain ⟨hj, rfl⟩ := List.getElem?_eq_some_iff.1 h
  rw [getElem!_pos l.toArray j (by simpa using hj)]
  simp
theorem swp_list (P S : List Cn) (p x : Cn) : (swp (P ++ p :: x :: S).toArray (P.length + 1) P.length) = (P ++ x :: p :: S).toArray := by
  have h0 : (P ++ p :: x :: S).toArray[P.length]! = p := get_list _ _ _ (by rw [List.getElem?_append_right (Nat.le_refl _), Nat.sub_self]; rfl)
  have h1 : (P ++ p :: x :: S).toArray[P.length + 1]! = x := get_list _ _ _ (by rw [List.getElem?_append_right (by omega), show P.length + 1 - P.length = 1 by omega]; rfl)
  unfold swp
  rw [h0, h1, List.setIfInBounds_toArray, List.setIfInBounds_toArray, List.set_append_right _ _ (by omega), show P.length + 1 - P.length = 1 by omega, List.set_append_right _ _ (by omega), Nat.sub_self]
  rfl
theorem inner_list (x : Cn) : ∀ (n : Nat) (P S : List Cn), P.length = n → Desc P → insInner (ltOf byF) 0 n (P ++ x :: S).toArray = (insD x P ++ S).toArray
  | 0, P, S, h, _ => by
    obtain rfl : P = [] := List.length_eq_zero_iff.1 h
    rfl
  | n + 1, P, S, h, hd => by
    obtain ⟨P', p, rfl⟩ : ∃ P' p, P = P' ++ [p] := ⟨P.dropLast, P.getLast (by intro q; rw [q] at h; cases h), (List.dropLast_concat_getLast _).symm⟩
    have hl : P'.length = n := by rw [List.length_append] at h; simpa using h
    have hdd := List.pairwise_append.1 hd
    have h0 : (P' ++ [p] ++ x :: S).toArray[n]! = p := get_list _ _ _ (by rw [List.append_assoc, List.getElem?_append_right (by omega), hl, Nat.sub_self]; rfl)
    have h1 : (P' ++ [p] ++ x :: S).toArray[n + 1]! = x := get_list _ _ _ (by rw [List.append_assoc, List.getElem?_append_right (by omega), hl, show n + 1 - n = 1 by omega]; rfl)
    unfold insInner
    rw [h0, h1, lt_by]
    by_cases hx : p.1 < x.1
    · rw [if_pos (by simp [hx]), List.append_assoc, List.singleton_append, show n = P'.length from hl.symm, swp_list, inner_list x P'.length P' (p :: S) rfl hdd.1, insD_last x p hx, List.append_assoc, List.singleton_append]
    · rw [if_neg (by simp [hx]), insD_end]
      · rw [List.append_assoc (P' ++ [p]), List.singleton_append]
      · intro a ha
        rcases List.mem_append.1 ha with ha | ha
        · have := hdd.2.2 a ha p (by simp)
          omega
        · obtain rfl : a = p := by simpa using ha
          omega
theorem outer_list : ∀ (k : Nat) (A S : List Cn), S.length = k → insOuter (ltOf byF) 0 (A.length + k) A.length (sortD A ++ S).toArray = (sortD (A ++ S)).toArray
  | 0, A, S, h => by
    obtain rfl : S = [] := List.length_eq_zero_iff.1 h
    rw [insOuter, if_neg (by omega), List.append_nil, List.append_nil]
  | k + 1, A, x :: S, h => by
    have hs : (sortD A).length = A.length := (sortD_perm A).length_eq
    rw [insOuter, if_pos (by omega), inner_list x A.length (sortD A) S hs (sortD_desc A), ← sortD_snoc]
    have ih := outer_list k (A ++ [x]) S (by simpa using h)
    rw [List.length_append, List.length_singleton, List.append_assoc, List.singleton_append, show A.length + 1 + k = A.length + (k + 1) by omega] at ih
    exact ih
theorem insertion_list : ∀ l : List Cn, insertionSort (ltOf byF) l.toArray 0 l.length = (sortD l).toArray
  | [] => by unfold insertionSort; rw [insOuter, if_neg (by simp)]; rfl
  | x :: l => by
    have h := outer_list l.length [x] l rfl
    unfold insertionSort
    rw [List.length_cons, show l.length + 1 = [x].length + l.length by rw [List.length_singleton]; omega]
    exact h

/-! The row in memory. -/
theorem flatK_list (l : List Cn) : (flatK cnC 2 l.toArray).toList = l.flatMap cnC := by
  apply List.ext_getElem?
  intro t
  have hfl : (l.flatMap cnC).length = l.length * 2 := flat_len cnC 2 l (fun _ _ => rfl)
  by_cases ht : t < l.length * 2
  · have hq : t / 2 < l.length := by omega
    obtain ⟨c, hc⟩ : ∃ c, l[t / 2]? = some c := ⟨_, List.getElem?_eq_getElem hq⟩
    have hcl : t % 2 < (cnC c).length := by rw [cnC_length]; omega
    have h2 := flat_in cnC 2 l (fun _ _ => rfl) (t / 2) c hc (t % 2) _ (List.getElem?_eq_getElem hcl)
    rw [show t / 2 * 2 + t % 2 = t by omega] at h2
    have h3 := get_flatK cnC 2 l.toArray t (by simpa using ht)
    rw [get_list l _ c hc, getElem!_pos (flatK cnC 2 l.toArray) t (by simpa using ht), getElem!_pos (cnC c) _ hcl] at h3
    rw [h2, Array.getElem?_toList, Array.getElem?_eq_getElem (by simpa using ht), h3]
  · rw [List.getElem?_eq_none (by simp; omega), List.getElem?_eq_none (by omega)]
theorem holds_own {w : World} {base : Nat} {e : TypeId} {g cap : Nat} {l : List Cn} (h : w.ownsRow base e 2 (.slice (some ⟨g, 0, none⟩) l.length cap) l.length (l.flatMap cnC)) : HoldsK cnC 2 w g 0 l.toArray := by
  intro j hj
  have hj' : j < (l.flatMap cnC).length := by rw [← flatK_list]; simpa using hj
  have hc := h.cells (g := g) rfl j _ (List.getElem?_eq_getElem hj')
  rw [Addr.add_mid] at hc
  refine ⟨?_, ?_⟩
  · rw [hc]
    congr 1
    have h2 : (flatK cnC 2 l.toArray).toList[j]? = (l.flatMap cnC)[j]? := by rw [flatK_list]
    rw [Array.getElem?_toList, List.getElem?_eq_getElem hj', Array.getElem?_eq_getElem hj, Option.some.injEq] at h2
    rw [getElem!_pos _ j hj]
    exact h2.symm
  · rcases h.2 with ⟨hv, _⟩ | ⟨g', cap', cur, hv, _, hg, _⟩
    · cases hv
    · injection hv with hv _ _
      injection hv with hv
      injection hv with hv
      subst hv
      simp [World.frozen?, hg]
theorem own_sorted {w : World} {base : Nat} {e : TypeId} {g cap : Nat} {l l' : List Cn} (h : w.ownsRow base e 2 (.slice (some ⟨g, 0, none⟩) l.length cap) l.length (l.flatMap cnC)) (hl : l'.length = l.length) (m : Nat) (os : Array Obj) :
    (sortWorldK cnC 2 w g 0 m l'.toArray os).ownsRow base e 2 (.slice (some ⟨g, 0, none⟩) l.length cap) l.length (l'.flatMap cnC) ∧ w.grownBy (sortWorldK cnC 2 w g 0 m l'.toArray os) (some g) := by
  have hfl : (l'.flatMap cnC).length = l.length * 2 := by rw [flat_len cnC 2 l' (fun _ _ => rfl), hl]
  have hlt := (h.lt g rfl).2
  have hheap : ∀ k, (sortWorldK cnC 2 w g 0 m l'.toArray os).heap[k]? = if k < w.heap.size then (if g = k then (w.heap[k]?).map (onCells (putCells id 0 (flatK cnC 2 l'.toArray))) else w.heap[k]?) else os[k - w.heap.size]? := by
    intro k
    show ((w.heap.modify g (onCells (putCells id 0 (flatK cnC 2 l'.toArray)))) ++ os)[k]? = _
    rw [Array.getElem?_append, Array.size_modify, Array.getElem?_modify]
  refine ⟨⟨hfl, ?_⟩, ⟨rfl, rfl, rfl, ?_, fun k hk hne => ?_⟩⟩
  · rcases h.2 with ⟨hv, _⟩ | ⟨g', cap', cur, hv, hb, hg, hn, hm, hc, ht⟩
    · cases hv
    · injection hv with hv h2 h3
      injection hv with hv
      injection hv with hv
      subst hv h3
      refine .inr ⟨g, cap, putCells id 0 (flatK cnC 2 l'.toArray) cur, rfl, hb, ?_, hn, hm, ?_, ?_⟩
      · rw [hheap, if_pos hlt, if_pos rfl, hg]
        rfl
      · unfold putCells
        rw [Array.size_mapIdx]
        exact hc
      · have hsz : (flatK cnC 2 l'.toArray).size = l.length * 2 := by rw [size_flatK]; simp [hl]
        apply List.ext_getElem?
        intro j
        rw [List.getElem?_take]
        by_cases hj : j < l.length * 2
        · rw [if_pos hj, Array.getElem?_toList]
          unfold putCells
          rw [Array.getElem?_mapIdx, Array.getElem?_eq_getElem (show j < cur.size by rw [hc]; have := Nat.mul_le_mul_right 2 hn; omega), Option.map_some, if_pos (by omega), Nat.sub_zero, ← flatK_list, Array.getElem?_toList, Array.getElem?_eq_getElem (by omega), getElem!_pos _ j (by omega)]
          rfl
        · rw [if_neg hj, List.getElem?_eq_none (by omega)]
  · show w.heap.size ≤ ((w.heap.modify g (onCells (putCells id 0 (flatK cnC 2 l'.toArray)))) ++ os).size
    simp
  · rw [hheap, if_pos hk, if_neg (fun h => hne (by rw [h]))]
end Go.Proofs.Ytammeedmccblcaa.Cs
