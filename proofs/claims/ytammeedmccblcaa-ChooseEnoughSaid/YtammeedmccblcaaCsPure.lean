/-
  Coins by what they bring, in plain words: the order, the totals, the searches. Conditions: none.
-/
import Derived.Test.YtammeedmccblcaaAmtPure
namespace Go.Proofs.Ytammeedmccblcaa.Cs

abbrev Cn := Int × Nat
def worthF (rate v sz : Int) : Int := if (feeS rate sz).2 = 0 ∧ amtB v = true then (if 0 ≤ v - (feeS rate sz).1 then v - (feeS rate sz).1 else 0) else 0
theorem worth_bd (rate v sz : Int) : 0 ≤ worthF rate v sz ∧ worthF rate v sz ≤ 2100000000000000 := by
  unfold worthF
  split
  · next h =>
    have hv := amtB_true h.2
    have hf : feeS rate sz = ((feeS rate sz).1, 0) := Prod.ext rfl h.1
    have hf0 := amtB_true (feeS_ok hf).2.2.2.2
    split <;> omega
  · omega

/-! The order. -/
def insD (x : Cn) : List Cn → List Cn
  | [] => [x]
  | a :: l => if x.1 ≤ a.1 then a :: insD x l else x :: a :: l
def sortD (l : List Cn) : List Cn := l.foldl (fun acc x => insD x acc) []
def Desc (l : List Cn) : Prop := l.Pairwise (fun a b => b.1 ≤ a.1)
theorem insD_perm (x : Cn) : ∀ l : List Cn, (insD x l).Perm (x :: l)
  | [] => List.Perm.refl _
  | a :: l => by
    unfold insD
    split
    · exact ((insD_perm x l).cons a).trans (List.Perm.swap x a l)
    · exact List.Perm.refl _
theorem insD_desc (x : Cn) : ∀ l : List Cn, Desc l → Desc (insD x l)
  | [], _ => List.pairwise_singleton _ _
  | a :: l, h => by
    have h' := List.pairwise_cons.1 h
    unfold insD
    split
    · next hx =>
      refine List.pairwise_cons.2 ⟨fun b hb => ?_, insD_desc x l h'.2⟩
      rcases List.mem_cons.1 ((insD_perm x l).mem_iff.1 hb) with rfl | hb
      · exact hx
      · exact h'.1 b hb
    · next hx =>
      refine List.pairwise_cons.2 ⟨fun b hb => ?_, h⟩
      rcases List.mem_cons.1 hb with rfl | hb
      · omega
      · have := h'.1 b hb
        omega
theorem sortD_snoc (l : List Cn) (x : Cn) : sortD (l ++ [x]) = insD x (sortD l) := by unfold sortD; rw [List.foldl_append]; rfl
theorem foldD_perm : ∀ (l acc : List Cn), (l.foldl (fun acc x => insD x acc) acc).Perm (l ++ acc)
  | [], acc => List.Perm.refl _
  | x :: l, acc => by
    rw [List.foldl_cons]
    refine (foldD_perm l _).trans ?_
    refine ((insD_perm x acc).append_left l).trans ?_
    exact (List.perm_middle).trans (List.Perm.refl _)
theorem sortD_perm (l : List Cn) : (sortD l).Perm l := by
  have h := foldD_perm l []
  rw [List.append_nil] at h
  exact h
theorem foldD_desc : ∀ (l acc : List Cn), Desc acc → Desc (l.foldl (fun acc x => insD x acc) acc)
  | [], _, h => h
  | x :: l, acc, h => foldD_desc l _ (insD_desc x acc h)
theorem sortD_desc (l : List Cn) : Desc (sortD l) := foldD_desc l [] List.Pairwise.nil
theorem insD_last (x p : Cn) (h : p.1 < x.1) : ∀ P : List Cn, insD x (P ++ [p]) = insD x P ++ [p]
  | [] => by
    show insD x [p] = [x] ++ [p]
    unfold insD
    rw [if_neg (by omega)]
    rfl
  | a :: P => by
    rw [List.cons_append]
    unfold insD
    rw [insD_last x p h P]
    split <;> rfl
theorem insD_end (x : Cn) : ∀ P : List Cn, (∀ a ∈ P, x.1 ≤ a.1) → insD x P = P ++ [x]
  | [], _ => rfl
  | a :: P, h => by
    unfold insD
    rw [if_pos (h a (by simp)), insD_end x P (fun b hb => h b (by simp [hb]))]
    rfl
/-- Behind k of its values: where the next one goes, seen from the front. -/
theorem insD_at (x : Cn) : ∀ (P S : List Cn), (∀ a ∈ P, x.1 ≤ a.1) → (∀ b, S.head? = some b → b.1 < x.1) → insD x (P ++ S) = P ++ x :: S
  | [], [], _, _ => rfl
  | [], b :: S, _, h => by
    show insD x (b :: S) = x :: b :: S
    unfold insD
    have := h b rfl
    rw [if_neg (by omega)]
  | a :: P, S, h, hs => by
    rw [List.cons_append]
    unfold insD
    rw [if_pos (h a (by simp)), insD_at x P S (fun b hb => h b (by simp [hb])) hs]
    rfl

/-! A list's coins with their places. -/
def dealF (rate : Int) : Nat → List (Int × Int) → List Cn
  | _, [] => []
  | i, c :: l => if 0 < worthF rate c.1 c.2 then (worthF rate c.1 c.2, i) :: dealF rate (i + 1) l else dealF rate (i + 1) l
def dealt1 (rate : Int) (i : Nat) (c : Int × Int) : List Cn := if 0 < worthF rate c.1 c.2 then [(worthF rate c.1 c.2, i)] else []
theorem dealF_snoc (rate : Int) (c : Int × Int) : ∀ (l : List (Int × Int)) (i : Nat), dealF rate i (l ++ [c]) = dealF rate i l ++ dealt1 rate (i + l.length) c
  | [], i => by
    show dealF rate i [c] = [] ++ dealt1 rate (i + 0) c
    unfold dealF dealt1 dealF
    split <;> rfl
  | a :: l, i => by
    rw [List.cons_append]
    unfold dealF
    rw [dealF_snoc rate c l (i + 1), List.length_cons, show i + 1 + l.length = i + (l.length + 1) by omega]
    split <;> rfl
theorem dealF_take (rate : Int) (l : List (Int × Int)) {k : Nat} {c : Int × Int} (h : l[k]? = some c) : dealF rate 0 (l.take (k + 1)) = dealF rate 0 (l.take k) ++ dealt1 rate k c := by
  have hk := (List.getElem?_eq_some_iff.1 h).1
  rw [List.take_add_one, h, Option.toList_some, dealF_snoc, Nat.zero_add, List.length_take, Nat.min_eq_left (by omega)]
theorem dealF_length (rate : Int) : ∀ (l : List (Int × Int)) (i : Nat), (dealF rate i l).length ≤ l.length
  | [], _ => Nat.le_refl _
  | c :: l, i => by
    unfold dealF
    have := dealF_length rate l (i + 1)
    split
    · rw [List.length_cons, List.length_cons]
      omega
    · rw [List.length_cons]
      omega
theorem dealF_mem (rate : Int) : ∀ (l : List (Int × Int)) (i : Nat) (x : Cn), x ∈ dealF rate i l → ∃ c, i ≤ x.2 ∧ l[x.2 - i]? = some c ∧ x.1 = worthF rate c.1 c.2 ∧ 0 < x.1
  | [], _, _, h => by cases h
  | c :: l, i, x, h => by
    have key : x ∈ dealF rate (i + 1) l → ∃ c', i ≤ x.2 ∧ (c :: l)[x.2 - i]? = some c' ∧ x.1 = worthF rate c'.1 c'.2 ∧ 0 < x.1 := fun h => by
      obtain ⟨c', h1, h2, h3⟩ := dealF_mem rate l (i + 1) x h
      refine ⟨c', by omega, ?_, h3⟩
      rw [show x.2 - i = (x.2 - (i + 1)) + 1 by omega]
      exact h2
    unfold dealF at h
    split at h
    · next hw =>
      rcases List.mem_cons.1 h with rfl | h
      · exact ⟨c, Nat.le_refl _, by simp, rfl, hw⟩
      · exact key h
    · exact key h
theorem dealF_rise (rate : Int) : ∀ (l : List (Int × Int)) (i : Nat), (dealF rate i l).Pairwise (fun a b => a.2 < b.2)
  | [], _ => List.Pairwise.nil
  | c :: l, i => by
    unfold dealF
    split
    · refine List.pairwise_cons.2 ⟨fun b hb => ?_, dealF_rise rate l (i + 1)⟩
      obtain ⟨_, h, _⟩ := dealF_mem rate l (i + 1) b hb
      exact h
    · exact dealF_rise rate l (i + 1)

/-! Totals. -/
def sumD : List Cn → Int
  | [] => 0
  | c :: l => c.1 + sumD l
theorem sumD_append : ∀ l m : List Cn, sumD (l ++ m) = sumD l + sumD m
  | [], m => by show sumD m = 0 + sumD m; rw [Int.zero_add]
  | c :: l, m => by
    rw [List.cons_append]
    show c.1 + sumD (l ++ m) = c.1 + sumD l + sumD m
    rw [sumD_append l m, Int.add_assoc]
theorem sumD_perm {l m : List Cn} (h : l.Perm m) : sumD l = sumD m := by
  induction h with
  | nil => rfl
  | cons x _ ih => unfold sumD; rw [ih]
  | swap x y l => unfold sumD; unfold sumD; omega
  | trans _ _ h1 h2 => rw [h1, h2]
def Pos (l : List Cn) : Prop := ∀ c ∈ l, 0 < c.1 ∧ c.1 ≤ 2100000000000000
theorem Pos.tail {c : Cn} {l : List Cn} (h : Pos (c :: l)) : Pos l := fun b hb => h b (by simp [hb])
theorem Pos.perm {l m : List Cn} (h : Pos l) (hp : l.Perm m) : Pos m := fun c hc => h c (hp.mem_iff.2 hc)
theorem sumD_nonneg : ∀ {l : List Cn}, Pos l → 0 ≤ sumD l
  | [], _ => Int.le_refl _
  | c :: l, h => by
    have := sumD_nonneg h.tail
    have := (h c (by simp)).1
    unfold sumD
    omega
theorem dealF_pos (rate : Int) (l : List (Int × Int)) (i : Nat) : Pos (dealF rate i l) := fun c hc => by
  obtain ⟨d, _, _, h, h0⟩ := dealF_mem rate l i c hc
  have := (worth_bd rate d.1 d.2).2
  omega
theorem addF_sum : ∀ {l : List Cn}, Pos l → ∀ n : Int, 0 ≤ n → n ≤ 2100000000000000 → addF n (l.map (·.1)) = if n + sumD l ≤ 2100000000000000 then (n + sumD l, 0) else (0, 6)
  | [], _, n, h0, h1 => by
    show (n, (0 : Int)) = _
    unfold sumD
    rw [Int.add_zero, if_pos h1]
  | c :: l, h, n, h0, h1 => by
    have hc := h c (by simp)
    have hs := sumD_nonneg h.tail
    rw [List.map_cons]
    unfold sumD
    by_cases hm : n + c.1 ≤ 2100000000000000
    · rw [addF_go (amtB_mk (by omega) hc.2) (amtB_mk (by omega) hm), addF_sum h.tail _ (by omega) hm, ← Int.add_assoc]
    · rw [addF_no (.inr (amtB_not (by omega))), if_neg (by omega)]
def handF (rate : Int) (l : List (Int × Int)) : List Cn := sortD (dealF rate 0 l)
theorem handF_pos (rate : Int) (l : List (Int × Int)) : Pos (handF rate l) := (dealF_pos rate l 0).perm (sortD_perm _).symm
theorem handF_sum (rate : Int) (l : List (Int × Int)) : sumD (handF rate l) = sumD (dealF rate 0 l) := sumD_perm (sortD_perm _)
theorem handF_length (rate : Int) (l : List (Int × Int)) : (handF rate l).length ≤ l.length := by
  unfold handF
  rw [(sortD_perm _).length_eq]
  exact dealF_length rate l 0

/-! What a task counts as. -/
def lowF (n : Int) : Int := if 0 ≤ n then n else 0
def triesF (n : Int) : Int := if lowF n ≤ 100000 then lowF n else 100000
theorem lowF_bd (n : Int) : 0 ≤ lowF n := by unfold lowF; split <;> omega
theorem triesF_bd (n : Int) : 0 ≤ triesF n ∧ triesF n ≤ 100000 := by have := lowF_bd n; unfold triesF; split <;> omega

/-! Places in their order. -/
def insA (x : Nat) : List Nat → List Nat
  | [] => [x]
  | a :: l => if a < x then a :: insA x l else x :: a :: l
def placesF (l : List Cn) : List Nat := l.foldl (fun acc c => insA c.2 acc) []
theorem insA_perm (x : Nat) : ∀ l : List Nat, (insA x l).Perm (x :: l)
  | [] => List.Perm.refl _
  | a :: l => by
    unfold insA
    split
    · exact ((insA_perm x l).cons a).trans (List.Perm.swap x a l)
    · exact List.Perm.refl _
theorem insA_rise (x : Nat) : ∀ l : List Nat, l.Pairwise (· ≤ ·) → (insA x l).Pairwise (· ≤ ·)
  | [], _ => List.pairwise_singleton _ _
  | a :: l, h => by
    have h' := List.pairwise_cons.1 h
    unfold insA
    split
    · next hx =>
      refine List.pairwise_cons.2 ⟨fun b hb => ?_, insA_rise x l h'.2⟩
      rcases List.mem_cons.1 ((insA_perm x l).mem_iff.1 hb) with rfl | hb
      · exact Nat.le_of_lt hx
      · exact h'.1 b hb
    · next hx =>
      refine List.pairwise_cons.2 ⟨fun b hb => ?_, h⟩
      rcases List.mem_cons.1 hb with rfl | hb
      · omega
      · have := h'.1 b hb
        omega
theorem foldA_perm : ∀ (l : List Cn) (acc : List Nat), (l.foldl (fun acc c => insA c.2 acc) acc).Perm (l.map (·.2) ++ acc)
  | [], acc => List.Perm.refl _
  | x :: l, acc => by
    rw [List.foldl_cons, List.map_cons]
    refine (foldA_perm l _).trans ?_
    refine ((insA_perm x.2 acc).append_left _).trans ?_
    exact List.perm_middle
theorem foldA_rise : ∀ (l : List Cn) (acc : List Nat), acc.Pairwise (· ≤ ·) → (l.foldl (fun acc c => insA c.2 acc) acc).Pairwise (· ≤ ·)
  | [], _, h => h
  | x :: l, acc, h => foldA_rise l _ (insA_rise x.2 acc h)
theorem placesF_perm (l : List Cn) : (placesF l).Perm (l.map (·.2)) := by
  have h := foldA_perm l []
  rw [List.append_nil] at h
  exact h
theorem placesF_rise (l : List Cn) : (placesF l).Pairwise (· ≤ ·) := foldA_rise l [] List.Pairwise.nil
theorem placesF_snoc (l : List Cn) (c : Cn) : placesF (l ++ [c]) = insA c.2 (placesF l) := by unfold placesF; rw [List.foldl_append]; rfl
theorem placesF_length (l : List Cn) : (placesF l).length = l.length := by rw [(placesF_perm l).length_eq, List.length_map]
/-- Sorted numbers are those places, whatever sorts them. -/
theorem places_sorted (l : List Cn) : ((l.map fun c => (c.2 : Int)).mergeSort fun x y => decide (x ≤ y)) = (placesF l).map fun n : Nat => (n : Int) := by
  refine List.Perm.eq_of_pairwise (le := fun x y : Int => decide (x ≤ y) = true) (fun a b _ _ h1 h2 => ?_) ?_ ?_ ?_
  · have h1 := of_decide_eq_true h1
    have h2 := of_decide_eq_true h2
    omega
  · exact List.pairwise_mergeSort (fun a b c h1 h2 => by have := of_decide_eq_true h1; have := of_decide_eq_true h2; exact decide_eq_true (by omega)) (fun a b => by simp only [Bool.or_eq_true, decide_eq_true_eq]; omega) _
  · rw [List.pairwise_map]
    exact (placesF_rise l).imp (fun h => decide_eq_true (by omega))
  · refine (List.mergeSort_perm _ _).trans ?_
    have h := ((placesF_perm l).map fun n : Nat => (n : Int)).symm
    rw [List.map_map] at h
    exact h

/-! The greatest ones. -/
def cutF (need : Int) : Int → List Cn → Option Nat
  | s, [] => if s < need then none else some 0
  | s, c :: l => if s < need then (cutF need (s + c.1) l).map (· + 1) else some 0

/-! The search. -/
def stepF (need extra : Int) : List Cn → Nat → Int → Int → Bool × List Cn × Nat
  | [], t, s, _ => if t = 0 then (false, [], 0) else (decide (need ≤ s ∧ s - need ≤ extra), [], t - 1)
  | c :: l, t, s, r => if t = 0 then (false, [], 0) else if need ≤ s then (decide (s - need ≤ extra), [], t - 1) else if s + r < need then (false, [], t - 1) else
      match stepF need extra l (t - 1) (s + c.1) (r - c.1) with
      | (true, p, t') => (true, c :: p, t')
      | (false, _, t') => stepF need extra l t' s (r - c.1)
theorem stepF_no (need extra : Int) : ∀ (l : List Cn) (t : Nat) (s r : Int), (stepF need extra l t s r).1 = false → (stepF need extra l t s r).2.1 = []
  | [], t, s, r, h => by
    unfold stepF at h ⊢
    split <;> rfl
  | c :: l, t, s, r, h => by
    unfold stepF at h ⊢
    split
    · rfl
    · split
      · rfl
      · split
        · rfl
        · rw [if_neg (by assumption), if_neg (by assumption), if_neg (by assumption)] at h
          split at h
          · cases h
          · exact stepF_no need extra l _ _ _ h
theorem stepF_le (need extra : Int) : ∀ (l : List Cn) (t : Nat) (s r : Int), (stepF need extra l t s r).2.2 ≤ t
  | [], t, s, r => by
    unfold stepF
    split
    · exact Nat.zero_le _
    · exact Nat.sub_le _ _
  | c :: l, t, s, r => by
    unfold stepF
    split
    · exact Nat.zero_le _
    · split
      · exact Nat.sub_le _ _
      · split
        · exact Nat.sub_le _ _
        · have h1 := stepF_le need extra l (t - 1) (s + c.1) (r - c.1)
          split
          · next p t' h =>
            rw [h] at h1
            show t' ≤ t
            have : t' ≤ t - 1 := h1
            omega
          · next p t' h =>
            rw [h] at h1
            have h2 : t' ≤ t - 1 := h1
            have h3 := stepF_le need extra l t' s (r - c.1)
            omega
theorem sum_prefix (rate : Int) (l : List (Int × Int)) (k : Nat) : sumD (dealF rate 0 (l.take k)) ≤ sumD (dealF rate 0 l) := by
  have key : ∀ (m l : List (Int × Int)) (i : Nat), sumD (dealF rate i l) ≤ sumD (dealF rate i (l ++ m)) := by
    intro m l
    induction l with
    | nil =>
      intro i
      exact sumD_nonneg (dealF_pos rate m i)
    | cons c l ih =>
      intro i
      have h := ih (i + 1)
      rw [List.cons_append]
      unfold dealF
      split
      · unfold sumD
        omega
      · exact h
  have h := key (l.drop k) (l.take k) 0
  rw [List.take_append_drop] at h
  exact h
end Go.Proofs.Ytammeedmccblcaa.Cs
