/-
  What the reference's flags are of an attempt. Conditions: none.
-/
import Derived.Test.YtammeedmccblcaaCsFlg
import Derived.Test.YtammeedmccblcaaCsThP
namespace Go.Proofs.Ytammeedmccblcaa.Cs

theorem pick_set_perm : ∀ (l : List Cn) (f : List Bool) (i : Nat) (c : Cn), l[i]? = some c → f[i]? = some false → (pick l (f.set i true)).Perm (pick l f ++ [c])
  | [], _, i, _, h, _ => by simp at h
  | a :: l, [], i, c, _, h => by simp at h
  | a :: l, b :: f, 0, c, h, hb => by
    obtain rfl : a = c := by simpa using h
    obtain rfl : b = false := by simpa using hb
    show (a :: pick l f).Perm (pick l f ++ [a])
    exact (List.perm_append_singleton a (pick l f)).symm
  | a :: l, b :: f, i + 1, c, h, hb => by
    have ih := pick_set_perm l f i c (by simpa using h) (by simpa using hb)
    rw [List.set_cons_succ]
    cases b
    · exact ih
    · exact ih.cons a
theorem pick_set_sum {l : List Cn} {f : List Bool} {i : Nat} {c : Cn} (hc : l[i]? = some c) (hf : f[i]? = some false) : sumD (pick l (f.set i true)) = sumD (pick l f) + c.1 := by
  rw [sumD_perm (pick_set_perm l f i c hc hf), sumD_append]
  show _ + (c.1 + 0) = _
  rw [Int.add_zero]
structure Rel (AC : List Cn) (S : Att) (b : List Cn × Int) (f bs : List Bool) (rd : Bool) : Prop where
  lf : f.length = AC.length
  lb : bs.length = AC.length
  p : (pick AC f).Perm S.P
  q : (pick AC bs).Perm (betterF S b).1
  s : sumD (pick AC bs) = (betterF S b).2
  r : rd = decide (S.m ≠ endless)
  e : S.m ≤ endless
  g : S.f ≤ S.P.length
theorem Rel.sum {AC : List Cn} {S : Att} {b : List Cn × Int} {f bs : List Bool} {rd : Bool} (h : Rel AC S b f bs rd) : sumD (pick AC f) = sumD S.P := sumD_perm h.p
theorem Rel.start {AC : List Cn} {b : List Cn × Int} {f bs : List Bool} (lf : f.length = AC.length) (hf : pick AC f = []) (lb : bs.length = AC.length) (hq : (pick AC bs).Perm b.1) (hs : sumD (pick AC bs) = b.2) (hb : b.2 ≤ endless) : Rel AC att0 b f bs false := by
  have hbt : betterF att0 b = b := if_neg (by show ¬ endless < b.2; omega)
  exact ⟨lf, lb, by rw [hf]; exact List.Perm.refl _, by rw [hbt]; exact hq, by rw [hbt]; exact hs, by simp [att0], Int.le_refl _, Nat.le_refl _⟩
theorem Rel.under {AC : List Cn} {S : Att} {b : List Cn × Int} {f bs : List Bool} {rd : Bool} {i : Nat} {c : Cn} {need : Int} (h : Rel AC S b f bs rd) (hc : AC[i]? = some c) (hf : f[i]? = some false) (hs : sumD S.P + c.1 < need) : Rel AC (pickA need S c) b (f.set i true) bs rd := by
  have e : pickA need S c = { S with P := S.P ++ [c] } := if_pos hs
  rw [e]
  have hg := h.g
  have hbt : betterF { S with P := S.P ++ [c] } b = betterF S b := by
    unfold betterF coinsA
    show (if S.m < b.2 then ((S.P ++ [c]).take S.f ++ [S.l], S.m) else b) = _
    rw [List.take_append_of_le_length hg]
  refine ⟨by rw [List.length_set]; exact h.lf, h.lb, (pick_set_perm _ _ _ _ hc hf).trans (h.p.append_right [c]), by rw [hbt]; exact h.q, by rw [hbt]; exact h.s, h.r, h.e, ?_⟩
  show S.f ≤ (S.P ++ [c]).length
  rw [List.length_append]
  omega
theorem Rel.over {AC : List Cn} {S : Att} {b : List Cn × Int} {f bs : List Bool} {rd : Bool} {i : Nat} {c : Cn} {need : Int} (h : Rel AC S b f bs rd) (hc : AC[i]? = some c) (hf : f[i]? = some false) (hs : ¬ sumD S.P + c.1 < need) (he : sumD S.P + c.1 < endless) : Rel AC (pickA need S c) b f (if sumD S.P + c.1 < sumD (pick AC bs) then f.set i true else bs) true := by
  have e : pickA need S c = if sumD S.P + c.1 < S.m then { S with f := S.P.length, l := c, m := sumD S.P + c.1 } else S := if_neg hs
  rw [e]
  have hp := (pick_set_perm _ _ _ _ hc hf).trans (h.p.append_right [c])
  have hps : sumD (pick AC (f.set i true)) = sumD S.P + c.1 := by rw [pick_set_sum hc hf, h.sum]
  have hcur := h.s
  have hq := h.q
  unfold betterF at hcur hq
  by_cases hm : sumD S.P + c.1 < S.m
  · rw [if_pos hm]
    have hbt : betterF { S with f := S.P.length, l := c, m := sumD S.P + c.1 } b = if sumD S.P + c.1 < b.2 then (S.P ++ [c], sumD S.P + c.1) else b := by
      show (if sumD S.P + c.1 < b.2 then (S.P.take S.P.length ++ [c], sumD S.P + c.1) else b) = _
      rw [List.take_length]
    have hr : true = decide (sumD S.P + c.1 ≠ endless) := (decide_eq_true (by omega)).symm
    by_cases hb : sumD S.P + c.1 < sumD (pick AC bs)
    · rw [if_pos hb]
      have hb2 : sumD S.P + c.1 < b.2 := by
        rw [hcur] at hb
        split at hb
        · omega
        · exact hb
      rw [if_pos hb2] at hbt
      exact ⟨h.lf, by rw [List.length_set]; exact h.lf, h.p, by rw [hbt]; exact hp, by rw [hbt]; exact hps, hr, by show sumD S.P + c.1 ≤ endless; omega, Nat.le_refl _⟩
    · rw [if_neg hb]
      have hb2 : ¬ S.m < b.2 := fun q => by rw [hcur, if_pos q] at hb; exact hb hm
      rw [if_neg hb2] at hcur hq
      rw [if_neg (by omega)] at hbt
      exact ⟨h.lf, h.lb, h.p, by rw [hbt]; exact hq, by rw [hbt]; exact hcur, hr, by show sumD S.P + c.1 ≤ endless; omega, Nat.le_refl _⟩
  · rw [if_neg hm]
    have hb : ¬ sumD S.P + c.1 < sumD (pick AC bs) := by
      rw [hcur]
      split
      · exact hm
      · omega
    rw [if_neg hb]
    exact ⟨h.lf, h.lb, h.p, h.q, h.s, (decide_eq_true (by omega)).symm, h.e, h.g⟩

/-! The small ones, those that were not thrown. -/
def small (need : Int) (c : Cn) : Bool := decide (c.1 < need)
def great (need : Int) (c : Cn) : Bool := !decide (c.1 < need)
theorem filter_next (p : Cn → Bool) (l : List Cn) {i : Nat} {c : Cn} (h : l[i]? = some c) : (l.take (i + 1)).filter p = (l.take i).filter p ++ (if p c then [c] else []) := by
  rw [List.take_add_one, h, Option.toList_some, List.filter_append]
  congr 1
  cases hp : p c <;> simp [hp]
theorem drop_small (need : Int) : ∀ l : List Cn, Desc l → l.drop (greatN need l) = l.filter (small need)
  | [], _ => rfl
  | c :: l, h => by
    have h' := List.pairwise_cons.1 h
    unfold greatN
    by_cases hc : c.1 < need
    · rw [if_pos hc, List.drop_zero, List.filter_cons_of_pos (by simp [small, hc])]
      congr 1
      exact (List.filter_eq_self.2 fun d hd => by have := h'.1 d hd; exact decide_eq_true (by omega)).symm
    · rw [if_neg hc, List.drop_succ_cons, List.filter_cons_of_neg (by simp [small, hc])]
      exact drop_small need l h'.2
theorem take_great (need : Int) : ∀ l : List Cn, Desc l → l.take (greatN need l) = l.filter (great need)
  | [], _ => rfl
  | c :: l, h => by
    have h' := List.pairwise_cons.1 h
    unfold greatN
    by_cases hc : c.1 < need
    · rw [if_pos hc, List.take_zero, List.filter_cons_of_neg (by simp [great, hc])]
      exact (List.filter_eq_nil_iff.2 fun d hd => by have := h'.1 d hd; simp [great]; omega).symm
    · rw [if_neg hc, List.take_succ_cons, List.filter_cons_of_pos (by simp [great, hc])]
      congr 1
      exact take_great need l h'.2
theorem least_snoc (l : List Cn) (c : Cn) : leastD (l ++ [c]) = some (match leastD l with | none => c | some m => leastF m c) := by
  cases l with
  | nil => rfl
  | cons a l =>
    show some ((l ++ [c]).foldl leastF a) = some (leastF (l.foldl leastF a) c)
    rw [List.foldl_append]
    rfl
def smallB (need : Int) (l : List Cn) : List Bool := l.map (small need)
theorem smallB_at {need : Int} {l : List Cn} {i : Nat} {c : Cn} (h : l[i]? = some c) : (smallB need l)[i]? = some (small need c) := by unfold smallB; rw [List.getElem?_map, h]; rfl
theorem pick_small (need : Int) : ∀ l : List Cn, pick l (smallB need l) = l.filter (small need)
  | [] => rfl
  | c :: l => by
    have ih := pick_small need l
    show (if small need c then c :: pick l (smallB need l) else pick l (smallB need l)) = _
    rw [ih]
    cases h : small need c <;> simp [h]
def freeB (sm f : List Bool) : List Bool := List.zipWith (fun s t => s && !t) sm f
def oth (need : Int) (AC : List Cn) (f : List Bool) (i : Nat) : List Cn := pick (AC.take i) ((freeB (smallB need AC) f).take i)
theorem oth_zero (need : Int) (AC : List Cn) (f : List Bool) : oth need AC f 0 = [] := by unfold oth; cases AC <;> rfl
theorem oth_next {need : Int} {AC : List Cn} {f : List Bool} {i : Nat} {c : Cn} {t : Bool} (lf : f.length = AC.length) (hc : AC[i]? = some c) (hf : f[i]? = some t) : oth need AC f (i + 1) = oth need AC f i ++ (if small need c && !t then [c] else []) := by
  unfold oth
  refine pick_take ?_ hc ?_
  · unfold freeB smallB
    rw [List.length_zipWith, List.length_map, lf, Nat.min_self]
  · unfold freeB
    rw [List.getElem?_zipWith, smallB_at hc, hf]
theorem oth_set (need : Int) (AC : List Cn) (f : List Bool) (i : Nat) (b : Bool) : oth need AC (f.set i b) i = oth need AC f i := by
  unfold oth freeB
  rw [List.take_zipWith, List.take_zipWith, List.take_set_of_le (Nat.le_refl i)]
theorem set_drop {f : List Bool} {i : Nat} (b : Bool) : (f.set i b).drop (i + 1) = f.drop (i + 1) := List.drop_set_of_lt (Nat.lt_succ_self i)
theorem drop_get {f g : List Bool} {i : Nat} (h : f.drop i = g.drop i) : f[i]? = g[i]? := by
  have q := congrArg (fun l => l[0]?) h
  simpa using q
theorem drop_more {f g : List Bool} {i : Nat} (h : f.drop i = g.drop i) : f.drop (i + 1) = g.drop (i + 1) := by
  have q := congrArg (fun l => l.drop 1) h
  simpa using q
theorem places_perm {l m : List Cn} (h : l.Perm m) : placesF l = placesF m := by
  refine List.Perm.eq_of_pairwise (le := fun x y : Nat => x ≤ y) (fun a b _ _ h1 h2 => Nat.le_antisymm h1 h2) (placesF_rise l) (placesF_rise m) ?_
  exact (placesF_perm l).trans ((h.map _).trans (placesF_perm m).symm)
end Go.Proofs.Ytammeedmccblcaa.Cs
