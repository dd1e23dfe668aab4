/-
  What is chosen is some of the coins, and enough: all four ways. Conditions: what the coins bring together may be.
-/
import Derived.Test.YtammeedmccblcaaCsCh
namespace Go.Proofs.Ytammeedmccblcaa.Cs

def Sub (s H : List Cn) : Prop := ∃ r, (s ++ r).Perm H
theorem Sub.refl (H : List Cn) : Sub H H := ⟨[], by rw [List.append_nil]⟩
theorem Sub.nil (H : List Cn) : Sub [] H := ⟨H, List.Perm.refl _⟩
theorem Sub.trans {a b c : List Cn} (h1 : Sub a b) (h2 : Sub b c) : Sub a c := by
  obtain ⟨r, h1⟩ := h1
  obtain ⟨q, h2⟩ := h2
  exact ⟨r ++ q, by rw [← List.append_assoc]; exact (h1.append_right q).trans h2⟩
theorem Sub.of_sublist {s H : List Cn} (h : s.Sublist H) : Sub s H := by
  induction h with
  | slnil => exact Sub.refl _
  | cons a _ ih =>
    obtain ⟨r, hr⟩ := ih
    exact ⟨a :: r, List.perm_middle.trans (hr.cons a)⟩
  | cons_cons a _ ih =>
    obtain ⟨r, hr⟩ := ih
    exact ⟨r, hr.cons a⟩
theorem Sub.left {a b c : List Cn} (h : Sub (a ++ b) c) : Sub a c := by
  obtain ⟨r, hr⟩ := h
  exact ⟨b ++ r, by rw [← List.append_assoc]; exact hr⟩
theorem Sub.perm {a a' b : List Cn} (h : Sub a b) (p : a'.Perm a) : Sub a' b := by
  obtain ⟨r, hr⟩ := h
  exact ⟨r, (p.append_right r).trans hr⟩
theorem Sub.snoc {a b : List Cn} (h : Sub a b) (c : Cn) : Sub (a ++ [c]) (b ++ [c]) := by
  obtain ⟨r, hr⟩ := h
  refine ⟨r, ?_⟩
  rw [List.append_assoc]
  refine (List.Perm.append_left a List.perm_append_comm).trans ?_
  rw [← List.append_assoc]
  exact hr.append_right [c]
theorem Sub.weak {a b : List Cn} (h : Sub a b) (c : Cn) : Sub a (b ++ [c]) := (h.snoc c).left
theorem Sub.mem {a b : List Cn} (h : Sub a b) {c : Cn} (hc : c ∈ a) : c ∈ b := by
  obtain ⟨r, hr⟩ := h
  exact hr.mem_iff.1 (List.mem_append_left _ hc)
theorem Sub.pos {a b : List Cn} (h : Sub a b) (hp : Pos b) : Pos a := fun c hc => hp c (h.mem hc)
theorem Sub.sum {a b : List Cn} (h : Sub a b) (hp : Pos b) : sumD a ≤ sumD b := by
  obtain ⟨r, hr⟩ := h
  rw [← sumD_perm hr, sumD_append]
  have : 0 ≤ sumD r := sumD_nonneg fun c hc => hp c (hr.mem_iff.1 (List.mem_append_right _ hc))
  omega
theorem Sub.one {c : Cn} {H : List Cn} (h : c ∈ H) : Sub [c] H := Sub.of_sublist (List.singleton_sublist.2 h)

/-! The greatest ones; the search. -/
theorem cutF_good (need : Int) : ∀ (l : List Cn) (s : Int), (∀ k, cutF need s l = some k → need ≤ s + sumD (l.take k)) ∧ (cutF need s l = none → s + sumD l < need)
  | [], s => by
    unfold cutF
    refine ⟨fun k h => ?_, fun h => ?_⟩
    · split at h
      · cases h
      · rw [List.take_nil]
        show need ≤ s + 0
        omega
    · split at h
      · show s + 0 < need
        omega
      · cases h
  | c :: l, s => by
    have ih := cutF_good need l (s + c.1)
    unfold cutF
    refine ⟨fun k h => ?_, fun h => ?_⟩
    · split at h
      · cases hq : cutF need (s + c.1) l with
        | none => rw [hq] at h; cases h
        | some q =>
          rw [hq] at h
          injection h with h
          subst h
          have := ih.1 q hq
          rw [List.take_succ_cons]
          show need ≤ s + (c.1 + sumD (l.take q))
          omega
      · injection h with h
        subst h
        rw [List.take_zero]
        show need ≤ s + 0
        omega
    · split at h
      · cases hq : cutF need (s + c.1) l with
        | none =>
          have := ih.2 hq
          show s + (c.1 + sumD l) < need
          omega
        | some q => rw [hq] at h; cases h
      · cases h
def Good (need : Int) (H : List Cn) (r : Int × List Cn) : Prop := (r.1 = 0 ∧ Sub r.2 H ∧ need ≤ sumD r.2) ∨ (r.1 = 16 ∧ sumD H < need)
theorem large_good (need : Int) (H : List Cn) : Good need H (largeR need H) := by
  have h := cutF_good need H 0
  unfold Good largeR
  cases hc : cutF need 0 H with
  | none =>
    have := h.2 hc
    exact .inr ⟨rfl, by omega⟩
  | some k =>
    have := h.1 k hc
    exact .inl ⟨rfl, Sub.of_sublist (List.take_sublist k H), by show need ≤ sumD (H.take k); omega⟩
theorem stepF_good (need extra : Int) : ∀ (l : List Cn) (t : Nat) (s r : Int), (stepF need extra l t s r).1 = true → (stepF need extra l t s r).2.1.Sublist l ∧ need ≤ s + sumD (stepF need extra l t s r).2.1 ∧ s + sumD (stepF need extra l t s r).2.1 - need ≤ extra
  | [], t, s, r, h => by
    unfold stepF at h ⊢
    split at h
    · cases h
    · next ht =>
      rw [if_neg ht]
      have h := of_decide_eq_true h
      refine ⟨List.Sublist.refl _, ?_, ?_⟩
      · show need ≤ s + 0
        omega
      · show s + 0 - need ≤ extra
        omega
  | c :: l, t, s, r, h => by
    unfold stepF at h ⊢
    split at h
    · cases h
    · next ht =>
      rw [if_neg ht]
      split at h
      · next hn =>
        rw [if_pos hn]
        have h := of_decide_eq_true h
        refine ⟨List.nil_sublist _, ?_, ?_⟩
        · show need ≤ s + 0
          omega
        · show s + 0 - need ≤ extra
          omega
      · next hn =>
        rw [if_neg hn]
        split at h
        · cases h
        · next hr =>
          rw [if_neg hr]
          have h1 := stepF_good need extra l (t - 1) (s + c.1) (r - c.1)
          rcases hs : stepF need extra l (t - 1) (s + c.1) (r - c.1) with ⟨b, p, t'⟩
          rw [hs] at h h1
          cases b
          · have h2 := stepF_good need extra l t' s (r - c.1) h
            exact ⟨h2.1.trans (List.sublist_cons_self c l), h2.2⟩
          · obtain ⟨q1, q2, q3⟩ := h1 rfl
            refine ⟨q1.cons_cons c, ?_, ?_⟩
            · show need ≤ s + (c.1 + sumD p)
              have : need ≤ s + c.1 + sumD p := q2
              omega
            · show s + (c.1 + sumD p) - need ≤ extra
              have : s + c.1 + sumD p - need ≤ extra := q3
              omega
def GoodB (need extra : Int) (H : List Cn) (r : Int × List Cn) : Prop := (r.1 = 0 ∧ Sub r.2 H ∧ need ≤ sumD r.2 ∧ sumD r.2 - need ≤ extra) ∨ r.1 = 7
theorem branch_good (need extra : Int) (t : Nat) (H : List Cn) (tot : Int) : GoodB need extra H (branchR need extra t H tot) := by
  unfold GoodB branchR
  by_cases h : (stepF need extra H t 0 tot).1 = true
  · obtain ⟨h1, h2, h3⟩ := stepF_good need extra H t 0 tot h
    rw [if_pos h]
    exact .inl ⟨rfl, Sub.of_sublist h1, by show need ≤ sumD (stepF need extra H t 0 tot).2.1; omega, by show sumD (stepF need extra H t 0 tot).2.1 - need ≤ extra; omega⟩
  · rw [if_neg h]
    exact .inr rfl

/-! The throws. -/
structure AI (need : Int) (S : Att) (Q : List Cn) : Prop where
  p : Sub S.P Q
  c : S.m ≠ endless → Sub (coinsA S) Q ∧ S.m = sumD (coinsA S) ∧ need ≤ S.m
  g : S.f ≤ S.P.length
theorem AI.zero (need : Int) (Q : List Cn) : AI need att0 Q := ⟨Sub.nil _, fun h => absurd rfl h, Nat.le_refl _⟩
theorem AI.weak {need : Int} {S : Att} {Q : List Cn} (h : AI need S Q) (c : Cn) : AI need S (Q ++ [c]) := ⟨h.p.weak c, fun hm => ⟨(h.c hm).1.weak c, (h.c hm).2⟩, h.g⟩
theorem AI.pick {need : Int} {S : Att} {Q : List Cn} {c : Cn} (h : AI need S Q) (hp : Sub (S.P ++ [c]) Q) : AI need (pickA need S c) Q := by
  have hg := h.g
  unfold pickA
  split
  · refine ⟨hp, fun hm => ?_, ?_⟩
    · have q := h.c hm
      have e : coinsA { S with P := S.P ++ [c] } = coinsA S := by
        unfold coinsA
        show (S.P ++ [c]).take S.f ++ [S.l] = _
        rw [List.take_append_of_le_length hg]
      rw [e]
      exact q
    · show S.f ≤ (S.P ++ [c]).length
      rw [List.length_append]
      omega
  · next hn =>
    split
    · have e : coinsA { S with f := S.P.length, l := c, m := sumD S.P + c.1 } = S.P ++ [c] := by
        unfold coinsA
        show S.P.take S.P.length ++ [c] = _
        rw [List.take_length]
      refine ⟨h.p, fun _ => ?_, Nat.le_refl _⟩
      rw [e]
      refine ⟨hp, ?_, ?_⟩
      · show sumD S.P + c.1 = sumD (S.P ++ [c])
        rw [sumD_append]
        show _ = _ + (c.1 + 0)
        omega
      · show need ≤ sumD S.P + c.1
        omega
    · exact h
theorem pickA_P (need : Int) (S : Att) (c : Cn) : (pickA need S c).P = S.P ++ [c] ∨ (pickA need S c).P = S.P := by
  unfold pickA
  split
  · exact .inl rfl
  · split <;> exact .inr rfl
theorem swap_end (P O : List Cn) (c : Cn) : (P ++ [c] ++ O).Perm (P ++ O ++ [c]) := by
  rw [List.append_assoc, List.append_assoc]
  exact List.Perm.append_left P List.perm_append_comm
theorem pass_AI (roll : Int → Int) (need : Int) : ∀ (l : List Cn) (T : Pass) (Q : List Cn), AI need T.S Q → Sub (T.S.P ++ T.O) Q → AI need (l.foldl (passA roll need) T).S (Q ++ l) ∧ Sub ((l.foldl (passA roll need) T).S.P ++ (l.foldl (passA roll need) T).O) (Q ++ l)
  | [], T, Q, h, hs => by
    rw [List.append_nil]
    exact ⟨h, hs⟩
  | c :: l, T, Q, h, hs => by
    rw [List.foldl_cons, show Q ++ c :: l = (Q ++ [c]) ++ l by simp]
    refine pass_AI roll need l _ _ ?_ ?_
    · unfold passA
      split
      · exact (h.weak c).pick (hs.left.snoc c)
      · exact h.weak c
    · unfold passA
      split
      · show Sub ((pickA need T.S c).P ++ T.O) _
        rcases pickA_P need T.S c with e | e
        · rw [e]
          exact (hs.snoc c).perm (swap_end _ _ _)
        · rw [e]
          exact hs.weak c
      · show Sub (T.S.P ++ (T.O ++ [c])) _
        rw [← List.append_assoc]
        exact hs.snoc c
theorem picks_AI (need : Int) (Q : List Cn) : ∀ (l : List Cn) (S : Att), AI need S Q → Sub (S.P ++ l) Q → AI need (l.foldl (pickA need) S) Q
  | [], _, h, _ => h
  | c :: l, S, h, hs => by
    rw [List.foldl_cons]
    have hs2 : Sub (S.P ++ [c] ++ l) Q := by simpa using hs
    refine picks_AI need Q l _ (h.pick hs2.left) ?_
    rcases pickA_P need S c with e | e
    · rw [e]
      exact hs2
    · rw [e]
      exact (hs2.perm (swap_end _ _ _).symm).left
theorem last_AI (need x : Int) (l : List Cn) : AI need (lastF need (passF rollF need x l)) l := by
  have h := pass_AI rollF need l ⟨att0, [], x⟩ [] (AI.zero _ _) (Sub.nil _)
  rw [List.nil_append] at h
  unfold lastF
  split
  · exact picks_AI need l _ _ h.1 h.2
  · exact h.1
theorem best_good (need : Int) {l : List Cn} (hp : Pos l) (hs : sumD l ≤ 2100000000000000) : ∀ (k : Nat) (b : List Cn × Int) (x : Int), Sub b.1 l → b.2 = sumD b.1 → need ≤ b.2 → Sub (bestF rollF need l k b x).1 l ∧ (bestF rollF need l k b x).2 = sumD (bestF rollF need l k b x).1 ∧ need ≤ (bestF rollF need l k b x).2
  | 0, _, _, h1, h2, h3 => ⟨h1, h2, h3⟩
  | k + 1, b, x, h1, h2, h3 => by
    have hb : b.2 ≤ 2100000000000000 := by
      have := h1.sum hp
      omega
    unfold bestF
    refine best_good need hp hs k _ _ ?_ ?_ ?_
    all_goals unfold betterF
    all_goals split
    all_goals first
      | exact h1
      | exact h2
      | exact h3
      | (next hm =>
          have q := (last_AI need x l).c (by unfold endless; omega)
          first | exact q.1 | exact q.2.1 | exact q.2.2)
theorem least_mem : ∀ {l : List Cn} {m : Cn}, leastD l = some m → m ∈ l
  | c :: l, m, h => by
    injection h with h
    have key : ∀ (l : List Cn) (c : Cn), l.foldl leastF c = c ∨ l.foldl leastF c ∈ l := by
      intro l
      induction l with
      | nil => exact fun c => .inl rfl
      | cons a l ih =>
        intro c
        rw [List.foldl_cons]
        rcases ih (leastF c a) with e | e
        · rw [e]
          unfold leastF
          split
          · exact .inr List.mem_cons_self
          · exact .inl rfl
        · exact .inr (List.mem_cons_of_mem _ e)
    rcases key l c with e | e
    · rw [← h, e]
      exact List.mem_cons_self
    · rw [← h]
      exact List.mem_cons_of_mem _ e
theorem great_ge (need : Int) : ∀ (l : List Cn) (c : Cn), c ∈ l.take (greatN need l) → need ≤ c.1
  | [], c, h => by simp at h
  | a :: l, c, h => by
    unfold greatN at h
    split at h
    · simp at h
    · next ha =>
      rw [List.take_succ_cons] at h
      rcases List.mem_cons.1 h with rfl | h
      · omega
      · exact great_ge need l c h
theorem throw_good (need tries seed : Int) (H : List Cn) (hp : Pos H) (hs : sumD H ≤ 2100000000000000) : Good need H (throwR rollF need tries seed H) := by
  have hd : Sub (H.drop (greatN need H)) H := Sub.of_sublist (List.drop_sublist _ _)
  have hpd := hd.pos hp
  have hsd := hd.sum hp
  unfold Good throwR
  by_cases h1 : sumD (H.drop (greatN need H)) < need
  · rw [if_pos h1]
    cases hl : leastD (H.take (greatN need H)) with
    | none =>
      refine .inr ⟨rfl, ?_⟩
      have ht : H.take (greatN need H) = [] := by
        cases ht : H.take (greatN need H) with
        | nil => rfl
        | cons a l => rw [ht] at hl; cases hl
      have e : H.drop (greatN need H) = H := by
        have q := List.take_append_drop (greatN need H) H
        rw [ht, List.nil_append] at q
        exact q
      rw [e] at h1
      exact h1
    | some c =>
      have hm := least_mem hl
      refine .inl ⟨rfl, Sub.one (List.mem_of_mem_take hm), ?_⟩
      have := great_ge need H c hm
      show need ≤ c.1 + 0
      omega
  · rw [if_neg h1]
    have hb := best_good need hpd (by omega) (roundsF tries) (H.drop (greatN need H), sumD (H.drop (greatN need H))) (seedF seed) (Sub.refl _) rfl (by show need ≤ sumD _; omega)
    cases hl : leastD (H.take (greatN need H)) with
    | none => exact .inl ⟨rfl, hb.1.trans hd, by show need ≤ sumD (bestF _ _ _ _ _ _).1; rw [← hb.2.1]; exact hb.2.2⟩
    | some c =>
      have hm := least_mem hl
      have hge := great_ge need H c hm
      refine .inl ?_
      dsimp only
      split
      · exact ⟨rfl, Sub.one (List.mem_of_mem_take hm), by show need ≤ c.1 + 0; omega⟩
      · exact ⟨rfl, hb.1.trans hd, by show need ≤ sumD (bestF _ _ _ _ _ _).1; rw [← hb.2.1]; exact hb.2.2⟩
theorem choose_good (need extra tries seed : Int) (H : List Cn) (tot : Int) (hp : Pos H) (hs : sumD H ≤ 2100000000000000) : Good need H (chooseR need extra tries seed H tot) := by
  unfold chooseR
  split
  · next h =>
    rcases branch_good need extra tries.toNat H tot with q | q
    · exact .inl ⟨rfl, q.2.1, q.2.2.1⟩
    · omega
  · exact throw_good need tries seed H hp hs

/-! The places. -/
def wAt (rate : Int) (l : List (Int × Int)) (p : Nat) : Int := match l[p]? with | some c => worthF rate c.1 c.2 | none => 0
def sumW (rate : Int) (l : List (Int × Int)) : List Nat → Int
  | [] => 0
  | p :: ps => wAt rate l p + sumW rate l ps
theorem wAt_nonneg (rate : Int) (l : List (Int × Int)) (p : Nat) : 0 ≤ wAt rate l p := by
  unfold wAt
  split
  · exact (worth_bd _ _ _).1
  · exact Int.le_refl _
theorem sumW_append (rate : Int) (l : List (Int × Int)) : ∀ ps qs : List Nat, sumW rate l (ps ++ qs) = sumW rate l ps + sumW rate l qs
  | [], qs => by show sumW rate l qs = 0 + _; omega
  | p :: ps, qs => by
    show wAt rate l p + sumW rate l (ps ++ qs) = wAt rate l p + sumW rate l ps + sumW rate l qs
    rw [sumW_append rate l ps qs]
    omega
theorem sumW_nonneg (rate : Int) (l : List (Int × Int)) : ∀ ps : List Nat, 0 ≤ sumW rate l ps
  | [] => Int.le_refl _
  | p :: ps => by
    have := sumW_nonneg rate l ps
    have := wAt_nonneg rate l p
    show 0 ≤ wAt rate l p + sumW rate l ps
    omega
theorem sumW_perm (rate : Int) (l : List (Int × Int)) {ps qs : List Nat} (h : ps.Perm qs) : sumW rate l ps = sumW rate l qs := by
  induction h with
  | nil => rfl
  | cons x _ ih => show wAt rate l x + _ = wAt rate l x + _; rw [ih]
  | swap x y l' =>
    show wAt rate l y + (wAt rate l x + sumW rate l l') = wAt rate l x + (wAt rate l y + sumW rate l l')
    omega
  | trans _ _ h1 h2 => rw [h1, h2]
theorem hand_mem {rate : Int} {l : List (Int × Int)} {c : Cn} (h : c ∈ handF rate l) : ∃ d, l[c.2]? = some d ∧ c.1 = worthF rate d.1 d.2 ∧ 0 < c.1 := by
  have h2 : c ∈ dealF rate 0 l := (sortD_perm _).mem_iff.1 h
  obtain ⟨d, _, h3, h4, h5⟩ := dealF_mem rate l 0 c h2
  exact ⟨d, by simpa using h3, h4, h5⟩
theorem wAt_of {rate : Int} {l : List (Int × Int)} {c : Cn} (h : c ∈ handF rate l) : wAt rate l c.2 = c.1 := by
  obtain ⟨d, h1, h2, _⟩ := hand_mem h
  unfold wAt
  rw [h1, h2]
theorem sumW_of {rate : Int} {l : List (Int × Int)} : ∀ {s : List Cn}, (∀ c ∈ s, c ∈ handF rate l) → sumW rate l (s.map (·.2)) = sumD s
  | [], _ => rfl
  | c :: s, h => by
    show wAt rate l c.2 + sumW rate l (s.map (·.2)) = c.1 + sumD s
    rw [wAt_of (h c List.mem_cons_self), sumW_of fun d hd => h d (List.mem_cons_of_mem _ hd)]
theorem places_sum {rate : Int} {l : List (Int × Int)} {s : List Cn} (h : Sub s (handF rate l)) : sumW rate l (placesF s) = sumD s := by
  rw [sumW_perm rate l (placesF_perm s)]
  exact sumW_of fun c hc => h.mem hc
theorem places_at {rate : Int} {l : List (Int × Int)} {s : List Cn} (h : Sub s (handF rate l)) {p : Nat} (hp : p ∈ placesF s) : ∃ d, l[p]? = some d ∧ 0 < worthF rate d.1 d.2 := by
  have h2 := (placesF_perm s).mem_iff.1 hp
  obtain ⟨c, hc, rfl⟩ := List.mem_map.1 h2
  obtain ⟨d, h3, h4, h5⟩ := hand_mem (h.mem hc)
  exact ⟨d, h3, by rw [← h4]; exact h5⟩
theorem hand_nodup (rate : Int) (l : List (Int × Int)) : ((handF rate l).map (·.2)).Nodup := by
  have h1 : ((dealF rate 0 l).map (·.2)).Nodup := by
    rw [List.Nodup, List.pairwise_map]
    exact (dealF_rise rate l 0).imp (fun h => Nat.ne_of_lt h)
  exact (((sortD_perm (dealF rate 0 l)).map (·.2)).nodup_iff).2 h1
theorem places_lt {rate : Int} {l : List (Int × Int)} {s : List Cn} (h : Sub s (handF rate l)) : (placesF s).Pairwise (· < ·) := by
  have hn : (placesF s).Nodup := by
    refine ((placesF_perm s).nodup_iff).2 ?_
    obtain ⟨r, hr⟩ := h
    have q := ((hr.map (·.2)).nodup_iff).2 (hand_nodup rate l)
    rw [List.map_append] at q
    exact (List.nodup_append.1 q).1
  have hr := placesF_rise s
  exact (List.pairwise_and_iff.2 ⟨hr, hn⟩).imp (fun h => Nat.lt_of_le_of_ne h.1 h.2)
/-- What is to be held of an answer: its places rise, each is a coin's that brings something, and how much they bring. -/
structure Fine (rate : Int) (l : List (Int × Int)) (ps : List Nat) (tot : Int) : Prop where
  r : ps.Pairwise (· < ·)
  a : ∀ p ∈ ps, ∃ d, l[p]? = some d ∧ 0 < worthF rate d.1 d.2
  s : sumW rate l ps = tot
theorem fine_of {rate : Int} {l : List (Int × Int)} {s : List Cn} (h : Sub s (handF rate l)) : Fine rate l (placesF s) (sumD s) := ⟨places_lt h, fun _ hp => places_at h hp, places_sum h⟩
/-- An answer of the ways but the search. -/
theorem sel_good {need rate : Int} {l : List (Int × Int)} {r : Int × List Cn} (h : Good need (handF rate l) r) (hs : sumD (handF rate l) ≤ 2100000000000000) : ((selF rate l r).1 = 0 ∧ ∃ t, Fine rate l (selF rate l r).2 t ∧ need ≤ t ∧ t ≤ 2100000000000000) ∨ ((selF rate l r).1 = 16 ∧ sumD (handF rate l) < need) := by
  unfold selF
  rw [if_pos hs]
  rcases h with ⟨h0, h1, h2⟩ | ⟨h0, h1⟩
  · have h3 := h1.sum (handF_pos rate l)
    refine .inl ⟨h0, sumD r.2, ?_, h2, by omega⟩
    show Fine rate l (if r.1 = 0 then placesF r.2 else []) _
    rw [if_pos h0]
    exact fine_of h1
  · exact .inr ⟨h0, h1⟩
theorem sel_goodB {need extra rate : Int} {l : List (Int × Int)} {r : Int × List Cn} (h : GoodB need extra (handF rate l) r) (hs : sumD (handF rate l) ≤ 2100000000000000) : ((selF rate l r).1 = 0 ∧ ∃ t, Fine rate l (selF rate l r).2 t ∧ need ≤ t ∧ t - need ≤ extra ∧ t ≤ 2100000000000000) ∨ (selF rate l r).1 = 7 := by
  unfold selF
  rw [if_pos hs]
  rcases h with ⟨h0, h1, h2, h4⟩ | h0
  · have h3 := h1.sum (handF_pos rate l)
    refine .inl ⟨h0, sumD r.2, ?_, h2, h4, by omega⟩
    show Fine rate l (if r.1 = 0 then placesF r.2 else []) _
    rw [if_pos h0]
    exact fine_of h1
  · exact .inr h0
end Go.Proofs.Ytammeedmccblcaa.Cs
