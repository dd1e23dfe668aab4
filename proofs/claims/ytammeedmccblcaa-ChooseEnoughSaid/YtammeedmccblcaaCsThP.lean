/-
  The selection by chance, in plain words. Conditions: none.
-/
import Derived.Test.YtammeedmccblcaaCsPure
namespace Go.Proofs.Ytammeedmccblcaa.Cs

/-- An attempt: what is picked; and of what reaches the need with the least total, how many of these, the last one, the total. -/
structure Att where
  P : List Cn
  f : Nat
  l : Cn
  m : Int
def endless : Int := 9223372036854775807
def pickA (need : Int) (S : Att) (c : Cn) : Att :=
  if sumD S.P + c.1 < need then { S with P := S.P ++ [c] }
  else if sumD S.P + c.1 < S.m then { S with f := S.P.length, l := c, m := sumD S.P + c.1 }
  else S
def att0 : Att := ⟨[], 0, (0, 0), endless⟩
def coinsA (S : Att) : List Cn := S.P.take S.f ++ [S.l]
structure Pass where
  S : Att
  O : List Cn
  x : Int
def passA (roll : Int → Int) (need : Int) (T : Pass) (c : Cn) : Pass :=
  if 9223372036854775808 ≤ roll T.x then { S := pickA need T.S c, O := T.O, x := roll T.x } else { S := T.S, O := T.O ++ [c], x := roll T.x }
def passF (roll : Int → Int) (need x : Int) (l : List Cn) : Pass := l.foldl (passA roll need) ⟨att0, [], x⟩
def lastF (need : Int) (T : Pass) : Att := if T.S.m = endless then T.O.foldl (pickA need) T.S else T.S
def betterF (S : Att) (b : List Cn × Int) : List Cn × Int := if S.m < b.2 then (coinsA S, S.m) else b
def bestF (roll : Int → Int) (need : Int) (small : List Cn) : Nat → List Cn × Int → Int → List Cn × Int
  | 0, b, _ => b
  | k + 1, b, x => bestF roll need small k (betterF (lastF need (passF roll need x small)) b) (passF roll need x small).x
/-- How many are great: at the front. -/
def greatN (need : Int) : List Cn → Nat
  | [] => 0
  | c :: l => if c.1 < need then 0 else greatN need l + 1
def leastF (m c : Cn) : Cn := if c.1 < m.1 then c else m
def leastD : List Cn → Option Cn
  | [] => none
  | c :: l => some (l.foldl leastF c)
def seedF (s : Int) : Int := if s = 0 then 1 else s
def roundsF (t : Int) : Nat := (if t < 200 then t else 200).toNat
def throwR (roll : Int → Int) (need tries seed : Int) (H : List Cn) : Int × List Cn :=
  if sumD (H.drop (greatN need H)) < need then (match leastD (H.take (greatN need H)) with | none => (16, []) | some c => (0, [c]))
  else match leastD (H.take (greatN need H)) with
    | none => (0, (bestF roll need (H.drop (greatN need H)) (roundsF tries) (H.drop (greatN need H), sumD (H.drop (greatN need H))) (seedF seed)).1)
    | some c => if (bestF roll need (H.drop (greatN need H)) (roundsF tries) (H.drop (greatN need H), sumD (H.drop (greatN need H))) (seedF seed)).2 ≠ need ∧ c.1 ≤ (bestF roll need (H.drop (greatN need H)) (roundsF tries) (H.drop (greatN need H), sumD (H.drop (greatN need H))) (seedF seed)).2 then (0, [c])
      else (0, (bestF roll need (H.drop (greatN need H)) (roundsF tries) (H.drop (greatN need H), sumD (H.drop (greatN need H))) (seedF seed)).1)
theorem sumD_top : ∀ {l : List Cn}, Pos l → sumD l ≤ 2100000000000000 * (l.length : Int)
  | [], _ => Int.le_refl _
  | c :: l, h => by
    have := sumD_top h.tail
    have := (h c (by simp)).2
    unfold sumD
    rw [List.length_cons]
    omega
theorem Pos.app {l m : List Cn} (h : Pos l) (hm : Pos m) : Pos (l ++ m) := fun c hc => (List.mem_append.1 hc).elim (h c) (hm c)
/-- What an attempt keeps to: at most k coins, each of some worth. -/
structure AtOk (k : Nat) (S : Att) : Prop where
  p : Pos S.P
  n : S.P.length ≤ k
  f : S.f ≤ S.P.length
  l : 0 ≤ S.l.1 ∧ S.l.1 ≤ 2100000000000000
  m : S.m = endless ∨ (0 ≤ S.m ∧ S.m ≤ 2100000000000000 * (k : Int) ∧ 0 < S.l.1)
theorem AtOk.zero : AtOk 0 att0 := ⟨fun _ h => (by cases h), Nat.le_refl _, Nat.le_refl _, ⟨by decide, by decide⟩, .inl rfl⟩
theorem AtOk.more {k k' : Nat} {S : Att} (h : AtOk k S) (hk : k ≤ k') : AtOk k' S := ⟨h.p, Nat.le_trans h.n hk, h.f, h.l, h.m.elim .inl (fun q => .inr ⟨q.1, by have := q.2.1; omega, q.2.2⟩)⟩
theorem AtOk.sum {k : Nat} {S : Att} (h : AtOk k S) : 0 ≤ sumD S.P ∧ sumD S.P ≤ 2100000000000000 * (k : Int) := by
  have h1 := sumD_nonneg h.p
  have h2 := sumD_top h.p
  have h3 := h.n
  omega
theorem AtOk.next {k : Nat} {S : Att} (need : Int) {c : Cn} (h : AtOk k S) (hc : 0 < c.1 ∧ c.1 ≤ 2100000000000000) : AtOk (k + 1) (pickA need S c) := by
  have hs := h.sum
  unfold pickA
  split
  · refine ⟨h.p.app (fun d hd => by rw [List.mem_singleton.1 hd]; exact hc), ?_, ?_, h.l, (h.more (Nat.le_succ k)).m⟩
    · have := h.n
      rw [List.length_append, List.length_singleton]
      omega
    · have := h.f
      show S.f ≤ (S.P ++ [c]).length
      rw [List.length_append]
      omega
  · split
    · refine ⟨h.p, Nat.le_succ_of_le h.n, Nat.le_refl _, ⟨by have := hc.1; show 0 ≤ c.1; omega, hc.2⟩, .inr ⟨?_, ?_, hc.1⟩⟩
      · show 0 ≤ sumD S.P + c.1
        omega
      · show sumD S.P + c.1 ≤ 2100000000000000 * ((k + 1 : Nat) : Int)
        omega
    · exact h.more (Nat.le_succ k)
theorem AtOk.fold (need : Int) : ∀ (l : List Cn) {k : Nat} {S : Att}, AtOk k S → Pos l → AtOk (k + l.length) (l.foldl (pickA need) S)
  | [], _, _, h, _ => h
  | c :: l, k, S, h, hp => by
    have q := AtOk.fold need l (h.next need (hp c (by simp))) hp.tail
    rw [List.foldl_cons, List.length_cons, show k + (l.length + 1) = k + 1 + l.length by omega]
    exact q
structure PassOk (k : Nat) (T : Pass) : Prop where
  s : AtOk k T.S
  o : Pos T.O
  n : T.S.P.length + T.O.length ≤ k
theorem PassOk.zero (x : Int) : PassOk 0 ⟨att0, [], x⟩ := ⟨AtOk.zero, fun _ h => (by cases h), Nat.le_refl _⟩
theorem pickA_len (need : Int) (S : Att) (c : Cn) : (pickA need S c).P.length ≤ S.P.length + 1 := by
  unfold pickA
  split
  · rw [List.length_append]
    exact Nat.le_refl _
  · split <;> exact Nat.le_succ _
theorem PassOk.next {roll : Int → Int} {k : Nat} {T : Pass} (need : Int) {c : Cn} (h : PassOk k T) (hc : 0 < c.1 ∧ c.1 ≤ 2100000000000000) : PassOk (k + 1) (passA roll need T c) := by
  have hn := h.n
  have hl := pickA_len need T.S c
  unfold passA
  split
  · exact ⟨h.s.next need hc, h.o, by show (pickA need T.S c).P.length + T.O.length ≤ k + 1; omega⟩
  · exact ⟨h.s.more (Nat.le_succ k), h.o.app (fun d hd => by rw [List.mem_singleton.1 hd]; exact hc), by show T.S.P.length + (T.O ++ [c]).length ≤ k + 1; rw [List.length_append, List.length_singleton]; omega⟩
theorem PassOk.fold {roll : Int → Int} (need : Int) : ∀ (l : List Cn) {k : Nat} {T : Pass}, PassOk k T → Pos l → PassOk (k + l.length) (l.foldl (passA roll need) T)
  | [], _, _, h, _ => h
  | c :: l, k, S, h, hp => by
    have q := PassOk.fold (roll := roll) need l (h.next (roll := roll) need (hp c (by simp))) hp.tail
    rw [List.foldl_cons, List.length_cons, show k + (l.length + 1) = k + 1 + l.length by omega]
    exact q
theorem pass_ok (roll : Int → Int) (need x : Int) {l : List Cn} (hp : Pos l) : PassOk l.length (passF roll need x l) := by
  have q := PassOk.fold (roll := roll) need l (PassOk.zero x) hp
  rw [Nat.zero_add] at q
  exact q
theorem last_ok (roll : Int → Int) (need x : Int) {l : List Cn} (hp : Pos l) : AtOk (l.length + l.length) (lastF need (passF roll need x l)) := by
  have q := pass_ok roll need x hp
  unfold lastF
  split
  · refine (AtOk.fold need _ q.s q.o).more ?_
    have := q.n
    omega
  · exact q.s.more (Nat.le_add_right _ _)
theorem greatN_le (need : Int) : ∀ l : List Cn, greatN need l ≤ l.length
  | [] => Nat.le_refl _
  | c :: l => by
    have := greatN_le need l
    unfold greatN
    split
    · exact Nat.zero_le _
    · exact Nat.succ_le_succ this
theorem coinsA_len {k : Nat} {S : Att} (h : AtOk k S) : (coinsA S).length ≤ k + 1 := by
  have := h.n
  unfold coinsA
  rw [List.length_append, List.length_take, List.length_singleton]
  omega
theorem coinsA_pos {k : Nat} {S : Att} (h : AtOk k S) (hm : S.m ≠ endless) : Pos (coinsA S) := by
  unfold coinsA
  exact Pos.app (fun c hc => h.p c (List.mem_of_mem_take hc)) (fun d hd => by rw [List.mem_singleton.1 hd]; exact ⟨(h.m.resolve_left hm).2.2, h.l.2⟩)
theorem best_len (roll : Int → Int) (need : Int) {small : List Cn} (hp : Pos small) (N : Nat) (hN : small.length + small.length + 1 ≤ N) : ∀ (k : Nat) (b : List Cn × Int) (x : Int), b.1.length ≤ N → (bestF roll need small k b x).1.length ≤ N
  | 0, _, _, h => h
  | k + 1, b, x, h => by
    refine best_len roll need hp N hN k _ _ ?_
    unfold betterF
    split
    · exact Nat.le_trans (coinsA_len (last_ok roll need x hp)) hN
    · exact h
theorem throw_len (roll : Int → Int) (need tries seed : Int) (H : List Cn) (hp : Pos H) : (throwR roll need tries seed H).2.length ≤ H.length + H.length + 1 := by
  have hd : (H.drop (greatN need H)).length ≤ H.length := by rw [List.length_drop]; omega
  have hb := best_len roll need (small := H.drop (greatN need H)) (fun c hc => hp c (List.mem_of_mem_drop hc)) (H.length + H.length + 1) (by omega) (roundsF tries) (H.drop (greatN need H), sumD (H.drop (greatN need H))) (seedF seed) (Nat.le_trans hd (by omega))
  unfold throwR
  repeat' split
  all_goals first | exact hb | exact Nat.zero_le _ | exact Nat.succ_le_succ (Nat.zero_le _)
end Go.Proofs.Ytammeedmccblcaa.Cs
