/-
  Texts joined: HkRange, HkPure, HkRpath. Conditions: those of each.
-/
import Derived.RangeFuncWrites
import Derived.RangeFuncNested
import Derived.RangeFuncBound
import Derived.RangeFuncCalls
import Derived.RangeFuncLeaves
import Derived.RangeFuncBox
import Derived.Shelf.Abstract
import Derived.Shelf.RegionOpen
import Derived.OwnWalkIn
import Derived.TacticsInMore
import Derived.LoopNIn
import Derived.LoopIn
import Derived.Test.YtfkpdbmgiefnfaaDoorP29
import Derived.OpenShut
import Derived.Deep.RegionWith
/-
  A loop over an iterator that keeps a variable of its own in a box: a law for it, over the kit's pieces. Conditions: the loop's rounds go on or return; the box lay before the loop began.
-/
namespace Go.Proofs.YtfkpdbmgiefnfaaDoor.Hk
open Go.RowKit Go.Shelf

/-- These blocks lie as they lay. -/
def Stay (K : Nat → Prop) (A B : World) : Prop := ∀ b, K b → B.heap[b]? = A.heap[b]?
theorem Stay.refl (K : Nat → Prop) (A : World) : Stay K A A := fun _ _ => rfl
theorem Stay.trans {K : Nat → Prop} {A B C : World} (h : Stay K A B) (k : Stay K B C) : Stay K A C := fun b hb => (k b hb).trans (h b hb)
theorem Stay.cell {K : Nat → Prop} {A B : World} (h : Stay K A B) {p : Addr} (hp : K p.block) : B.cell? p = A.cell? p := World.cell?_of_block (w := A) (h p.block hp)
theorem Stay.put {K : Nat → Prop} (W : World) (l : Nat) (o : Obj) (hl : ¬ K l) : Stay K W (W.putObj l o) := fun b hb => by
  have hne : b ≠ l := by rintro rfl; exact hl hb
  exact World.putObj_heap_other hne

/-- How a round ends. -/
def RoundEnd {α : Type} (B : Nat) (K : Nat → Prop) (I Ix : List α → World → Prop) (xs : List α) (W : World) : Exit → Act → World → Prop
  | .normal, _, W' => KeepsFrom B W W' ∧ Stay K W W' ∧ I xs W'
  | .ret, _, W' => KeepsFrom B W W' ∧ Ix xs W'
  | _, _, _ => False

/-- What an iterator of this kind promises. -/
def BoxSeq {α : Type} (n : Nat) (P : Program) (gf : Nat) (lb : Array Value) (encs : α → Array Value) (K : Nat → Prop) (Bx : Nat) (S Sp : List α → Prop) (w : World) : Prop :=
  ∀ (l : Nat) (J Jx : List α → World → Prop) (W : World), Below w.heap.size w W → (∀ pre V u, J pre V → J pre (V.setCell ⟨Bx, 0, none⟩ u)) →
    (∀ pre x W1, J pre W1 → YieldAt Fence.wide (n - 1) P l (encs x) W1 fun e W' => (e = .returned (.bool true) ∧ J (pre ++ [x]) W' ∧ Stay K W1 W') ∨ (e = .returned (.bool false) ∧ Jx (pre ++ [x]) W')) →
    J [] W → CallsIn Fence.wide n P gf (#[.func (.yield l) #[] #[]] ++ lb) W fun e W' => (∃ v, e = .returned v) ∧ ((∃ xs, S xs ∧ J xs W') ∨ (∃ pre, Sp pre ∧ Jx pre W'))

theorem range_box {α : Type} {P : Program} {n : Nat} {g : Operand} {ps : Array Tmp} {assign body : Code} {Q : Exit → Act → World → Prop} {a : Act} {w : World} (h1 : 1 ≤ n)
    {gf : Nat} {lb : Array Value} (hg : a.eval g = .func (.func gf) #[] lb) (eg : ∀ args w, (callFunc gf args).run P w = .ok (.enter gf args) w)
    {encs : α → Array Value} (hps : ∀ x, (encs x).size = ps.size) {K : Nat → Prop} (hK : ∀ b, K b → b < w.heap.size) {Bx : Nat} (hBx : Bx < w.heap.size) {S Sp : List α → Prop} (hseq : BoxSeq (n - 1) P gf lb encs K Bx S Sp w)
    (I Ix : List α → World → Prop) (hI : OwnFrom w.heap.size I) (hIx : OwnFrom w.heap.size Ix) (hIb : ∀ pre V u, I pre V → I pre (V.setCell ⟨Bx, 0, none⟩ u)) (h0 : I [] w) (a₁ : α → Act)
    (hassign : ∀ (l : Nat) (x : α) (W : World) (C : Act → World → Prop), C (a₁ x) W → assign.wpIn (Fence.wide.inRound l) (n - 1 - 1) P (Exit.then C (fun _ _ _ => False)) { tmps := (ps.zip (encs x)).foldl (fun t (p, v) => t.setIfInBounds p v) a.tmps, defers := [] } W)
    (hbody : ∀ (l : Nat) (pre : List α) (x : α) (W : World), I pre W → body.wpIn (Fence.wide.inRound l) (n - 1 - 1) P (RoundEnd w.heap.size K I Ix (pre ++ [x]) W) (a₁ x) W)
    (hdone : ∀ (D : Nat) (xs : List α) (W : World), w.heap.size ≤ D → S xs → I xs W → W.heap[D]? = some (.deferred (some [])) → Q .normal { a with defers := { target := .collected D, args := #[] } :: a.defers } W)
    (hstop : ∀ (D : Nat) (pre : List α) (W : World), w.heap.size ≤ D → Sp pre → Ix pre W → W.heap[D]? = some (.deferred (some [])) → Code.ret.wpIn Fence.wide n P Q { a with defers := { target := .collected D, args := #[] } :: a.defers } W) :
    (Code.rangeFunc g ps assign body).wpIn Fence.wide n P Q a w := by
  refine wpIn_rangeFunc fun fn hfn => ?_
  obtain ⟨rc, hrc⟩ : ∃ rc : LoopState → Option Code → Loop, rc = fun st pe => { state := st, pending := pe, fn := fn, tmps := a.tmps, params := ps, assign := assign, body := body, defers := w.heap.size } := ⟨_, rfl⟩
  obtain ⟨D, hD⟩ : ∃ D, D = w.heap.size := ⟨_, rfl⟩
  obtain ⟨V0, hV0⟩ : ∃ V, V = w.alloc (.deferred (some [])) := ⟨_, rfl⟩
  obtain ⟨V, hV⟩ : ∃ V, V = V0.alloc (.loop (rc .ready none)) := ⟨_, rfl⟩
  have s0 : V0.heap.size = D + 1 := by rw [hV0, World.size_alloc, hD]
  -- the record of the loop and the list of what is put off
  obtain ⟨Book, hBook⟩ : ∃ B : LoopState → Option Code → World → Prop, B = fun st pe W => W.heap[D + 1]? = some (.loop (rc st pe)) ∧ W.heap[D]? = some (.deferred (some [])) := ⟨_, rfl⟩
  have bookV : Book .ready none V := by
    rw [hBook]
    refine ⟨by rw [hV, ← s0]; exact World.alloc_heap_new V0 _, ?_⟩
    rw [hV, Below.heap_alloc _ _ _ (by rw [s0]; omega), hV0, hD]
    exact World.alloc_heap_new w _
  have bookK : ∀ st pe A B, Book st pe A → KeepsFrom D A B → Book st pe B := fun st pe A B h hk => by
    rw [hBook] at h ⊢
    exact ⟨hk.same _ _ (by omega) h.1 rfl, hk.same _ _ (Nat.le_refl _) h.2 rfl⟩
  have bookP : ∀ st pe st' pe' A, Book st pe A → Book st' pe' (A.putObj (D + 1) (.loop (rc st' pe'))) := fun st pe st' pe' A h => by
    rw [hBook] at h ⊢
    exact ⟨World.putObj_heap_same (Array.getElem?_eq_some_iff.1 h.1).1, (World.putObj_heap_other (by omega)).trans h.2⟩
  have bookC : ∀ st pe A u, Book st pe A → Book st pe (A.setCell ⟨Bx, 0, none⟩ u) := fun st pe A u h => by
    rw [hBook] at h ⊢
    exact ⟨(Below.heap_setCell A ⟨Bx, 0, none⟩ u (D + 1) (by show D + 1 ≠ Bx; omega)).trans h.1, (Below.heap_setCell A ⟨Bx, 0, none⟩ u D (by show D ≠ Bx; omega)).trans h.2⟩
  have own : ∀ {T : List α → World → Prop}, OwnFrom w.heap.size T → ∀ st pe pre A o, Book st pe A → T pre A → T pre (A.putObj (D + 1) o) := fun hT st pe pre A o h ht => by
    rw [hBook] at h
    exact hT.putObj o ht (by omega) h.1 rfl
  have hI1 : I [] V := by rw [hV, hV0]; exact hI.alloc _ (hI.alloc _ h0)
  have hbV : Below w.heap.size w V := by
    rw [hV]
    refine Below.alloc ?_ (by omega) _
    rw [hV0]
    exact (Below.refl _ w).alloc (Nat.le_refl _) _
  refine ⟨D + 1, [{ target := .collected D, args := #[] }], V, { target := .fn (.func gf) lb, args := #[.func (.yield (D + 1)) #[] #[]] }, V, gf, #[.func (.yield (D + 1)) #[] #[]] ++ lb, V, ?_, ?_, ?_, ?_, fun _ => h1, ?_⟩
  · rw [hV, hV0, hrc, hD]
    exact run_enterLoop_outer _ _ _ _ _
  · simp only [resolve, hg]
    simp [go_sem]
  · intro f' _
    trivial
  · simp [invoke, go_sem, eg]
  · refine (hseq (D + 1) (fun pre W => I pre W ∧ Book .ready none W) (fun pre W => Ix pre W ∧ Book .done (some .ret) W) V hbV (fun pre A u h => ⟨hIb pre A u h.1, bookC _ _ _ _ h.2⟩) ?_ ⟨hI1, bookV⟩).mono ?_
    · rintro pre x A ⟨hi, hb⟩
      have hb' := hb
      rw [hBook] at hb'
      have hy := run_yield (P := P) (args := encs x) hb'.1 (by rw [hrc]; exact hps x)
      have hbusy : rc .busy none = { rc .ready none with state := .busy } := by rw [hrc]
      have hbeg := run_beginRound (P := P) hb'.1 (by rw [hrc])
      rw [← hbusy] at hbeg
      have eB := bookP .ready none .busy none A hb
      have eI := own hI .ready none pre A (.loop (rc .busy none)) hb hi
      have eS : Stay K A (A.putObj (D + 1) (.loop (rc .busy none))) := Stay.put _ _ _ (fun hk => by have := hK _ hk; omega)
      obtain ⟨A2, hA2⟩ : ∃ A2, A2 = A.putObj (D + 1) (.loop (rc .busy none)) := ⟨_, rfl⟩
      rw [← hA2] at hbeg eB eI eS
      rw [hrc] at hy
      refine ⟨fn, _, assign, body, hy, roundIn_of_wpIn hfn (hassign (D + 1) x A _ ⟨A2, hbeg, wpIn_mono (hbody (D + 1) pre x A2 eI) ?_⟩)⟩
      have over : ∀ (jump : Option Code) (C : World), KeepsFrom w.heap.size A2 C → (Instr.endRound (D + 1) jump).run P C = .ok (.bool jump.isNone) (C.putObj (D + 1) (.loop (rc (if jump.isNone then .ready else .done) jump))) ∧ Book .busy none C := fun jump C hk => by
        have hC := bookK .busy none A2 C eB (by rw [hD]; exact hk)
        have hC' := hC
        rw [hBook] at hC'
        have he := run_endRound (P := P) jump hC'.1
        rw [hrc] at he
        exact ⟨by rw [hrc]; exact he, hC⟩
      intro e b C hp
      match e, hp with
      | .normal, hp =>
        obtain ⟨hk, hs, hi3⟩ := hp
        obtain ⟨he, hC⟩ := over none C hk
        exact ⟨_, _, he, Or.inl ⟨rfl, ⟨own hI _ _ _ _ _ hC hi3, bookP _ _ .ready none _ hC⟩, (eS.trans hs).trans (Stay.put _ _ _ (fun hk => by have := hK _ hk; omega))⟩⟩
      | .ret, hp =>
        obtain ⟨hk, hi3⟩ := hp
        obtain ⟨he, hC⟩ := over (some .ret) C hk
        exact ⟨_, _, he, Or.inr ⟨rfl, own hIx _ _ _ _ _ hC hi3, bookP _ _ .done (some .ret) _ hC⟩⟩
    · rintro e C ⟨⟨v, rfl⟩, (⟨xs, hS, hi, hb⟩ | ⟨pre, hS, hi, hb⟩)⟩
      · have hb' := hb
        rw [hBook] at hb'
        have he := run_endLoop (P := P) hb'.1 (by rw [hrc]; simp)
        rw [hrc] at he
        exact ⟨none, _, he, hdone D xs _ (by omega) hS (own hI _ _ _ _ _ hb hi) ((World.putObj_heap_other (by omega)).trans hb'.2)⟩
      · have hb' := hb
        rw [hBook] at hb'
        have he := run_endLoop (P := P) hb'.1 (by rw [hrc]; simp)
        rw [hrc] at he
        exact ⟨some .ret, _, he, hstop D pre _ (by omega) hS (own hIx _ _ _ _ _ hb hi) ((World.putObj_heap_other (by omega)).trans hb'.2)⟩
end Go.Proofs.YtfkpdbmgiefnfaaDoor.Hk

/-
  What both readings of a path's text say: the parts between slashes, and each part's step. Conditions: none.
-/
namespace Go.Proofs.YtfkpdbmgiefnfaaDoor.Hk
open Go.RowKit

/-- The parts between slashes. -/
def partsOf : List UInt8 → List (List UInt8)
  | [] => [[]]
  | c :: l => if c = 47 then [] :: partsOf l else match partsOf l with
    | [] => [[c]]
    | p :: ps => (c :: p) :: ps
theorem partsOf_cons (l : List UInt8) : ∃ p ps, partsOf l = p :: ps := by
  cases l with
  | nil => exact ⟨_, _, rfl⟩
  | cons c l =>
    unfold partsOf
    split
    · exact ⟨_, _, rfl⟩
    · split <;> exact ⟨_, _, rfl⟩
theorem partsOf_step {c : UInt8} {l p : List UInt8} {ps : List (List UInt8)} (h : c ≠ 47) (hp : partsOf l = p :: ps) : partsOf (c :: l) = (c :: p) :: ps := by
  rw [partsOf, if_neg h, hp]
theorem partsOf_app : ∀ (d t p : List UInt8) (ps : List (List UInt8)), (∀ c ∈ d, c ≠ 47) → partsOf t = p :: ps → partsOf (d ++ t) = (d ++ p) :: ps
  | [], _, _, _, _, ht => ht
  | c :: d, t, p, ps, hd, ht => partsOf_step (hd c (by simp)) (partsOf_app d t p ps (fun x hx => hd x (by simp [hx])) ht)
theorem partsOf_no {d : List UInt8} (hd : ∀ c ∈ d, c ≠ 47) : partsOf d = [d] := by
  have h := partsOf_app d [] [] [] hd rfl
  rwa [List.append_nil] at h
theorem partsOf_cut {d r : List UInt8} (hd : ∀ c ∈ d, c ≠ 47) : partsOf (d ++ 47 :: r) = d :: partsOf r := by
  have h := partsOf_app d (47 :: r) [] (partsOf r) hd (by rw [partsOf, if_pos rfl])
  rwa [List.append_nil] at h
theorem partsOf_short : ∀ (l p : List UInt8), p ∈ partsOf l → p.length ≤ l.length
  | [], p, h => by simp [partsOf] at h; simp [h]
  | c :: l, p, h => by
    obtain ⟨q, qs, hq⟩ := partsOf_cons l
    have ih := partsOf_short l
    rw [hq] at ih
    rw [partsOf, hq] at h
    split at h
    · rcases List.mem_cons.1 h with rfl | h
      · simp
      · have := ih p h; simp; omega
    · rcases List.mem_cons.1 h with rfl | h
      · have := ih q (by simp); simp; omega
      · have := ih p (by simp [h]); simp; omega
theorem partsOf_count : ∀ (l : List UInt8), (partsOf l).length ≤ l.length + 1
  | [] => by simp [partsOf]
  | c :: l => by
    have ih := partsOf_count l
    obtain ⟨q, qs, hq⟩ := partsOf_cons l
    rw [hq] at ih
    rw [partsOf, hq]
    split <;> simp at ih ⊢ <;> omega

/-- What the parts say. -/
def outR (xs : List (List UInt8)) : List Int × Int :=
  if ∃ x ∈ xs, stepE x = 3 then ([], 3) else if (∃ x ∈ xs, stepE x ≠ 0) ∨ 255 < xs.length then ([], 2) else (xs.map fun x => (stepN x : Int), 0)
def trimM (l : List UInt8) : List UInt8 := Lib.trimPrefix l [109, 47]
/-- What a path's text says. -/
def parseP (l : List UInt8) : List Int × Int := if l = [109] then ([], 0) else outR (partsOf (trimM l))

/-- The program's state, part by part. -/
def accP (s : List Int × Bool) (x : List UInt8) : List Int × Bool := if stepE x ≠ 0 ∨ s.1.length = 255 then (s.1, true) else (s.1 ++ [(stepN x : Int)], s.2)
def pst (xs : List (List UInt8)) : List Int × Bool := xs.foldl accP ([], false)
theorem pst_snoc (xs : List (List UInt8)) (x : List UInt8) : pst (xs ++ [x]) = accP (pst xs) x := by simp [pst]
theorem pst_says (xs : List (List UInt8)) : (pst xs).1.length ≤ 255 ∧ ((pst xs).2 = true ↔ ((∃ x ∈ xs, stepE x ≠ 0) ∨ 255 < xs.length)) ∧ ((pst xs).2 = false → (pst xs).1 = xs.map fun x => (stepN x : Int)) := by
  obtain ⟨r, hr⟩ : ∃ r, r = xs.reverse := ⟨_, rfl⟩
  have hp : xs = r.reverse := by rw [hr, List.reverse_reverse]
  rw [hp]
  clear hp hr xs
  induction r with
  | nil => simp [pst]
  | cons x r ih =>
    rw [List.reverse_cons, pst_snoc]
    obtain ⟨h1, h2, h3⟩ := ih
    generalize r.reverse = xs at *
    generalize pst xs = s at *
    obtain ⟨p, z⟩ := s
    dsimp only at h1 h2 h3
    unfold accP
    dsimp only
    by_cases hc : stepE x ≠ 0 ∨ p.length = 255
    · rw [if_pos hc]
      refine ⟨h1, ⟨fun _ => ?_, fun _ => rfl⟩, fun h => by cases h⟩
      rcases hc with hc | hc
      · exact Or.inl ⟨x, by simp, hc⟩
      · cases z with
        | true =>
          rcases h2.1 rfl with ⟨y, hy, h⟩ | h
          · exact Or.inl ⟨y, by simp [hy], h⟩
          · exact Or.inr (by simp; omega)
        | false =>
          have := congrArg List.length (h3 rfl)
          rw [List.length_map] at this
          exact Or.inr (by simp; omega)
    · rw [if_neg hc]
      have hc1 : stepE x = 0 := Decidable.byContradiction fun h => hc (Or.inl h)
      have hc2 : p.length ≠ 255 := fun h => hc (Or.inr h)
      dsimp only
      refine ⟨by simp; omega, ⟨fun h => ?_, fun h => ?_⟩, fun h => by rw [h3 h]; simp⟩
      · rcases h2.1 h with ⟨y, hy, h⟩ | h
        · exact Or.inl ⟨y, by simp [hy], h⟩
        · exact Or.inr (by simp; omega)
      · cases hz : z with
        | true => rfl
        | false =>
          have hl := congrArg List.length (h3 hz)
          rw [List.length_map] at hl
          rcases h with ⟨y, hy, h⟩ | h
          · rcases List.mem_append.1 hy with hy | hy
            · have := h2.2 (Or.inl ⟨y, hy, h⟩); rw [hz] at this; exact this
            · simp at hy; subst hy; exact absurd hc1 h
          · simp at h; omega
theorem outR_bad {xs : List (List UInt8)} {x : List UInt8} (hx : x ∈ xs) (h : stepE x = 3) : outR xs = ([], 3) := if_pos ⟨x, hx, h⟩
theorem outR_pst {xs : List (List UInt8)} (h : ∀ x ∈ xs, stepE x ≠ 3) : outR xs = if (pst xs).2 then ([], 2) else ((pst xs).1, 0) := by
  obtain ⟨_, h2, h3⟩ := pst_says xs
  unfold outR
  rw [if_neg (by rintro ⟨x, hx, hc⟩; exact h x hx hc)]
  cases hz : (pst xs).2 with
  | true => rw [if_pos (h2.1 hz)]; rfl
  | false => rw [if_neg (fun hc => by have := h2.2 hc; rw [hz] at this; cases this), h3 hz]; rfl

/-- A part out of digits and what stands behind them. -/
theorem dB_not47 {c : UInt8} (h : dB c = true) : c ≠ 47 := by rintro rfl; exact absurd h (by decide)
theorem dB_notMark {c : UInt8} (h : dB c = true) : isMark c = false := by
  cases hm : isMark c with
  | false => rfl
  | true =>
    unfold isMark at hm
    simp only [Bool.or_eq_true, beq_iff_eq] at hm
    rcases hm with (rfl | rfl) | rfl <;> exact absurd h (by decide)
theorem isMark_not47 {c : UInt8} (h : isMark c = true) : c ≠ 47 := by rintro rfl; exact absurd h (by decide)
theorem hardB_no {d : List UInt8} (hd : d.all dB = true) : hardB d = false := by
  unfold hardB
  cases hl : d.getLast? with
  | none => rfl
  | some c => exact dB_notMark (List.all_eq_true.1 hd c (List.mem_of_getLast? hl))
theorem hardB_snoc (d : List UInt8) (c : UInt8) : hardB (d ++ [c]) = isMark c := by unfold hardB; simp
/-- Are the digits of a part well formed? -/
def digOk (d : List UInt8) : Bool := d == [48] || (!d.isEmpty && d.head? != some 48)
theorem step_plain {d : List UInt8} (hd : d.all dB = true) : stepE d = (if digOk d then (if valB d < 2147483648 then 0 else 2) else 3) ∧ (digOk d = true → valB d < 2147483648 → stepN d = valB d) := by
  have h1 := hardB_no hd
  have h2 : digs d = d := by unfold digs; rw [h1]; rfl
  have h3 : numOk d = digOk d := by unfold numOk digOk; rw [hd]; rfl
  unfold stepE stepN
  rw [h2, h3, h1]
  refine ⟨rfl, fun ho hv => ?_⟩
  rw [if_pos ⟨ho, hv⟩]
  simp
theorem step_mark {d : List UInt8} {c : UInt8} (hd : d.all dB = true) (hc : isMark c = true) : stepE (d ++ [c]) = (if digOk d then (if valB d < 2147483648 then 0 else 2) else 3) ∧ (digOk d = true → valB d < 2147483648 → stepN (d ++ [c]) = 2147483648 + valB d) := by
  have h1 := hardB_snoc d c
  rw [hc] at h1
  have h2 : digs (d ++ [c]) = d := by unfold digs; rw [h1]; simp
  have h3 : numOk d = digOk d := by unfold numOk digOk; rw [hd]; rfl
  unfold stepE stepN
  rw [h2, h3, h1]
  refine ⟨rfl, fun ho hv => ?_⟩
  rw [if_pos ⟨ho, hv⟩]
  simp
theorem numOk_has {l : List UInt8} {c : UInt8} (h : c ∈ l) (hc : dB c = false) : numOk l = false := by
  unfold numOk
  cases ha : l.all dB with
  | false => rfl
  | true => rw [List.all_eq_true.1 ha c h] at hc; cases hc
theorem step_odd {d r : List UInt8} {c : UInt8} (hc : dB c = false) (h : isMark c = false ∨ r ≠ []) : stepE (d ++ c :: r) = 3 := by
  have hin : c ∈ digs (d ++ c :: r) := by
    unfold digs
    split
    · rename_i hh
      cases r with
      | nil =>
        rw [show d ++ [c] = d ++ [c] from rfl, hardB_snoc] at hh
        rcases h with h | h
        · rw [h] at hh; cases hh
        · exact absurd rfl h
      | cons e r =>
        rw [List.dropLast_append_of_ne_nil (by simp)]
        simp
    · simp
  unfold stepE
  rw [numOk_has hin hc]
  rfl

/-- The scan of a part: digits D, then T, whose head is no digit. -/
theorem scan_bad {d t : List UInt8} (hd : d.all dB = true) (ht : ∀ c r, t = c :: r → dB c = false) (ho : digOk d = false) : ∃ p ps, partsOf (d ++ t) = p :: ps ∧ stepE p = 3 := by
  have hn : ∀ c ∈ d, c ≠ 47 := fun c hc => dB_not47 (List.all_eq_true.1 hd c hc)
  obtain ⟨p, ps, hp⟩ := partsOf_cons t
  refine ⟨_, _, partsOf_app d t p ps hn hp, ?_⟩
  cases p with
  | nil => rw [List.append_nil, (step_plain hd).1, ho]; rfl
  | cons c p =>
    have hc : dB c = false := by
      cases t with
      | nil => simp [partsOf] at hp
      | cons e t =>
        rw [partsOf] at hp
        split at hp
        · simp at hp
        · split at hp
          · simp at hp; rw [← hp.1.1]; exact ht _ _ rfl
          · simp at hp; rw [← hp.1.1]; exact ht _ _ rfl
    cases hm : isMark c with
    | false => exact step_odd hc (Or.inl hm)
    | true =>
      cases p with
      | nil => rw [(step_mark hd hm).1, ho]; rfl
      | cons e p => exact step_odd hc (Or.inr (by simp))
theorem scan_odd {d r : List UInt8} {c : UInt8} (hd : d.all dB = true) (hc : dB c = false) (h4 : c ≠ 47) (hm : isMark c = false) : ∃ p ps, partsOf (d ++ c :: r) = p :: ps ∧ stepE p = 3 := by
  have hn : ∀ c ∈ d, c ≠ 47 := fun c hc => dB_not47 (List.all_eq_true.1 hd c hc)
  obtain ⟨p, ps, hp⟩ := partsOf_cons r
  exact ⟨_, _, partsOf_app d _ _ ps hn (partsOf_step h4 hp), step_odd hc (Or.inl hm)⟩
theorem scan_odd2 {d r : List UInt8} {c e : UInt8} (hd : d.all dB = true) (hc : dB c = false) (hm : isMark c = true) (he : e ≠ 47) : ∃ p ps, partsOf (d ++ c :: e :: r) = p :: ps ∧ stepE p = 3 := by
  have hn : ∀ c ∈ d, c ≠ 47 := fun c hc => dB_not47 (List.all_eq_true.1 hd c hc)
  obtain ⟨p, ps, hp⟩ := partsOf_cons r
  exact ⟨_, _, partsOf_app d _ _ ps hn (partsOf_step (isMark_not47 hm) (partsOf_step he hp)), step_odd hc (Or.inr (by simp))⟩
theorem isMark_notD {c : UInt8} (h : isMark c = true) : dB c = false := by
  cases hd : dB c with
  | false => rfl
  | true => rw [dB_notMark hd] at h; cases h
theorem parts_end {d m : List UInt8} (hd : d.all dB = true) (hm : ∀ c ∈ m, isMark c = true) : partsOf (d ++ m) = [d ++ m] :=
  partsOf_no (fun c hc => by
    rcases List.mem_append.1 hc with h | h
    · exact dB_not47 (List.all_eq_true.1 hd c h)
    · exact isMark_not47 (hm c h))
theorem parts_go {d m r : List UInt8} (hd : d.all dB = true) (hm : ∀ c ∈ m, isMark c = true) : partsOf (d ++ m ++ 47 :: r) = (d ++ m) :: partsOf r :=
  partsOf_cut (fun c hc => by
    rcases List.mem_append.1 hc with h | h
    · exact dB_not47 (List.all_eq_true.1 hd c h)
    · exact isMark_not47 (hm c h))
end Go.Proofs.YtfkpdbmgiefnfaaDoor.Hk

/-
  The reference's decimal and Path, walked. Conditions: steps of 32 bits, at most 300.
-/
namespace Go.Proofs.YtfkpdbmgiefnfaaDoor.Hk
open Go.RowKit

/-- A byte that has just been laid, as a text. -/
theorem one_str (W : World) (x : Int) (h0 : 0 ≤ x) (h1 : x ≤ 255) :
    (convert 22 9 (.slice (some ⟨W.heap.size, 0, none⟩) 1 1)).run Tryd.prog (W.alloc (.cells #[.int .u8 x] 5)) = .ok (.string ⟨#[UInt8.ofNat x.toNat]⟩) (W.alloc (.cells #[.int .u8 x] 5)) := by
  have hx : [Value.int .u8 x] = [UInt8.ofNat x.toNat].map bv := by
    show [Value.int .u8 x] = [Value.int .u8 ((UInt8.ofNat x.toNat).toNat : Int)]
    rw [UInt8.toNat_ofNat']
    congr 2
    omega
  exact run_string_of (P := Tryd.prog) _ 22 9 5 Tryd.underlying22 Tryd.underlying5 Tryd.underlying9 _ _ _ (Byt.made W 5 _ [UInt8.ofNat x.toNat] hx (by unfold maxLen; simp))

theorem byte_str (x : Int) (h0 : 0 ≤ x) (h1 : x ≤ 255) (W : World) (b : Nat) (h : W.cell? ⟨b, 0, none⟩ = some (.int .u8 x)) :
    (convert 22 9 (.slice (some ⟨b, 0, none⟩) 1 1)).run Tryd.prog W = .ok (.string ⟨#[UInt8.ofNat x.toNat]⟩) W := by
  refine run_string_of (P := Tryd.prog) _ 22 9 5 Tryd.underlying22 Tryd.underlying5 Tryd.underlying9 (b + 1) _ [UInt8.ofNat x.toNat] ⟨_, 1, rfl, Nat.le_refl _, by unfold maxLen; omega, (by intro h; cases h), fun _ => ⟨b, 0, rfl, by omega, fun j u hu => ?_⟩⟩
  rcases j with _ | j
  · simp only [List.getElem?_cons_zero, Option.some.injEq] at hu
    subst hu
    rw [Nat.zero_add, h]
    show some (Value.int .u8 x) = some (Value.int .u8 ((UInt8.ofNat x.toNat).toNat : Int))
    rw [UInt8.toNat_ofNat']
    congr 2
    omega
  · simp at hu
theorem made_cell {W w1 : World} {x : Value} {T : TypeId} (hb : Below (W.alloc (.cells #[x] T)).heap.size (W.alloc (.cells #[x] T)) w1) : w1.cell? ⟨W.heap.size, 0, none⟩ = some x :=
  (hb.cell (p := ⟨W.heap.size, 0, none⟩) (by simp)).trans (cell_of_row _ _ 0 _ _ _ (heap_alloc_new W _))

theorem made_cell' {W w1 : World} {x : Value} {T : TypeId} (hb : Below (W.alloc (.cells #[x] T)).drew.heap.size (W.alloc (.cells #[x] T)).drew w1) : w1.cell? ⟨W.heap.size, 0, none⟩ = some x :=
  (hb.cell (p := ⟨W.heap.size, 0, none⟩) (by simp)).trans (cell_of_row _ _ 0 _ _ _ (heap_alloc_new W _))

theorem below_drew {w w1 : World} (h : Below w.drew.heap.size w.drew w1) : Below w.heap.size w w1 := ⟨h.os, h.tape, h.output, h.size, h.block⟩
theorem below_made {w w1 : World} {o : Obj} (h : Below (w.alloc o).drew.heap.size (w.alloc o).drew w1) : Below w.heap.size w w1 :=
  (((Below.refl _ w).alloc (Nat.le_refl _) o)).trans ⟨h.os, h.tape, h.output, Nat.le_trans (by simp) h.size, fun k hk => h.block k (Nat.lt_of_lt_of_le hk (by simp))⟩
theorem below_made' {w w1 : World} {o : Obj} (h : Below (w.alloc o).heap.size (w.alloc o) w1) : Below w.heap.size w w1 :=
  (((Below.refl _ w).alloc (Nat.le_refl _) o)).trans (h.mono (by simp))
theorem dec_join {D : ByteArray} {l : List UInt8} {c : UInt8} (hD : D = ⟨l.toArray⟩) : D ++ ⟨#[c]⟩ = ⟨(l ++ [c]).toArray⟩ := by
  apply Go.WideShapes.bytes_inj
  rw [hD]
  simp


set_option maxRecDepth 100000 in
set_option maxHeartbeats 1600000 in
theorem decimal_any : ∀ (f n : Nat) (w : World), f ≤ 9 → n < 10 ^ (f + 1) → n < 4294967296 →
    Calls Tryd.prog 26 #[.int .u32 (n : Int)] w fun e w' => e = .returned (.string ⟨(Lib.decDigits n).toArray⟩) ∧ Below w.heap.size w w'
  | f, n, w, hf9, hn, hn32 => by
    by_cases hb : n < 10
    · have hd : Lib.decDigits n = [UInt8.ofNat (48 + n)] := Lib.decDigits_one hb
      have HD := Lib.hid hd
      have kc := one_str w (48 + n) (by omega) (by omega)
      have e6 : IntKind.u32.wrap (48 + (n : Int)) = 48 + (n : Int) := by rw [IntKind.wrap_u32]; omega
      have e7 : IntKind.u8.wrap (48 + (n : Int)) = 48 + (n : Int) := by rw [IntKind.wrap_u8]; omega
      clear hd hn
      go_enter Tryd.func26, Tryd.ntmps26
      go_wp2
      go_ret
      refine ⟨?_, (Below.refl _ _).alloc (Nat.le_refl _) _⟩
      rw [HD.out]
      rfl
    · match f, hn with
      | 0, hn => exact absurd hn (by omega)
      | f + 1, hn =>
        have hd : Lib.decDigits n = Lib.decDigits (n / 10) ++ [UInt8.ofNat (48 + n % 10)] := by
          conv => lhs; rw [Lib.decDigits]
          rw [dif_neg hb]
        have ih := fun w => decimal_any f (n / 10) w (by omega) (by rw [Nat.pow_succ] at hn; omega) (by omega)
        have e10 : ((n / 10 : Nat) : Int) = (n : Int) / 10 := by omega
        rw [e10] at ih
        have hlen := dec_len 10 (n / 10) (by omega) (by omega)
        obtain ⟨D, hD⟩ : ∃ D : ByteArray, D = ⟨(Lib.decDigits (n / 10)).toArray⟩ := ⟨_, rfl⟩
        have hds : D.size ≤ 17 := by rw [hD]; show (Lib.decDigits (n / 10)).toArray.size ≤ _; rw [List.size_toArray]; omega
        rw [← hD] at ih
        have HD := Lib.hid hd
        have HDD := Lib.hid hD
        have IH := Lib.hid ih
        have kc := byte_str (48 + (n : Int) % 10) (by omega) (by omega)
        have hn10 : 10 ≤ n := by omega
        clear hd hD ih hlen hn e10 hb
        go_enter Tryd.func26, Tryd.ntmps26
        have e2 : (n : Int).tdiv 10 = (n : Int) / 10 := Int.tdiv_eq_ediv_of_nonneg (by omega)
        have e3 : (n : Int).tmod 10 = (n : Int) % 10 := Int.tmod_eq_emod_of_nonneg (by omega)
        have e4 : IntKind.u32.wrap ((n : Int) / 10) = (n : Int) / 10 := by rw [IntKind.wrap_u32]; omega
        have e5 : IntKind.u32.wrap ((n : Int) % 10) = (n : Int) % 10 := by rw [IntKind.wrap_u32]; omega
        have e6 : IntKind.u32.wrap (48 + (n : Int) % 10) = 48 + (n : Int) % 10 := by rw [IntKind.wrap_u32]; omega
        have e7 : IntKind.u8.wrap (48 + (n : Int) % 10) = 48 + (n : Int) % 10 := by rw [IntKind.wrap_u8]; omega
        go_wp2_with fail
        go_region_with (go_at_call 26; refine (IH.out _).mono ?_; rintro e w1 ⟨rfl, hb1⟩; first | (have hc1 := kc _ _ (made_cell hb1)) | (have hc1 := kc _ _ (made_cell' hb1)) | skip)
        all_goals
          go_wp2
          refine bodyPost_ret (v := .string (D ++ ⟨#[UInt8.ofNat (48 + n % 10)]⟩)) (by simp [results, Tryd.results26, go_sem]) rfl ⟨?_, ?_⟩
          · rw [HD.out, ← dec_join HDD.out]
          · first
              | exact (below_drew hb1).alloc (below_drew hb1).size _
              | exact below_made hb1
              | exact below_made' hb1
end Go.Proofs.YtfkpdbmgiefnfaaDoor.Hk
