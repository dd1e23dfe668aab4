/-
  Operations of a script: what bytes are parsed as, and how a list of them lies in memory. Conditions: sizes within the reach.
-/
import Derived.Test.YtadgaeokiolmmaaSnRfrom
import Derived.Test.YtadgaeokiolmmaaRdr
namespace Go.Proofs.Ytadgaeokiolmmaa
open Go.RowKit

/-- How many bytes stand behind a code, the error, the bytes left. -/
def sizeD (c : UInt8) (xs : List UInt8) : Int × Int × List UInt8 :=
  if c.toNat < 76 then ((c.toNat : Int), 0, xs) else if c.toNat = 76 then numR 1 0 xs else if c.toNat = 77 then numR 2 0 xs
  else if c.toNat = 78 then (min (numR 4 0 xs).1 2147483647, (numR 4 0 xs).2.1, (numR 4 0 xs).2.2) else (0, 0, xs)
/-- The bytes behind a code, the error, the bytes left. -/
def opR (c : UInt8) (xs : List UInt8) : List UInt8 × Int × List UInt8 := rawR (sizeD c xs).1 (sizeD c xs).2.1 (sizeD c xs).2.2
theorem numR_two (n : Nat) (xs : List UInt8) : (numR n 0 xs).2.1 = 0 ∨ (numR n 0 xs).2.1 = 4 := by unfold numR; rw [if_neg (by decide)]; split; exact .inr rfl; exact .inl rfl
theorem numR_rest (n : Nat) (xs : List UInt8) : (numR n 0 xs).2.2.length ≤ xs.length := by unfold numR; rw [if_neg (by decide)]; split; exact Nat.le_refl _; rw [List.length_drop]; exact Nat.sub_le _ _
theorem numR_bd (n : Nat) (xs : List UInt8) : 0 ≤ (numR n 0 xs).1 ∧ (numR n 0 xs).1 < 256 ^ n := by
  unfold numR
  rw [if_neg (by decide)]
  split
  · exact ⟨by simp, by show (0 : Int) < 256 ^ n; exact Int.pow_pos (by decide)⟩
  · have h := val_bd (xs.take n)
    rw [List.length_take, Nat.min_eq_left (by omega)] at h
    exact h
theorem numR_one (c : UInt8) (cs : List UInt8) : numR 1 0 (c :: cs) = ((c.toNat : Int), 0, cs) := by
  unfold numR
  rw [if_neg (by decide), if_neg (by simp)]
  simp [val]
theorem sizeD_two (c : UInt8) (xs : List UInt8) : (sizeD c xs).2.1 = 0 ∨ (sizeD c xs).2.1 = 4 := by
  unfold sizeD
  split
  · exact .inl rfl
  split
  · exact numR_two _ _
  split
  · exact numR_two _ _
  split
  · exact numR_two 4 xs
  · exact .inl rfl
theorem sizeD_rest (c : UInt8) (xs : List UInt8) : (sizeD c xs).2.2.length ≤ xs.length := by
  unfold sizeD
  split
  · exact Nat.le_refl _
  split
  · exact numR_rest _ _
  split
  · exact numR_rest _ _
  split
  · exact numR_rest 4 xs
  · exact Nat.le_refl _
theorem sizeD_bd (c : UInt8) (xs : List UInt8) : 0 ≤ (sizeD c xs).1 ∧ (sizeD c xs).1 ≤ 2147483647 := by
  have hc := c.toNat_lt
  unfold sizeD
  split
  · dsimp only; omega
  split
  · have := numR_bd 1 xs; omega
  split
  · have := numR_bd 2 xs; omega
  split
  · have := numR_bd 4 xs
    dsimp only
    omega
  · dsimp only; omega
theorem opR_two (c : UInt8) (xs : List UInt8) : (opR c xs).2.1 = 0 ∨ (opR c xs).2.1 = 4 := by
  unfold opR rawR
  rcases sizeD_two c xs with h | h
  · rw [h, if_neg (by decide)]; split; exact .inr rfl; exact .inl rfl
  · rw [h, if_pos (by decide)]; exact .inr rfl
theorem opR_rest (c : UInt8) (xs : List UInt8) : (opR c xs).2.2.length ≤ xs.length := by
  have h1 := sizeD_rest c xs
  unfold opR rawR
  split
  · exact h1
  split
  · exact h1
  · exact Nat.le_trans (by rw [List.length_drop]; exact Nat.sub_le _ _) h1
theorem opR_data (c : UInt8) (xs : List UInt8) : (opR c xs).1.length ≤ xs.length := by
  have h1 := sizeD_rest c xs
  unfold opR rawR
  split
  · simp
  split
  · simp
  · exact Nat.le_trans (List.length_take_le' _ _) h1

/-- What bytes are parsed as: codes, each with the bytes behind it; none: bytes are wanting. -/
def parseP : List UInt8 → Option (List (UInt8 × List UInt8))
  | [] => some []
  | c :: xs => if (opR c xs).2.1 = 0 then (parseP (opR c xs).2.2).map ((c, (opR c xs).1) :: ·) else none
termination_by xs => xs.length
decreasing_by have := opR_rest c xs; simp; omega
theorem parseP_nil : parseP [] = some [] := by unfold parseP; rfl
theorem parseP_ok {c : UInt8} {xs : List UInt8} (h : (opR c xs).2.1 = 0) : parseP (c :: xs) = (parseP (opR c xs).2.2).map ((c, (opR c xs).1) :: ·) := by rw [parseP, if_pos h]
theorem parseP_bad {c : UInt8} {xs : List UInt8} (h : (opR c xs).2.1 ≠ 0) : parseP (c :: xs) = none := by rw [parseP, if_neg h]

/-- A code, the slice value of its bytes, these bytes. -/
structure Piece where
  code : UInt8
  at_ : Value
  data : List UInt8
def Piece.cells (p : Piece) : List Value := [bv p.code, p.at_]
def Piece.pair (p : Piece) : UInt8 × List UInt8 := (p.code, p.data)
def cellsOf (L : List Piece) : List Value := L.flatMap Piece.cells
theorem cellsOf_length (L : List Piece) : (cellsOf L).length = L.length * 2 := by
  induction L with
  | nil => rfl
  | cons p L ih => unfold cellsOf at ih ⊢; rw [List.flatMap_cons, List.length_append, ih]; simp [Piece.cells]; omega
theorem cellsOf_snoc (L : List Piece) (p : Piece) : cellsOf (L ++ [p]) = cellsOf L ++ [bv p.code, p.at_] := by simp [cellsOf, Piece.cells]
theorem cellsOf_at {L : List Piece} {i : Nat} {p : Piece} (h : L[i]? = some p) : (cellsOf L)[i * 2]? = some (bv p.code) ∧ (cellsOf L)[i * 2 + 1]? = some p.at_ := by
  induction L generalizing i with
  | nil => simp at h
  | cons q L ih =>
    unfold cellsOf at ih ⊢
    rw [List.flatMap_cons]
    cases i with
    | zero =>
      have e : q = p := by simpa using h
      subst e
      exact ⟨rfl, rfl⟩
    | succ i =>
      have h2 := ih (i := i) (by simpa using h)
      have e1 : (i + 1) * 2 = (i * 2) + 1 + 1 := by omega
      rw [e1]
      exact h2

/-- The slice value v holds these operations in blocks of its own from base on, each one's bytes in a block apart. -/
def OpsAt (w : World) (base : Nat) (v : Value) (L : List Piece) : Prop :=
  w.ownsRow base 37 2 v L.length (cellsOf L) ∧ (∀ p ∈ L, OwnB w base p.at_ p.data) ∧ L.Pairwise (fun p q => ∀ g, p.at_.ownBlock = some g → q.at_.ownBlock ≠ some g)

theorem own_base {w : World} {b b' : Nat} {e : TypeId} {size n : Nat} {v : Value} {xs : List Value} (h : w.ownsRow b e size v n xs) (hb : b' ≤ b) : w.ownsRow b' e size v n xs := by
  refine ⟨h.1, ?_⟩
  rcases h.2 with h | ⟨g, cap, cur, hv, hg, r⟩
  · exact .inl h
  · exact .inr ⟨g, cap, cur, hv, Nat.le_trans hb hg, r⟩
theorem OpsAt.base {w : World} {b b' : Nat} {v : Value} {L : List Piece} (h : OpsAt w b v L) (hb : b' ≤ b) : OpsAt w b' v L :=
  ⟨own_base h.1 hb, fun p hp => own_base (h.2.1 p hp) hb, h.2.2⟩
theorem OpsAt.nil (w : World) (base : Nat) : OpsAt w base (.slice none 0 0) [] := ⟨World.ownsRow_nil _ _ _ _, (fun _ h => by cases h), List.Pairwise.nil⟩
theorem OpsAt.form {w : World} {base : Nat} {v : Value} {L : List Piece} (h : OpsAt w base v L) : ∃ A c, v = .slice A L.length c := own_form h.1
theorem OpsAt.turns {S : Nat → Prop} {w w' : World} {base : Nat} {v : Value} {L : List Piece} (h : OpsAt w base v L) (ht : Turns S w w') (hv : ∀ k, v.ownBlock = some k → ¬ S k) (hL : ∀ p ∈ L, ∀ k, p.at_.ownBlock = some k → ¬ S k) : OpsAt w' base v L :=
  ⟨own_turns h.1 ht hv, fun p hp => own_turns (h.2.1 p hp) ht (hL p hp), h.2.2⟩
theorem OpsAt.turns_low {S : Nat → Prop} {w w' : World} {base : Nat} {v : Value} {L : List Piece} (h : OpsAt w base v L) (ht : Turns S w w') (hS : ∀ k, base ≤ k → ¬ S k) : OpsAt w' base v L :=
  h.turns ht (fun k hk => hS k (h.1.lt k hk).1) (fun p hp k hk => hS k (World.ownsRow.lt (h.2.1 p hp) k hk).1)
theorem OpsAt.below {w w' : World} {base : Nat} {v : Value} {L : List Piece} (h : OpsAt w base v L) (hb : Below w.heap.size w w') : OpsAt w' base v L :=
  h.turns (Turns.of_below (S := fun _ => False) hb) (fun _ _ h => h) (fun _ _ _ _ h => h)
theorem OpsAt.alloc {w : World} {base : Nat} {v : Value} {L : List Piece} (h : OpsAt w base v L) (o : Obj) : OpsAt (w.alloc o) base v L := h.below ((Below.refl _ _).alloc (Nat.le_refl _) o)
theorem own_types {w : World} {b b' : Nat} {e e' : TypeId} {s s' n n' : Nat} {v v' : Value} {xs xs' : List Value} (h : w.ownsRow b e s v n xs) (h' : w.ownsRow b' e' s' v' n' xs') (hne : e ≠ e') {g : Nat} (hg : v.ownBlock = some g) : v'.ownBlock ≠ some g := by
  rcases h.2 with ⟨rfl, _⟩ | ⟨g1, cap, cur, rfl, _, hh, _⟩
  · simp [Value.ownBlock] at hg
  · have : g1 = g := by simpa [Value.ownBlock] using hg
    subst this
    rcases h'.2 with ⟨rfl, _⟩ | ⟨g', cap', cur', rfl, _, hh', _⟩
    · simp [Value.ownBlock]
    · intro he
      have e1 : g' = g1 := by simpa [Value.ownBlock] using he
      subst e1
      rw [hh] at hh'
      injection hh' with hh'
      injection hh' with _ ht
      exact hne ht
/-- One more: the list's row has grown; its bytes lie apart from all that was there. -/
theorem OpsAt.snoc {w w' : World} {base n : Nat} {v v' : Value} {L : List Piece} {p : Piece} (h : OpsAt w base v L) (hd : OwnB w base p.at_ p.data) (hn : ∀ q ∈ L, ∀ g, q.at_.ownBlock = some g → p.at_.ownBlock ≠ some g)
    (hown : w'.ownsRow base 37 2 v' n (cellsOf L ++ [bv p.code, p.at_])) (he : n = L.length + 1) (hg : w.grownBy w' v.ownBlock) : OpsAt w' base v' (L ++ [p]) := by
  have ht : Turns (fun k => v.ownBlock = some k) w w' := (Turns.refl _ w).grown hg (fun k hk _ => hk)
  subst he
  refine ⟨by rw [cellsOf_snoc, List.length_append]; exact hown, fun q hq => ?_, ?_⟩
  · rcases List.mem_append.1 hq with hq | hq
    · exact own_turns (h.2.1 q hq) ht (fun k hk hv => own_types h.1 (h.2.1 q hq) (by decide) hv hk)
    · obtain rfl : q = p := by simpa using hq
      exact own_turns hd ht (fun k hk hv => own_types h.1 hd (by decide) hv hk)
  · rw [List.pairwise_append]
    refine ⟨h.2.2, by simp, fun a ha b hb => ?_⟩
    obtain rfl : b = p := by simpa using hb
    exact hn a ha

theorem info_op : (Try.prog.info? 37).map (fun i => (i.zero, i.size, i.bytes)) = some (some (.agg #[.int .u8 0, .slice none 0 0]), 2, 32) := by kernel_rfl
theorem slice_op : Try.prog.underlying 27 = some (.slice 37) := Try.underlying27

/-- append of one operation. -/
theorem wpList_append_op {w : World} {ops : Array Oper} {rest : List Oper} {o : Oper} {a : Act} {Q : Exit → Act → World → Prop} (hgd : o.guard = none) (s x : Operand)
    (ho : o.op = .call { callee := .builtin .append, args := #[s, x], argTypes := #[27, 27] })
    (base : Nat) (v : Value) (n : Nat) (xs : List Value) (hs : a.eval s = v) (hown : w.ownsRow base 37 2 v n xs)
    (g : Nat) (u0 u1 : Value) (hx : a.eval x = .slice (some ⟨g, 0, none⟩) 1 1) (h0 : w.cell? ⟨g, 0, none⟩ = some u0) (h1 : w.cell? ⟨g, 1, none⟩ = some u1) (k0 : u0.oneCell' = true) (k1 : u1.oneCell' = true)
    (hb : (n + 1) * 32 ≤ 140737488355328) (hbase : base ≤ w.heap.size)
    (h : ∀ v' w', w'.ownsRow base 37 2 v' (n + 1) (xs ++ [u0, u1]) → w.grownBy w' v.ownBlock → wpList Try.prog ops Q rest (a.put o.dst v') w') :
    wpList Try.prog ops Q (o :: rest) a w := by
  obtain ⟨i, hi, hz, hsz, hby⟩ := info_parts info_op
  refine wpList_plain hgd fun K hK => ?_
  obtain ⟨v', w', hrun, h2, h3, _, _⟩ := run_append_own_at (P := Try.prog) w base 27 o.type 37 i _ 2 32 slice_op hi hz hsz hby rfl (by decide) v n xs hown ⟨g, 0, none⟩ 1 1 [u0, u1] rfl
    (by
      intro j u hu
      match j, hu with
      | 0, hu => exact Option.some.inj hu ▸ h0
      | 1, hu => exact Option.some.inj hu ▸ h1)
    (by intro u hu; simp at hu; rcases hu with rfl | rfl; exact k0; exact k1) (by unfold maxLen; omega) hb hbase
  unfold Oper.wp execOp
  simp only [ho, resolve, invoke, builtin, Sem.run_bind, Sem.run_pure, Result.andThen_ok, List.map_toArray, List.map_cons, List.map_nil, hs, hx, hrun]
  exact hK _ _ (h v' w' h2 h3)
end Go.Proofs.Ytadgaeokiolmmaa
