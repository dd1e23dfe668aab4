/-
  Texts joined: SnOps, SnParse, SnFind. Conditions: those of each.
-/
import Derived.Test.YtocblkacdoahfaaGreatDoorJ7
import Derived.Test.YtocblkacdoahfaaGreatDoorJ4
import Derived.Deep.LoopGhost
/-
  Operations of a script: what bytes are parsed as, and how a list of them lies in memory. Conditions: sizes within the reach.
-/
namespace Go.Proofs.YtocblkacdoahfaaGreatDoor.Sn
open Go.RowKit

/-- How many bytes stand behind a code, the error, the bytes left. -/
def sizeD (c : UInt8) (xs : List UInt8) : Int × Int × List UInt8 :=
  if c.toNat < 76 then ((c.toNat : Int), 0, xs) else if c.toNat = 76 then numR 1 0 xs else if c.toNat = 77 then numR 2 0 xs
  else if c.toNat = 78 then (min (numR 4 0 xs).1 2147483647, (numR 4 0 xs).2.1, (numR 4 0 xs).2.2) else (0, 0, xs)
/-- The bytes behind a code, the error, the bytes left. -/
def opR (c : UInt8) (xs : List UInt8) : List UInt8 × Int × List UInt8 := rawR (sizeD c xs).1 (sizeD c xs).2.1 (sizeD c xs).2.2
theorem numR_two (n : Nat) (xs : List UInt8) : (numR n 0 xs).2.1 = 0 ∨ (numR n 0 xs).2.1 = 4 := by unfold numR; rw [if_neg (by decide)]; split; exact .inr rfl; exact .inl rfl
theorem numR_rest (n : Nat) (xs : List UInt8) : (numR n 0 xs).2.2.length ≤ xs.length := by unfold numR; rw [if_neg (by decide)]; split; exact Nat.le_refl _; rw [List.length_drop]; exact Nat.sub_le _ _
theorem numR_bd (n : Nat) (xs : List UInt8) : 0 ≤ (numR n 0 xs).1 ∧ (numR n 0 xs).1 < 256 ^ n := by
  unfold numR
  rw [if_neg (by decide)]
  split
  · exact ⟨by simp, by show (0 : Int) < 256 ^ n; exact Int.pow_pos (by decide)⟩
  · have h := val_bd (xs.take n)
    rw [List.length_take, Nat.min_eq_left (by omega)] at h
    exact h
theorem numR_one (c : UInt8) (cs : List UInt8) : numR 1 0 (c :: cs) = ((c.toNat : Int), 0, cs) := by
  unfold numR
  rw [if_neg (by decide), if_neg (by simp)]
  simp [val]
theorem sizeD_two (c : UInt8) (xs : List UInt8) : (sizeD c xs).2.1 = 0 ∨ (sizeD c xs).2.1 = 4 := by
  unfold sizeD
  split
  · exact .inl rfl
  split
  · exact numR_two _ _
  split
  · exact numR_two _ _
  split
  · exact numR_two 4 xs
  · exact .inl rfl
theorem sizeD_rest (c : UInt8) (xs : List UInt8) : (sizeD c xs).2.2.length ≤ xs.length := by
  unfold sizeD
  split
  · exact Nat.le_refl _
  split
  · exact numR_rest _ _
  split
  · exact numR_rest _ _
  split
  · exact numR_rest 4 xs
  · exact Nat.le_refl _
theorem sizeD_bd (c : UInt8) (xs : List UInt8) : 0 ≤ (sizeD c xs).1 ∧ (sizeD c xs).1 ≤ 2147483647 := by
  have hc := c.toNat_lt
  unfold sizeD
  split
  · dsimp only; omega
  split
  · have := numR_bd 1 xs; omega
  split
  · have := numR_bd 2 xs; omega
  split
  · have := numR_bd 4 xs
    dsimp only
    omega
  · dsimp only; omega
theorem opR_two (c : UInt8) (xs : List UInt8) : (opR c xs).2.1 = 0 ∨ (opR c xs).2.1 = 4 := by
  unfold opR rawR
  rcases sizeD_two c xs with h | h
  · rw [h, if_neg (by decide)]; split; exact .inr rfl; exact .inl rfl
  · rw [h, if_pos (by decide)]; exact .inr rfl
theorem opR_rest (c : UInt8) (xs : List UInt8) : (opR c xs).2.2.length ≤ xs.length := by
  have h1 := sizeD_rest c xs
  unfold opR rawR
  split
  · exact h1
  split
  · exact h1
  · exact Nat.le_trans (by rw [List.length_drop]; exact Nat.sub_le _ _) h1
theorem opR_data (c : UInt8) (xs : List UInt8) : (opR c xs).1.length ≤ xs.length := by
  have h1 := sizeD_rest c xs
  unfold opR rawR
  split
  · simp
  split
  · simp
  · exact Nat.le_trans (List.length_take_le' _ _) h1

/-- What bytes are parsed as: codes, each with the bytes behind it; none: bytes are wanting. -/
def parseP : List UInt8 → Option (List (UInt8 × List UInt8))
  | [] => some []
  | c :: xs => if (opR c xs).2.1 = 0 then (parseP (opR c xs).2.2).map ((c, (opR c xs).1) :: ·) else none
termination_by xs => xs.length
decreasing_by have := opR_rest c xs; simp; omega
theorem parseP_nil : parseP [] = some [] := by unfold parseP; rfl
theorem parseP_ok {c : UInt8} {xs : List UInt8} (h : (opR c xs).2.1 = 0) : parseP (c :: xs) = (parseP (opR c xs).2.2).map ((c, (opR c xs).1) :: ·) := by rw [parseP, if_pos h]
theorem parseP_bad {c : UInt8} {xs : List UInt8} (h : (opR c xs).2.1 ≠ 0) : parseP (c :: xs) = none := by rw [parseP, if_neg h]

/-- A code, the slice value of its bytes, these bytes. -/
structure Piece where
  code : UInt8
  at_ : Value
  data : List UInt8
def Piece.cells (p : Piece) : List Value := [bv p.code, p.at_]
def Piece.pair (p : Piece) : UInt8 × List UInt8 := (p.code, p.data)
def cellsOf (L : List Piece) : List Value := L.flatMap Piece.cells
theorem cellsOf_length (L : List Piece) : (cellsOf L).length = L.length * 2 := by
  induction L with
  | nil => rfl
  | cons p L ih => unfold cellsOf at ih ⊢; rw [List.flatMap_cons, List.length_append, ih]; simp [Piece.cells]; omega
theorem cellsOf_snoc (L : List Piece) (p : Piece) : cellsOf (L ++ [p]) = cellsOf L ++ [bv p.code, p.at_] := by simp [cellsOf, Piece.cells]
theorem cellsOf_at {L : List Piece} {i : Nat} {p : Piece} (h : L[i]? = some p) : (cellsOf L)[i * 2]? = some (bv p.code) ∧ (cellsOf L)[i * 2 + 1]? = some p.at_ := by
  induction L generalizing i with
  | nil => simp at h
  | cons q L ih =>
    unfold cellsOf at ih ⊢
    rw [List.flatMap_cons]
    cases i with
    | zero =>
      have e : q = p := by simpa using h
      subst e
      exact ⟨rfl, rfl⟩
    | succ i =>
      have h2 := ih (i := i) (by simpa using h)
      have e1 : (i + 1) * 2 = (i * 2) + 1 + 1 := by omega
      rw [e1]
      exact h2

/-- The slice value v holds these operations in blocks of its own from base on, each one's bytes in a block apart. -/
def OpsAt (w : World) (base : Nat) (v : Value) (L : List Piece) : Prop :=
  w.ownsRow base 83 2 v L.length (cellsOf L) ∧ (∀ p ∈ L, OwnB w base p.at_ p.data) ∧ L.Pairwise (fun p q => ∀ g, p.at_.ownBlock = some g → q.at_.ownBlock ≠ some g)

theorem own_base {w : World} {b b' : Nat} {e : TypeId} {size n : Nat} {v : Value} {xs : List Value} (h : w.ownsRow b e size v n xs) (hb : b' ≤ b) : w.ownsRow b' e size v n xs := by
  refine ⟨h.1, ?_⟩
  rcases h.2 with h | ⟨g, cap, cur, hv, hg, r⟩
  · exact .inl h
  · exact .inr ⟨g, cap, cur, hv, Nat.le_trans hb hg, r⟩
theorem OpsAt.base {w : World} {b b' : Nat} {v : Value} {L : List Piece} (h : OpsAt w b v L) (hb : b' ≤ b) : OpsAt w b' v L :=
  ⟨own_base h.1 hb, fun p hp => own_base (h.2.1 p hp) hb, h.2.2⟩
theorem OpsAt.nil (w : World) (base : Nat) : OpsAt w base (.slice none 0 0) [] := ⟨World.ownsRow_nil _ _ _ _, (fun _ h => by cases h), List.Pairwise.nil⟩
theorem OpsAt.form {w : World} {base : Nat} {v : Value} {L : List Piece} (h : OpsAt w base v L) : ∃ A c, v = .slice A L.length c := own_form h.1
theorem OpsAt.turns {S : Nat → Prop} {w w' : World} {base : Nat} {v : Value} {L : List Piece} (h : OpsAt w base v L) (ht : Turns S w w') (hv : ∀ k, v.ownBlock = some k → ¬ S k) (hL : ∀ p ∈ L, ∀ k, p.at_.ownBlock = some k → ¬ S k) : OpsAt w' base v L :=
  ⟨own_turns h.1 ht hv, fun p hp => own_turns (h.2.1 p hp) ht (hL p hp), h.2.2⟩
theorem OpsAt.turns_low {S : Nat → Prop} {w w' : World} {base : Nat} {v : Value} {L : List Piece} (h : OpsAt w base v L) (ht : Turns S w w') (hS : ∀ k, base ≤ k → ¬ S k) : OpsAt w' base v L :=
  h.turns ht (fun k hk => hS k (h.1.lt k hk).1) (fun p hp k hk => hS k (World.ownsRow.lt (h.2.1 p hp) k hk).1)
theorem OpsAt.below {w w' : World} {base : Nat} {v : Value} {L : List Piece} (h : OpsAt w base v L) (hb : Below w.heap.size w w') : OpsAt w' base v L :=
  h.turns (Turns.of_below (S := fun _ => False) hb) (fun _ _ h => h) (fun _ _ _ _ h => h)
theorem OpsAt.alloc {w : World} {base : Nat} {v : Value} {L : List Piece} (h : OpsAt w base v L) (o : Obj) : OpsAt (w.alloc o) base v L := h.below ((Below.refl _ _).alloc (Nat.le_refl _) o)
theorem own_types {w : World} {b b' : Nat} {e e' : TypeId} {s s' n n' : Nat} {v v' : Value} {xs xs' : List Value} (h : w.ownsRow b e s v n xs) (h' : w.ownsRow b' e' s' v' n' xs') (hne : e ≠ e') {g : Nat} (hg : v.ownBlock = some g) : v'.ownBlock ≠ some g := by
  rcases h.2 with ⟨rfl, _⟩ | ⟨g1, cap, cur, rfl, _, hh, _⟩
  · simp [Value.ownBlock] at hg
  · have : g1 = g := by simpa [Value.ownBlock] using hg
    subst this
    rcases h'.2 with ⟨rfl, _⟩ | ⟨g', cap', cur', rfl, _, hh', _⟩
    · simp [Value.ownBlock]
    · intro he
      have e1 : g' = g1 := by simpa [Value.ownBlock] using he
      subst e1
      rw [hh] at hh'
      injection hh' with hh'
      injection hh' with _ ht
      exact hne ht
/-- One more: the list's row has grown; its bytes lie apart from all that was there. -/
theorem OpsAt.snoc {w w' : World} {base n : Nat} {v v' : Value} {L : List Piece} {p : Piece} (h : OpsAt w base v L) (hd : OwnB w base p.at_ p.data) (hn : ∀ q ∈ L, ∀ g, q.at_.ownBlock = some g → p.at_.ownBlock ≠ some g)
    (hown : w'.ownsRow base 83 2 v' n (cellsOf L ++ [bv p.code, p.at_])) (he : n = L.length + 1) (hg : w.grownBy w' v.ownBlock) : OpsAt w' base v' (L ++ [p]) := by
  have ht : Turns (fun k => v.ownBlock = some k) w w' := (Turns.refl _ w).grown hg (fun k hk _ => hk)
  subst he
  refine ⟨by rw [cellsOf_snoc, List.length_append]; exact hown, fun q hq => ?_, ?_⟩
  · rcases List.mem_append.1 hq with hq | hq
    · exact own_turns (h.2.1 q hq) ht (fun k hk hv => own_types h.1 (h.2.1 q hq) (by decide) hv hk)
    · obtain rfl : q = p := by simpa using hq
      exact own_turns hd ht (fun k hk hv => own_types h.1 hd (by decide) hv hk)
  · rw [List.pairwise_append]
    refine ⟨h.2.2, by simp, fun a ha b hb => ?_⟩
    obtain rfl : b = p := by simpa using hb
    exact hn a ha

theorem info_op : (Tryz.prog.info? 83).map (fun i => (i.zero, i.size, i.bytes)) = some (some (.agg #[.int .u8 0, .slice none 0 0]), 2, 32) := by kernel_rfl
theorem slice_op : Tryz.prog.underlying 78 = some (.slice 83) := Tryz.underlying78

/-- append of one operation. -/
theorem wpList_append_op {w : World} {ops : Array Oper} {rest : List Oper} {o : Oper} {a : Act} {Q : Exit → Act → World → Prop} (hgd : o.guard = none) (s x : Operand)
    (ho : o.op = .call { callee := .builtin .append, args := #[s, x], argTypes := #[78, 78] })
    (base : Nat) (v : Value) (n : Nat) (xs : List Value) (hs : a.eval s = v) (hown : w.ownsRow base 83 2 v n xs)
    (g : Nat) (u0 u1 : Value) (hx : a.eval x = .slice (some ⟨g, 0, none⟩) 1 1) (h0 : w.cell? ⟨g, 0, none⟩ = some u0) (h1 : w.cell? ⟨g, 1, none⟩ = some u1) (k0 : u0.oneCell' = true) (k1 : u1.oneCell' = true)
    (hb : (n + 1) * 32 ≤ 140737488355328) (hbase : base ≤ w.heap.size)
    (h : ∀ v' w', w'.ownsRow base 83 2 v' (n + 1) (xs ++ [u0, u1]) → w.grownBy w' v.ownBlock → wpList Tryz.prog ops Q rest (a.put o.dst v') w') :
    wpList Tryz.prog ops Q (o :: rest) a w := by
  obtain ⟨i, hi, hz, hsz, hby⟩ := info_parts info_op
  refine wpList_plain hgd fun K hK => ?_
  obtain ⟨v', w', hrun, h2, h3, _, _⟩ := run_append_own_at (P := Tryz.prog) w base 78 o.type 83 i _ 2 32 slice_op hi hz hsz hby rfl (by decide) v n xs hown ⟨g, 0, none⟩ 1 1 [u0, u1] rfl
    (by
      intro j u hu
      match j, hu with
      | 0, hu => exact Option.some.inj hu ▸ h0
      | 1, hu => exact Option.some.inj hu ▸ h1)
    (by intro u hu; simp at hu; rcases hu with rfl | rfl; exact k0; exact k1) (by unfold maxLen; omega) hb hbase
  unfold Oper.wp execOp
  simp only [ho, resolve, invoke, builtin, Sem.run_bind, Sem.run_pure, Result.andThen_ok, List.map_toArray, List.map_cons, List.map_nil, hs, hx, hrun]
  exact hK _ _ (h v' w' h2 h3)
end Go.Proofs.YtocblkacdoahfaaGreatDoor.Sn

/-
  script.dataSize and script.Parse. Conditions: sizes within the reach.
-/
namespace Go.Proofs.YtocblkacdoahfaaGreatDoor.Sn
open Go.RowKit

set_option maxRecDepth 100000 in
set_option maxHeartbeats 1600000 in
theorem dataSize_any (r B : Nat) (v : Value) (c : UInt8) (xs : List UInt8) (w : World) (hc : Cu w r B v 0 xs) :
    Calls Tryz.prog 67 #[.pointer (some ⟨r, 0, none⟩), .int .u8 (c.toNat : Int)] w (Did w r B (.int .i64 (sizeD c xs).1) (sizeD c xs).2.1 (sizeD c xs).2.2) := by
  have hc256 := c.toNat_lt
  have did0 : ∀ n : Int, Did w r B (.int .i64 n) 0 xs (.returned (.int .i64 n)) w := fun n => ⟨rfl, v, hc, Turns.refl _ _⟩
  by_cases h1 : c.toNat < 76
  · have hs : sizeD c xs = ((c.toNat : Int), 0, xs) := by unfold sizeD; rw [if_pos h1]
    rw [hs]
    have HD := Lib.hid did0
    clear did0 hs hc
    go_enter Tryz.func67, Tryz.ntmps67
    go_wp2_with fail
    go_ret
    exact HD.out _
  by_cases h2 : c.toNat = 76
  · have hs : sizeD c xs = numR 1 0 xs := by unfold sizeD; rw [if_neg h1, if_pos h2]
    have hbd := numR_bd 1 xs
    have HU := Lib.hid (ru8_any r B v 0 xs w hc)
    rw [hs]
    obtain ⟨⟨n, k, ys⟩, hp⟩ : ∃ p, p = numR 1 0 xs := ⟨_, rfl⟩
    rw [← hp] at HU hbd ⊢
    have e : ((c.toNat : Int) == 76) = true := by simp only [beq_iff_eq]; omega
    clear did0 hs hc hp h2
    dsimp only at HU hbd ⊢
    go_enter Tryz.func67, Tryz.ntmps67
    go_wp2_with fail
    refine HU.out.mono ?_
    rintro e w1 ⟨rfl, hd⟩
    go_wp2_with fail
    go_ret
    exact ⟨rfl, hd⟩
  by_cases h3 : c.toNat = 77
  · have hs : sizeD c xs = numR 2 0 xs := by unfold sizeD; rw [if_neg h1, if_neg h2, if_pos h3]
    have hbd := numR_bd 2 xs
    have HU := Lib.hid (ru16_any r B v 0 xs w hc)
    rw [hs]
    obtain ⟨⟨n, k, ys⟩, hp⟩ : ∃ p, p = numR 2 0 xs := ⟨_, rfl⟩
    rw [← hp] at HU hbd ⊢
    have e : ((c.toNat : Int) == 76) = false := by simp only [beq_eq_false_iff_ne, ne_eq]; omega
    have e2 : ((c.toNat : Int) == 77) = true := by simp only [beq_iff_eq]; omega
    clear did0 hs hc hp h2 h3
    dsimp only at HU hbd ⊢
    go_enter Tryz.func67, Tryz.ntmps67
    go_wp2_with fail
    refine HU.out.mono ?_
    rintro e w1 ⟨rfl, hd⟩
    go_wp2_with fail
    go_ret
    exact ⟨rfl, hd⟩
  by_cases h4 : c.toNat = 78
  · have hs : sizeD c xs = (min (numR 4 0 xs).1 2147483647, (numR 4 0 xs).2.1, (numR 4 0 xs).2.2) := by unfold sizeD; rw [if_neg h1, if_neg h2, if_neg h3, if_pos h4]
    have hbd := numR_bd 4 xs
    have HU := Lib.hid (ru32_any r B v 0 xs w hc)
    rw [hs]
    obtain ⟨⟨n, k, ys⟩, hp⟩ : ∃ p, p = numR 4 0 xs := ⟨_, rfl⟩
    rw [← hp] at HU hbd ⊢
    have e : ((c.toNat : Int) == 76) = false := by simp only [beq_eq_false_iff_ne, ne_eq]; omega
    have e2 : ((c.toNat : Int) == 77) = false := by simp only [beq_eq_false_iff_ne, ne_eq]; omega
    have e3 : ((c.toNat : Int) == 78) = true := by simp only [beq_iff_eq]; omega
    clear did0 hs hc hp h2 h3 h4
    dsimp only at HU hbd ⊢
    by_cases hn : n ≤ 2147483647
    · rw [Int.min_eq_left hn]
      go_enter Tryz.func67, Tryz.ntmps67
      go_wp2_with fail
      refine HU.out.mono ?_
      rintro e w1 ⟨rfl, hd⟩
      go_wp2_with fail
      go_ret
      exact ⟨rfl, hd⟩
    · rw [Int.min_eq_right (by omega)]
      go_enter Tryz.func67, Tryz.ntmps67
      go_wp2_with fail
      refine HU.out.mono ?_
      rintro e w1 ⟨rfl, hd⟩
      go_wp2_with fail
      go_ret
      exact ⟨rfl, hd⟩
  · have hs : sizeD c xs = (0, 0, xs) := by unfold sizeD; rw [if_neg h1, if_neg h2, if_neg h3, if_neg h4]
    have e : ((c.toNat : Int) == 76) = false := by simp only [beq_eq_false_iff_ne, ne_eq]; omega
    have e2 : ((c.toNat : Int) == 77) = false := by simp only [beq_eq_false_iff_ne, ne_eq]; omega
    have e3 : ((c.toNat : Int) == 78) = false := by simp only [beq_eq_false_iff_ne, ne_eq]; omega
    rw [hs]
    have HD := Lib.hid did0
    clear did0 hs hc h2 h3 h4
    go_enter Tryz.func67, Tryz.ntmps67
    go_wp2_with fail
    go_ret
    exact HD.out _

/-- What Parse answers: a list of operations of its own, or the error. -/
def Parsed (w : World) (xs : List UInt8) (e : Ending) (w' : World) : Prop :=
  match parseP xs with
  | none => e = .returned (.tuple #[.slice none 0 0, .int .i64 4]) ∧ Below w.heap.size w w'
  | some ops => ∃ A c L, e = .returned (.tuple #[.slice A ops.length c, .int .i64 0]) ∧ L.map Piece.pair = ops ∧ OpsAt w' w.heap.size (.slice A ops.length c) L ∧ Below w.heap.size w w'
theorem parsed_none {w w' : World} {xs : List UInt8} (h : parseP xs = none) (hb : Below w.heap.size w w') : Parsed w xs (.returned (.tuple #[.slice none 0 0, .int .i64 4])) w' := by unfold Parsed; rw [h]; exact ⟨rfl, hb⟩
theorem parsed_some {w w' : World} {xs : List UInt8} {v : Value} {L : List Piece} (h : parseP xs = some (L.map Piece.pair)) (ho : OpsAt w' w.heap.size v L) (hb : Below w.heap.size w w') : Parsed w xs (.returned (.tuple #[v, .int .i64 0])) w' := by
  unfold Parsed
  rw [h]
  obtain ⟨A, c, rfl⟩ := ho.form
  exact ⟨A, c, L, by rw [List.length_map], rfl, by rw [List.length_map]; exact ho, hb⟩

/-- What the loop keeps: the operations so far, the reader at the rest. -/
structure PWalk (w : World) (r b1 : Nat) (all : List UInt8) (v : Value) (L : List Piece) (rest : List UInt8) (wr : World) : Prop where
  ops : OpsAt wr b1 v L
  rd : ∃ rv, Cu wr r r rv 0 rest
  eq : parseP all = (parseP rest).map (L.map Piece.pair ++ ·)
  bel : Below w.heap.size w wr
  size : b1 ≤ wr.heap.size
  len : L.length + rest.length ≤ all.length

set_option maxRecDepth 100000 in
set_option maxHeartbeats 3200000 in
theorem parse_any (B : Nat) (x : Value) (xs : List UInt8) (w : World) (hx : Byt w B x xs) (hl : xs.length ≤ 60000000) :
    Calls Tryz.prog 35 #[x] w (Parsed w xs) := by
  have HO := Lib.hid (open_any B x xs w hx hl)
  obtain ⟨A, c, rfl⟩ := hx.form
  clear hx
  go_enter Tryz.func35, Tryz.ntmps35
  go_wp2_with fail
  refine HO.out.mono ?_
  rintro e w1 ⟨r, rv, rfl, hcu, hr, hb1⟩
  have hrl := hcu.lt
  go_wp2_with fail
  go_loopg [4] xs.length (fun k s wr => ∃ (v : Value) (L : List Piece) (rest : List UInt8), v = s ∧ rest.length ≤ k ∧ Hid (PWalk w r w1.heap.size xs v L rest wr))
  case atStart => exact ⟨_, [], xs, rfl, Nat.le_refl _, Lib.hid ⟨OpsAt.nil _ _, ⟨rv, hcu⟩, by simp, hb1, Nat.le_refl _, by simp⟩⟩
  case round =>
    obtain ⟨v, L, rest, hv, hk, hp⟩ := hrel
    subst hv
    obtain ⟨rv2, hcu2⟩ := hp.out.rd
    have HL := Lib.hid (rleft_any r r rv2 0 rest wr hcu2)
    cases rest with
    | nil =>
      clear hcu2
      go_wp2_with fail
      refine HL.out.mono ?_
      rintro e w2 ⟨rfl, rfl⟩
      go_wp2_with fail
      go_ret2
      refine parsed_some ?_ (hp.out.ops.base (Nat.le_trans hb1.size (Nat.le_refl _))) hp.out.bel
      rw [hp.out.eq, parseP_nil]
      simp
    | cons c rest =>
      have h8 := ru8_any r r rv2 0 (c :: rest) wr hcu2
      rw [numR_one] at h8
      have H8 := Lib.hid h8
      clear hcu2 h8
      go_wp2_with fail
      refine HL.out.mono ?_
      rintro e w2 ⟨rfl, rfl⟩
      go_wp2_with fail
      refine H8.out.mono ?_
      rintro e w2 ⟨rfl, rv3, hcu3, ht2⟩
      have HD := Lib.hid (dataSize_any r r rv3 c rest w2 hcu3)
      have hT2 := Lib.hid ht2
      clear hcu3 ht2 H8 HL
      obtain ⟨⟨n, k2, ys⟩, hn⟩ : ∃ p, p = sizeD c rest := ⟨_, rfl⟩
      have hopr : opR c rest = rawR n k2 ys := by unfold opR; rw [← hn]
      have hsr := sizeD_rest c rest
      have hsb := sizeD_bd c rest
      rw [← hn] at HD hsr hsb
      dsimp only at HD hsr hsb
      clear hn
      have HOP := Lib.hid hopr
      clear hopr
      go_wp2_with fail
      refine HD.out.mono ?_
      rintro e w3 ⟨rfl, rv4, hcu4, ht3⟩
      have hlen := hp.out.len
      have HR := Lib.hid (rraw_any r r rv4 k2 n ys w3 (by simp at hlen; omega) hcu4)
      have hT3 := Lib.hid ht3
      clear hcu4 ht3 HD
      have o2 := opR_two c rest
      have o3 := opR_rest c rest
      have o4 := opR_data c rest
      rw [HOP.out] at o2 o3 o4
      obtain ⟨⟨zs, k5, ws⟩, hz⟩ : ∃ p, p = rawR n k2 ys := ⟨_, rfl⟩
      rw [← hz] at HR o2 o3 o4 HOP
      dsimp only at HR o2 o3 o4
      clear hz
      go_wp2_with fail
      refine HR.out.mono ?_
      rintro e w4 ⟨u, rfl, A4, c4, rfl, hown4, rv5, hcu5, ht4⟩
      have hb1s := hp.out.size
      have T24 : Turns (fun i => i = r) wr w4 := (hT2.out.trans hT3.out (fun _ _ h => h)).trans ht4 (fun _ _ h => h)
      have s3 : wr.heap.size ≤ w3.heap.size := (hT2.out.trans hT3.out (fun _ _ h => h)).size
      have s4 := ht4.size
      have low : ∀ k, w1.heap.size ≤ k → ¬ k = r := fun k hk e => by omega
      have ops4 : OpsAt w4 w1.heap.size v L := hp.out.ops.turns_low T24 low
      have own4 : OwnB w4 w1.heap.size (.slice A4 zs.length c4) zs := own_base hown4 (by omega)
      have hn : ∀ q ∈ L, ∀ g, q.at_.ownBlock = some g → (Value.slice A4 zs.length c4).ownBlock ≠ some g := fun q hq g hg he => by
        have h1 := (World.ownsRow.lt (hp.out.ops.2.1 q hq) g hg).2
        have h2 := (World.ownsRow.lt hown4 g he).1
        omega
      obtain ⟨W5, hW5⟩ : ∃ W5, W5 = w4.alloc (.cells #[.int .u8 (c.toNat : Int), .slice A4 zs.length c4] 83) := ⟨_, rfl⟩
      have c0 : W5.cell? ⟨w4.heap.size, 0, none⟩ = some (.int .u8 (c.toNat : Int)) := by rw [hW5]; exact cell_of_row _ _ 0 _ _ _ (heap_alloc_new w4 _)
      have c1 : W5.cell? ⟨w4.heap.size, 1, none⟩ = some (.slice A4 zs.length c4) := by rw [hW5]; exact cell_of_row _ _ 1 _ _ _ (heap_alloc_new w4 _)
      have ops5 : OpsAt W5 w1.heap.size v L := by rw [hW5]; exact ops4.alloc _
      have own5 : OwnB W5 w1.heap.size (.slice A4 zs.length c4) zs := by rw [hW5]; exact World.ownsRow.alloc own4 _
      have cu5 : Cu W5 r r rv5 k5 ws := by rw [hW5]; exact hcu5.alloc _
      have s5 : W5.heap.size = w4.heap.size + 1 := by rw [hW5]; simp
      have bel5 : Below w.heap.size w W5 := by
        rw [hW5]
        have h1 : Below w.heap.size wr w4 := T24.below_of (by have := hp.out.bel.size; omega) (fun i hi e => by omega)
        exact (hp.out.bel.trans h1).alloc (by have := (hp.out.bel.trans h1).size; omega) _
      have hll : (L.length + 1) * 32 ≤ 140737488355328 := by simp at hlen; omega
      have OPS := Lib.hid ops5
      have OWN := Lib.hid own5
      have CU := Lib.hid cu5
      have BEL := Lib.hid bel5
      have HNN := Lib.hid hn
      have HSZ := Lib.hid (And.intro hb1s (And.intro s3 (And.intro s4 s5)))
      clear ops5 own5 cu5 bel5 hn ops4 own4 T24 ht4 hcu5 hown4 hb1s s3 s4 s5 hT2 hT3 low HR
      go_wp2_with (at_builtin; rw [← hW5]; refine wpList_append_op rfl (.tmp 14) (.tmp 22) rfl w1.heap.size _ L.length (cellsOf L) rfl OPS.out.1 w4.heap.size (.int .u8 (c.toNat : Int)) (.slice A4 zs.length c4) rfl c0 c1 rfl rfl hll (by have := HSZ.out; omega) ?_; intro v5 w5 hown5 hg5)
      clear c0 c1 hW5
      have hT5 : Turns (fun k => v.ownBlock = some k) W5 w5 := (Turns.refl _ W5).grown hg5 (fun k hk _ => hk)
      have cu6 : Cu w5 r r rv5 k5 ws := CU.out.turns hT5 (fun e => by have := (OPS.out.1.lt r e).1; omega) (fun i hi e => by have := (OPS.out.1.lt i e).1; omega)
      have ops6 := OPS.out.snoc (p := ⟨c, .slice A4 zs.length c4, zs⟩) OWN.out HNN.out hown5 rfl hg5
      have bel6 : Below w.heap.size w w5 := BEL.out.trans (hT5.below_of (by have := HSZ.out; have := hp.out.bel.size; omega) (fun i hi e => by have := (OPS.out.1.lt i e).1; have := hb1.size; omega))
      have hE := Lib.hid (rerr_any r r rv5 k5 ws w5 cu6)
      have CU6 := Lib.hid cu6
      have OPS6 := Lib.hid ops6
      have BEL6 := Lib.hid bel6
      have HS6 := Lib.hid hT5.size
      clear cu6 ops6 bel6 hT5 hown5 hg5 OPS OWN CU BEL HNN
      rcases o2 with rfl | rfl
      · have hq : parseP (c :: rest) = (parseP ws).map ((c, zs) :: ·) := by
          have h0 : (opR c rest).2.1 = 0 := by rw [HOP.out]
          rw [parseP_ok h0, HOP.out]
        have HQ := Lib.hid hq
        clear hq HOP
        go_wp2_with fail
        refine hE.out.mono ?_
        rintro e w6 ⟨rfl, rfl⟩
        go_wp2_with fail
        go_roundg rest.length
        case measure => simp at hk; omega
        case rel =>
          refine ⟨_, L ++ [⟨c, .slice A4 zs.length c4, zs⟩], ws, rfl, o3, Lib.hid ⟨OPS6.out, ⟨rv5, CU6.out⟩, ?_, BEL6.out, by have := HSZ.out; have := HS6.out; omega, by simp at hlen ⊢; omega⟩⟩
          rw [hp.out.eq, HQ.out, Option.map_map]
          congr 1
          funext t
          simp [Piece.pair]
      · have hq : parseP (c :: rest) = none := parseP_bad (by rw [HOP.out]; show (4 : Int) ≠ 0; decide)
        have HQ := Lib.hid hq
        clear hq HOP
        go_wp2_with fail
        refine hE.out.mono ?_
        rintro e w6 ⟨rfl, rfl⟩
        go_wp2_with fail
        refine hE.out.mono ?_
        rintro e w6 ⟨rfl, rfl⟩
        go_wp2_with fail
        go_ret2
        exact parsed_none (by rw [hp.out.eq, HQ.out]; rfl) BEL6.out
end Go.Proofs.YtocblkacdoahfaaGreatDoor.Sn

/-
  Lists of operations are read: is there one whose code is of a kind, are the codes these. Conditions: sizes within the reach.
-/
namespace Go.Proofs.YtocblkacdoahfaaGreatDoor.Sn
open Go.RowKit

/-- The slice value v reads as these operations, in a block below B. -/
def OpsR (w : World) (B : Nat) (v : Value) (L : List Piece) : Prop :=
  ∃ A c, v = .slice A L.length c ∧ L.length ≤ c ∧ c ≤ maxLen ∧
    (L ≠ [] → ∃ b o, A = some ⟨b, o, none⟩ ∧ b < B ∧ ∀ i p, L[i]? = some p → w.cell? ⟨b, o + i * 2, none⟩ = some (bv p.code) ∧ w.cell? ⟨b, o + i * 2 + 1, none⟩ = some p.at_ ∧ ∃ A' c', p.at_ = .slice A' p.data.length c')
theorem OpsR.form {w : World} {B : Nat} {v : Value} {L : List Piece} (h : OpsR w B v L) : ∃ A c, v = .slice A L.length c := by
  obtain ⟨A, c, hv, _⟩ := h
  exact ⟨A, c, hv⟩
theorem OpsR.cap {w : World} {B c : Nat} {A : Option Addr} {L : List Piece} (h : OpsR w B (.slice A L.length c) L) : L.length ≤ c ∧ c ≤ 9223372036854775807 := by
  obtain ⟨A', c', e, h1, h2, _⟩ := h
  injection e with e1 e2 e3
  subst e3
  unfold maxLen at h2
  exact ⟨h1, h2⟩
theorem OpsR.len {w : World} {B : Nat} {v : Value} {L : List Piece} (h : OpsR w B v L) : L.length ≤ 9223372036854775807 := by
  obtain ⟨A, c, rfl⟩ := h.form
  have := h.cap
  omega
theorem OpsR.below {w w' : World} {B : Nat} {v : Value} {L : List Piece} (h : OpsR w B v L) (hb : Below B w w') : OpsR w' B v L := by
  obtain ⟨A, c, hv, h1, h2, h3⟩ := h
  refine ⟨A, c, hv, h1, h2, fun hne => ?_⟩
  obtain ⟨b, o, e, hb', hc⟩ := h3 hne
  exact ⟨b, o, e, hb', fun i p hp => ⟨(hb.cell (p := ⟨b, _, none⟩) hb').trans (hc i p hp).1, (hb.cell (p := ⟨b, _, none⟩) hb').trans (hc i p hp).2.1, (hc i p hp).2.2⟩⟩
theorem OpsR.nil (w : World) (B : Nat) : OpsR w B (.slice none 0 0) [] := ⟨none, 0, rfl, Nat.le_refl _, by unfold maxLen; omega, fun h => absurd rfl h⟩
theorem OpsR.of_at {w : World} {base : Nat} {v : Value} {L : List Piece} (h : OpsAt w base v L) : OpsR w w.heap.size v L := by
  rcases h.1.2 with ⟨rfl, hn⟩ | ⟨g, cap, cur, rfl, hb, hg, hnc, hcm, hcs, ht⟩
  · obtain rfl : L = [] := List.eq_nil_of_length_eq_zero hn
    exact OpsR.nil _ _
  · refine ⟨some ⟨g, 0, none⟩, cap, rfl, hnc, hcm, fun hne => ⟨g, 0, rfl, (h.1.lt g rfl).2, fun i p hp => ?_⟩⟩
    have hi := (List.getElem?_eq_some_iff.1 hp).1
    obtain ⟨c0, c1⟩ := cellsOf_at hp
    have hr := h.1
    refine ⟨?_, ?_, OwnB.form (h.2.1 p (List.mem_of_getElem? hp))⟩
    · rw [Nat.zero_add]; exact (World.ownsRow.cellAt hr (i * 2) (by omega)).trans c0
    · rw [Nat.zero_add]; exact (World.ownsRow.cellAt hr (i * 2 + 1) (by omega)).trans c1

/-- Is there one among these, at the index that is answered? -/
def FoundO (w : World) (f : UInt8 → Bool) (L : List Piece) (e : Ending) (w' : World) : Prop := ∃ i : Int, e = .returned (.int .i64 i) ∧ decide (0 ≤ i) = L.any (fun p => f p.code) ∧ Below w.heap.size w w'
theorem anyO_take {f : UInt8 → Bool} {L : List Piece} {k : Nat} (h : k < L.length) : (L.take (k + 1)).any (fun p => f p.code) = ((L.take k).any (fun p => f p.code) || f L[k].code) := by
  rw [List.take_succ_eq_append_getElem h, List.any_append]
  simp

set_option maxRecDepth 100000 in
set_option maxHeartbeats 1600000 in
theorem index_op (g : FuncId) (eg : ∀ args W, (callFunc g args).run Tryz.prog W = .ok (.enter g args) W) (f : UInt8 → Bool) (hg : ∀ (c : UInt8) (u : Value) (W : World), Calls Tryz.prog g #[.agg #[.int .u8 (c.toNat : Int), u]] W fun e W' => e = .returned (.bool (f c)) ∧ Below W.heap.size W W')
    (B : Nat) (x : Value) (L : List Piece) (w : World) (hx : OpsR w B x L) (hB : B ≤ w.heap.size) :
    Calls Tryz.prog 98 #[x, .func (.func g) #[] #[]] w (FoundO w f L) := by
  have hlen := hx.len
  obtain ⟨A, c, rfl⟩ := hx.form
  have hcap := hx.cap
  have HX := Lib.hid hx
  have HG := Lib.hid hg
  clear hx hg
  go_enter Tryz.func98, Tryz.ntmps98
  go_wp2_with fail
  go_loopw [8] (fun s wr => ∃ k : Nat, k ≤ L.length ∧ s = .int .i64 (k : Int) ∧ Hid ((L.take k).any (fun p => f p.code) = false) ∧ Hid (Below w.heap.size w wr)) (fun s _ => L.length - (intOf s).toNat)
  case atStart => exact ⟨0, Nat.zero_le _, rfl, Lib.hid (by simp), Lib.hid (Below.refl _ _)⟩
  case round =>
    obtain ⟨k, hk, rfl, hno, hbel⟩ := hrel
    by_cases hlt : k < L.length
    · obtain ⟨A', c', e0, _, _, h4⟩ := HX.out
      obtain ⟨e1, e2, e3⟩ := Value.slice.inj e0
      subst e1 e3
      clear e2
      obtain ⟨b, o, rfl, hb, hc⟩ := h4 (by rintro rfl; simp at hlt)
      obtain ⟨hc0, hc1, _⟩ := hc k _ (List.getElem?_eq_getElem hlt)
      have hsn := anyO_take (f := f) hlt
      obtain ⟨⟨q, d, zs⟩, hq⟩ : ∃ q, q = L[k] := ⟨_, rfl⟩
      rw [← hq] at hc0 hc1 hsn
      dsimp only at hc0 hc1 hsn
      have hr0 : wr.cell? ⟨b, o + k * 2, none⟩ = some (.int .u8 (q.toNat : Int)) := (hbel.out.cell (p := ⟨b, _, none⟩) (by show b < _; omega)).trans hc0
      have hr1 : wr.cell? ⟨b, o + k * 2 + 1, none⟩ = some d := (hbel.out.cell (p := ⟨b, _, none⟩) (by show b < _; omega)).trans hc1
      have HSN := Lib.hid hsn
      clear hc h4 hq hsn e0 hc0 hc1
      have hd : decide (k < L.length) = true := by simpa using hlt
      have HT := Lib.hid (HG.out q d wr)
      by_cases hq0 : f q = true
      · rw [hq0] at HT HSN
        clear hq0
        go_wp2_with fail
        refine HT.out.mono ?_
        rintro e w1 ⟨rfl, hb1⟩
        go_wp2_with fail
        go_ret
        refine ⟨k, rfl, ?_, hbel.out.trans (hb1.mono hbel.out.size)⟩
        rw [decide_eq_true (by omega)]
        have h2 : (L.take (k + 1)).any (fun p => f p.code) = true := by rw [HSN.out]; simp
        symm
        rw [List.any_eq_true] at h2 ⊢
        obtain ⟨y, hy, hy2⟩ := h2
        exact ⟨y, List.mem_of_mem_take hy, hy2⟩
      · have hq1 : f q = false := by simpa using hq0
        rw [hq1] at HT HSN
        clear hq0 hq1
        go_wp2_with fail
        refine HT.out.mono ?_
        rintro e w1 ⟨rfl, hb1⟩
        go_wp2_with fail
        go_roundw
        case rel => exact ⟨k + 1, by omega, by go_num, Lib.hid (by rw [HSN.out, hno.out]; rfl), Lib.hid (hbel.out.trans (hb1.mono hbel.out.size))⟩
        case measure => simp [intOf]; omega
    · obtain rfl : k = L.length := by omega
      go_wp2_with fail
      go_ret
      refine ⟨-1, rfl, ?_, hbel.out⟩
      have := hno.out
      rw [List.take_length] at this
      rw [this]
      rfl

set_option maxRecDepth 100000 in
set_option maxHeartbeats 800000 in
theorem contains_op (g : FuncId) (eg : ∀ args W, (callFunc g args).run Tryz.prog W = .ok (.enter g args) W) (f : UInt8 → Bool) (hg : ∀ (c : UInt8) (u : Value) (W : World), Calls Tryz.prog g #[.agg #[.int .u8 (c.toNat : Int), u]] W fun e W' => e = .returned (.bool (f c)) ∧ Below W.heap.size W W')
    (B : Nat) (x : Value) (L : List Piece) (w : World) (hx : OpsR w B x L) (hB : B ≤ w.heap.size) :
    Calls Tryz.prog 71 #[x, .func (.func g) #[] #[]] w fun e w' => e = .returned (.bool (L.any (fun p => f p.code))) ∧ Below w.heap.size w w' := by
  have H := Lib.hid (index_op g eg f hg B x L w hx hB)
  obtain ⟨A, c, rfl⟩ := hx.form
  clear hx hg eg
  go_enter Tryz.func71, Tryz.ntmps71
  go_wp2_with fail
  refine H.out.mono ?_
  rintro e w1 ⟨i, rfl, hi, hb⟩
  have HI := Lib.hid hi
  clear hi
  go_wp2_with fail
  go_ret
  exact ⟨by rw [← HI.out]; rfl, hb⟩

set_option maxRecDepth 100000 in
set_option maxHeartbeats 400000 in
theorem pushes1_any (c : UInt8) (u : Value) (w : World) :
    Calls Tryz.prog 73 #[.agg #[.int .u8 (c.toNat : Int), u]] w fun e w' => e = .returned (.bool (decide (96 < c.toNat))) ∧ Below w.heap.size w w' := by
  have hb : decide ((96 : Int) < (c.toNat : Int)) = decide (96 < c.toNat) := by rw [Bool.eq_iff_iff]; simp only [decide_eq_true_eq]; omega
  have HB := Lib.hid hb
  clear hb
  go_enter Tryz.func73, Tryz.ntmps73
  go_wp2_with fail
  go_ret
  exact ⟨by rw [← HB.out]; rfl, (Below.refl _ _).alloc (Nat.le_refl _) _⟩
set_option maxRecDepth 100000 in
set_option maxHeartbeats 400000 in
theorem multi1_any (c : UInt8) (u : Value) (w : World) :
    Calls Tryz.prog 72 #[.agg #[.int .u8 (c.toNat : Int), u]] w fun e w' => e = .returned (.bool (c != 33)) ∧ Below w.heap.size w w' := by
  have hb : ((c.toNat : Int) != 33) = (c != 33) := by
    rw [Bool.eq_iff_iff]
    simp only [bne_iff_ne, ne_eq]
    exact not_congr ⟨fun h => u8_ext (by show c.toNat = 33; omega), fun h => by subst h; rfl⟩
  have HB := Lib.hid hb
  clear hb
  go_enter Tryz.func72, Tryz.ntmps72
  go_wp2_with fail
  go_ret
  exact ⟨by rw [← HB.out]; rfl, (Below.refl _ _).alloc (Nat.le_refl _) _⟩

theorem contains_above (B : Nat) (x : Value) (L : List Piece) (w : World) (hx : OpsR w B x L) (hB : B ≤ w.heap.size) :
    Calls Tryz.prog 71 #[x, .func (.func 73) #[] #[]] w fun e w' => e = .returned (.bool (L.any (fun p => decide (96 < p.code.toNat)))) ∧ Below w.heap.size w w' :=
  contains_op _ (enters_of Tryz.func73 (by kernel_rfl) rfl) (fun c => decide (96 < c.toNat)) pushes1_any B x L w hx hB
theorem contains_key (B : Nat) (x : Value) (L : List Piece) (w : World) (hx : OpsR w B x L) (hB : B ≤ w.heap.size) :
    Calls Tryz.prog 71 #[x, .func (.func 72) #[] #[]] w fun e w' => e = .returned (.bool (L.any (fun p => p.code != 33))) ∧ Below w.heap.size w w' :=
  contains_op _ (enters_of Tryz.func72 (by kernel_rfl) rfl) (fun c => c != 33) multi1_any B x L w hx hB

/-- Does a script push only? -/
def pushesB (xs : List UInt8) : Bool := match parseP xs with | none => false | some ops => !ops.any (fun p => decide (96 < p.1.toNat))
theorem any_pair (f : UInt8 → Bool) (L : List Piece) : (L.map Piece.pair).any (fun p => f p.1) = L.any (fun p => f p.code) := by rw [List.any_map]; rfl

set_option maxRecDepth 100000 in
set_option maxHeartbeats 800000 in
theorem pushes_any (B : Nat) (x : Value) (xs : List UInt8) (w : World) (hx : Byt w B x xs) (hl : xs.length ≤ 60000000) :
    Calls Tryz.prog 39 #[x] w fun e w' => e = .returned (.bool (pushesB xs)) ∧ Below w.heap.size w w' := by
  have HP := Lib.hid (parse_any B x xs w hx hl)
  obtain ⟨A, c, rfl⟩ := hx.form
  clear hx
  unfold Parsed at HP
  unfold pushesB
  cases hp : parseP xs with
  | none =>
    rw [hp] at HP
    dsimp only at HP
    clear hp
    go_enter Tryz.func39, Tryz.ntmps39
    go_wp2_with fail
    refine HP.out.mono ?_
    rintro e w1 ⟨rfl, hb⟩
    go_wp2_with fail
    go_ret
    exact ⟨rfl, hb⟩
  | some ops =>
    rw [hp] at HP
    dsimp only at HP ⊢
    clear hp
    obtain ⟨b, hb⟩ : ∃ b, b = ops.any (fun p => decide (96 < p.1.toNat)) := ⟨_, rfl⟩
    rw [← hb]
    have HB := Lib.hid hb
    clear hb
    go_enter Tryz.func39, Tryz.ntmps39
    go_wp2_with fail
    refine HP.out.mono ?_
    rintro e w1 ⟨A1, c1, L, rfl, hL, hops, hb1⟩
    have hll : L.length = ops.length := by rw [← hL, List.length_map]
    have hC := Lib.hid (contains_above w1.heap.size _ L w1 (by have := OpsR.of_at hops; exact this) (Nat.le_refl _))
    have hbL : L.any (fun p => decide (96 < p.code.toNat)) = b := by rw [HB.out, ← hL]; exact (any_pair (fun c => decide (96 < c.toNat)) L).symm
    rw [hbL] at hC
    clear hL hll hops hbL HB
    go_wp2_with fail
    refine hC.out.mono ?_
    rintro e w2 ⟨rfl, hb2⟩
    go_wp2_with fail
    go_ret
    exact ⟨rfl, hb1.trans (hb2.mono hb1.size)⟩
end Go.Proofs.YtocblkacdoahfaaGreatDoor.Sn
