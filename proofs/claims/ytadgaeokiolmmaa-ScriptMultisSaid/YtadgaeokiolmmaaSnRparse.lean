/-
  The reference's Parse and Pushes of layer 11. Conditions: sizes within the reach.
-/
import Derived.Test.YtadgaeokiolmmaaSnLawP
namespace Go.Proofs.Ytadgaeokiolmmaa
open Go.RowKit

theorem byt_later {w : World} {B : Nat} {v : Value} {xs : List UInt8} (h : Byt w B v xs) (o : Obj) : Byt (w.alloc o) B v xs := by
  obtain ⟨A, c, hv, hl, hm, hA, hx⟩ := h
  refine ⟨A, c, hv, hl, hm, hA, fun hne => ?_⟩
  obtain ⟨b, o2, e, hb, hc⟩ := hx hne
  exact ⟨b, o2, e, hb, fun j u hu => cell_later ((Below.refl _ w).alloc (Nat.le_refl _) o) (hc j u hu)⟩
theorem Byt.sub {w : World} {B c lo hi n : Nat} {A : Option Addr} {xs : List UInt8} (h : Byt w B (.slice A n c) xs) (h1 : lo ≤ hi) (h2 : hi ≤ xs.length) :
    Byt w B (.slice (if c = lo then A else A.map (fun x => x.add lo)) (hi - lo) (c - lo)) ((xs.drop lo).take (hi - lo)) := by
  obtain ⟨A', c', e, g1, g2, g3, g4⟩ := h
  obtain ⟨e1, e2, e3⟩ := Value.slice.inj e
  subst e1 e2 e3
  have hl : ((xs.drop lo).take (hi - lo)).length = hi - lo := by rw [List.length_take, List.length_drop]; omega
  refine ⟨_, _, by rw [hl], by omega, by omega, fun hn => ?_, fun hne => ?_⟩
  · split at hn
    · obtain ⟨rfl, hc0⟩ := g3 hn
      exact ⟨by simp, by omega⟩
    · cases A with
      | none => obtain ⟨rfl, hc0⟩ := g3 rfl; exact ⟨by simp, by omega⟩
      | some a => exact absurd hn (by simp)
  · obtain ⟨b, o, rfl, hb, hcell⟩ := g4 (fun e => by rw [e] at hne; simp at hne)
    have hlt : lo < hi := by
      rcases Nat.lt_or_ge lo hi with h | h
      · exact h
      · have : hi - lo = 0 := by omega
        rw [this] at hne
        simp at hne
    have hadd : (⟨b, o, none⟩ : Addr).add lo = ⟨b, o + lo, none⟩ := by
      unfold Addr.add
      split <;> simp_all
    refine ⟨b, o + lo, by rw [if_neg (by omega)]; simp [hadd], hb, fun j u hu => ?_⟩
    rw [Nat.add_assoc]
    refine hcell _ u ?_
    rw [List.getElem?_take] at hu
    split at hu
    · rw [← hu, List.getElem?_drop]
    · exact absurd hu (by simp)
theorem run_sub (A : Option Addr) (n c lo hi : Nat) (h1 : lo ≤ hi) (h2 : hi ≤ c) (W : World) :
    (Instr.slice 22 (.slice A n c) (some (.int .i64 (lo : Int))) (some (.int .i64 (hi : Int))) none).run Try.prog W = .ok (.slice (if c = lo then A else A.map (fun x => x.add lo)) (hi - lo) (c - lo)) W := by
  obtain ⟨i0, hi0, hz0, hz1, hz2⟩ := info_parts info_u8
  have he : Try.prog.elem 22 = 5 := by kernel_rfl
  have ht : Try.prog.underlying 22 = some (.slice (Try.prog.elem 22)) := by rw [he]; exact slice_u8
  rw [run_slice_lh (ht := ht) (h0 := by omega) (h1 := by omega) (h2 := by omega), he]
  simp [sizeOf, typeInfo, hi0, hz1, sliced, go_sem]


theorem run_part (A : Option Addr) (n c lo hi : Nat) (l h : Int) (hl : l = lo) (hh : h = hi) (h1 : lo ≤ hi) (h2 : hi ≤ c) (W : World) :
    (Instr.slice 22 (.slice A n c) (some (.int .i64 l)) (some (.int .i64 h)) none).run Try.prog W = .ok (.slice (if c = lo then A else A.map (fun x => x.add lo)) (hi - lo) (c - lo)) W := by
  subst hl hh
  exact run_sub A n c lo hi h1 h2 W
theorem val_step {xs : List UInt8} {j : Nat} (hj : j < xs.length) : val (xs.drop j) = (xs[j].toNat : Int) + 256 * val (xs.drop (j + 1)) := by
  rw [List.drop_eq_getElem_cons hj]
  rfl

theorem val_le7 {xs : List UInt8} (h : xs.length ≤ 7) : val xs < 72057594037927936 := by
  have h1 := (val_bd xs).2
  have h2 : (256 : Nat) ^ xs.length ≤ 256 ^ 7 := Nat.pow_le_pow_right (by decide) h
  have h3 : (256 : Nat) ^ 7 = 72057594037927936 := by decide
  have h4 : ((256 ^ xs.length : Nat) : Int) = (256 : Int) ^ xs.length := Int.natCast_pow _ _
  omega

set_option maxHeartbeats 800000 in
theorem fval_any (B : Nat) (x : Value) (xs : List UInt8) (w : World) (hx : Byt w B x xs) (hl : xs.length ≤ 8) :
    Calls Try.prog 47 #[x] w fun e w' => e = .returned (.int .u64 (val xs)) ∧ w = w' := by
  obtain ⟨A, c, rfl⟩ := hx.form
  have hcap := hx.cap
  have HX := Lib.hid hx
  clear hx
  go_enter Try.func47, Try.ntmps47
  go_wp2_with fail
  go_loopw [3, 4] (fun s t wr => ∃ j : Nat, j ≤ xs.length ∧ t = .int .i64 ((j : Int) - 1) ∧ s = .int .u64 (val (xs.drop j)) ∧ wr = w) (fun _ t _ => (intOf t + 1).toNat)
  case atStart => exact ⟨xs.length, Nat.le_refl _, rfl, by rw [List.drop_length]; rfl, rfl⟩
  case round =>
    obtain ⟨j, hj, rfl, rfl, rfl⟩ := hrel
    rcases j with _ | j
    · rw [List.drop_zero]
      go_wp2
      go_ret
      exact ⟨rfl, rfl⟩
    · obtain ⟨A', c', e0, _, _, _, h4⟩ := HX.out
      injection e0 with e1 e2 e3
      subst e1 e3
      obtain ⟨b, o, rfl, _, hbc⟩ := h4 (by intro e; rw [e] at hj; exact absurd hj (by simp))
      have hci := hbc j _ (List.getElem?_eq_getElem (by omega : j < xs.length))
      have hstep := val_step (xs := xs) (j := j) (by omega)
      have hbd := val_bd (xs.drop (j + 1))
      have hpw := val_le7 (xs := xs.drop (j + 1)) (by rw [List.length_drop]; omega)
      obtain ⟨V, hV⟩ : ∃ V, V = val (xs.drop (j + 1)) := ⟨_, rfl⟩
      obtain ⟨q, hq⟩ : ∃ q, q = xs[j] := ⟨_, rfl⟩
      have hv0 : 0 ≤ V ∧ V < 72057594037927936 := by rw [hV]; exact ⟨hbd.1, hpw⟩
      have hqb : (q.toNat : Int) < 256 := by have := q.toNat_lt; omega
      rw [← hV, ← hq] at hstep
      rw [← hV]
      rw [← hq] at hci
      replace hci : wr.cell? ⟨b, o + j, none⟩ = some (.int .u8 (q.toNat : Int)) := hci
      have HT := Lib.hid hstep
      clear hstep hbd hpw hV hq hbc h4 e2
      go_wp2
      refine ⟨⟨j, by omega, rfl, ?_, trivial⟩, by simp [intOf]⟩
      rw [HT.out]
      go_num

set_option maxHeartbeats 400000 in
theorem rcopy_any (B : Nat) (x : Value) (xs : List UInt8) (w : World) (hr : Byt w B x xs) (hlen : xs.length ≤ 140737488355328) :
    Calls Try.prog 37 #[x] w (Fresh w xs) := by
  obtain ⟨i0, hi, hz0, hz1, hz2⟩ := info_parts info_u8
  obtain ⟨A, c, rfl⟩ := hr.form
  have HR : Hid (Byt (w.alloc (.cells #[] 5)) B (.slice A xs.length c) xs) := Lib.hid (byt_later hr _)
  have hown : (w.alloc (.cells #[] 5)).ownsRow w.heap.size 5 1 (.slice (some ⟨w.heap.size, 0, none⟩) 0 0) 0 [] := World.ownsRow_made w #[] 0 (Nat.le_refl _) (by unfold maxLen; omega) rfl
  have HO := Lib.hid hown
  clear hr hown
  go_enter Try.func37, Try.ntmps37
  go_wp2_with (at_builtin; refine wpList_append_bytes rfl (.tmp 3) (.tmp 4) 22 rfl w.heap.size 5 i0 slice_u8 hi hz0 hz1 hz2 _ 0 [] rfl HO.out B _ xs rfl HR.out (by omega) (by simp) ?_; intro v1 w1 hown1 hg1 hat1)
  go_ret
  rw [Nat.zero_add, List.nil_append] at hown1
  exact fresh_of hown1 (((Below.refl _ _).alloc (Nat.le_refl _) _).grown hg1 (by simp) (fun k hk => by cases hk; exact Nat.le_refl _))

/-- How many bytes say how many follow. -/
def wideOf (c : UInt8) : Nat := if c.toNat = 76 then 1 else if c.toNat = 77 then 2 else if c.toNat = 78 then 4 else 0
/-- How many follow. -/
def manyOf (c : UInt8) (rest : List UInt8) : Int := if c.toNat < 76 then c.toNat else val (rest.take (wideOf c))
theorem manyOf_bd (c : UInt8) (rest : List UInt8) : 0 ≤ manyOf c rest ∧ manyOf c rest < 4294967296 := by
  have hc := c.toNat_lt
  unfold manyOf
  split
  · omega
  · have h := val_bd (rest.take (wideOf c))
    have hl : (rest.take (wideOf c)).length ≤ 4 := by
      rw [List.length_take]
      have : wideOf c ≤ 4 := by unfold wideOf; split; omega; split; omega; split <;> omega
      omega
    have h2 : (256 : Nat) ^ (rest.take (wideOf c)).length ≤ 256 ^ 4 := Nat.pow_le_pow_right (by decide) hl
    have h3 : (256 : Nat) ^ 4 = 4294967296 := by decide
    have h4 : ((256 ^ (rest.take (wideOf c)).length : Nat) : Int) = (256 : Int) ^ (rest.take (wideOf c)).length := Int.natCast_pow _ _
    omega
theorem opR_eq (c : UInt8) (rest : List UInt8) (hl : rest.length ≤ 60000000) : opR c rest = if rest.length < wideOf c then ([], 4, rest)
    else if ((rest.drop (wideOf c)).length : Int) < manyOf c rest then ([], 4, rest.drop (wideOf c)) else ((rest.drop (wideOf c)).take (manyOf c rest).toNat, 0, (rest.drop (wideOf c)).drop (manyOf c rest).toNat) := by
  have hc := c.toNat_lt
  have num : ∀ k, numR k 0 rest = if rest.length < k then (0, 4, rest) else (val (rest.take k), 0, rest.drop k) := fun k => by unfold numR; rw [if_neg (by decide)]
  by_cases h1 : c.toNat < 76
  · have hw : wideOf c = 0 := by unfold wideOf; rw [if_neg (by omega), if_neg (by omega), if_neg (by omega)]
    have hm : manyOf c rest = c.toNat := by unfold manyOf; rw [if_pos h1]
    have hs : sizeD c rest = ((c.toNat : Int), 0, rest) := by unfold sizeD; rw [if_pos h1]
    unfold opR
    rw [hs]
    unfold rawR
    dsimp only
    rw [if_neg (by decide), hw, hm, if_neg (show ¬ rest.length < 0 by omega)]
    rfl
  have hm : manyOf c rest = val (rest.take (wideOf c)) := by unfold manyOf; rw [if_neg h1]
  by_cases h5 : c.toNat = 78
  · have hw : wideOf c = 4 := by unfold wideOf; rw [if_neg (by omega), if_neg (by omega), if_pos h5]
    have hb := (manyOf_bd c rest).2
    rw [hm, hw] at hb
    by_cases hs : rest.length < 4
    · have hs2 : sizeD c rest = (0, 4, rest) := by unfold sizeD; rw [if_neg h1, if_neg (by omega), if_neg (by omega), if_pos h5, num, if_pos hs]; rfl
      unfold opR
      rw [hs2, hw, if_pos hs]
      unfold rawR
      dsimp only
      rw [if_pos (by decide)]
    · have hs2 : sizeD c rest = (min (val (rest.take 4)) 2147483647, 0, rest.drop 4) := by unfold sizeD; rw [if_neg h1, if_neg (by omega), if_neg (by omega), if_pos h5, num, if_neg hs]
      unfold opR
      rw [hs2, hm, hw, if_neg hs]
      unfold rawR
      dsimp only
      rw [if_neg (by decide)]
      have hd : (rest.drop 4).length ≤ 60000000 := by rw [List.length_drop]; omega
      by_cases hv : val (rest.take 4) ≤ 2147483647
      · rw [Int.min_eq_left hv]
      · rw [Int.min_eq_right (by omega), if_pos (by omega), if_pos (by omega)]
  · have hs : sizeD c rest = if rest.length < wideOf c then (0, 4, rest) else (val (rest.take (wideOf c)), 0, rest.drop (wideOf c)) := by
      unfold sizeD
      rw [if_neg h1]
      by_cases h3 : c.toNat = 76
      · have hw : wideOf c = 1 := by unfold wideOf; rw [if_pos h3]
        rw [if_pos h3, hw, num]
      · rw [if_neg h3]
        by_cases h4 : c.toNat = 77
        · have hw : wideOf c = 2 := by unfold wideOf; rw [if_neg h3, if_pos h4]
          rw [if_pos h4, hw, num]
        · have hw : wideOf c = 0 := by unfold wideOf; rw [if_neg h3, if_neg h4, if_neg h5]
          rw [if_neg h4, if_neg h5, hw, if_neg (by omega)]
          rfl
    unfold opR
    rw [hs, hm]
    by_cases hq : rest.length < wideOf c
    · rw [if_pos hq, if_pos hq]
      unfold rawR
      dsimp only
      rw [if_pos (by decide)]
    · rw [if_neg hq, if_neg hq]
      unfold rawR
      dsimp only
      rw [if_neg (by decide)]

/-- The slice value v holds these operations in blocks of its own from base on, each one's bytes in a block apart. -/
def ROpsAt (w : World) (base : Nat) (v : Value) (L : List Piece) : Prop :=
  w.ownsRow base 38 2 v L.length (cellsOf L) ∧ (∀ p ∈ L, OwnB w base p.at_ p.data) ∧ L.Pairwise (fun p q => ∀ g, p.at_.ownBlock = some g → q.at_.ownBlock ≠ some g)

theorem ROpsAt.base {w : World} {b b' : Nat} {v : Value} {L : List Piece} (h : ROpsAt w b v L) (hb : b' ≤ b) : ROpsAt w b' v L :=
  ⟨own_base h.1 hb, fun p hp => own_base (h.2.1 p hp) hb, h.2.2⟩
theorem ROpsAt.nil (w : World) (base : Nat) : ROpsAt w base (.slice none 0 0) [] := ⟨World.ownsRow_nil _ _ _ _, (fun _ h => by cases h), List.Pairwise.nil⟩
theorem ROpsAt.form {w : World} {base : Nat} {v : Value} {L : List Piece} (h : ROpsAt w base v L) : ∃ A c, v = .slice A L.length c := own_form h.1
theorem ROpsAt.turns {S : Nat → Prop} {w w' : World} {base : Nat} {v : Value} {L : List Piece} (h : ROpsAt w base v L) (ht : Turns S w w') (hv : ∀ k, v.ownBlock = some k → ¬ S k) (hL : ∀ p ∈ L, ∀ k, p.at_.ownBlock = some k → ¬ S k) : ROpsAt w' base v L :=
  ⟨own_turns h.1 ht hv, fun p hp => own_turns (h.2.1 p hp) ht (hL p hp), h.2.2⟩
theorem ROpsAt.turns_low {S : Nat → Prop} {w w' : World} {base : Nat} {v : Value} {L : List Piece} (h : ROpsAt w base v L) (ht : Turns S w w') (hS : ∀ k, base ≤ k → ¬ S k) : ROpsAt w' base v L :=
  h.turns ht (fun k hk => hS k (h.1.lt k hk).1) (fun p hp k hk => hS k (World.ownsRow.lt (h.2.1 p hp) k hk).1)
theorem ROpsAt.below {w w' : World} {base : Nat} {v : Value} {L : List Piece} (h : ROpsAt w base v L) (hb : Below w.heap.size w w') : ROpsAt w' base v L :=
  h.turns (Turns.of_below (S := fun _ => False) hb) (fun _ _ h => h) (fun _ _ _ _ h => h)
theorem ROpsAt.alloc {w : World} {base : Nat} {v : Value} {L : List Piece} (h : ROpsAt w base v L) (o : Obj) : ROpsAt (w.alloc o) base v L := h.below ((Below.refl _ _).alloc (Nat.le_refl _) o)
/-- One more: the list's row has grown; its bytes lie apart from all that was there. -/
theorem ROpsAt.snoc {w w' : World} {base n : Nat} {v v' : Value} {L : List Piece} {p : Piece} (h : ROpsAt w base v L) (hd : OwnB w base p.at_ p.data) (hn : ∀ q ∈ L, ∀ g, q.at_.ownBlock = some g → p.at_.ownBlock ≠ some g)
    (hown : w'.ownsRow base 38 2 v' n (cellsOf L ++ [bv p.code, p.at_])) (he : n = L.length + 1) (hg : w.grownBy w' v.ownBlock) : ROpsAt w' base v' (L ++ [p]) := by
  have ht : Turns (fun k => v.ownBlock = some k) w w' := (Turns.refl _ w).grown hg (fun k hk _ => hk)
  subst he
  refine ⟨by rw [cellsOf_snoc, List.length_append]; exact hown, fun q hq => ?_, ?_⟩
  · rcases List.mem_append.1 hq with hq | hq
    · exact own_turns (h.2.1 q hq) ht (fun k hk hv => own_types h.1 (h.2.1 q hq) (by decide) hv hk)
    · obtain rfl : q = p := by simpa using hq
      exact own_turns hd ht (fun k hk hv => own_types h.1 hd (by decide) hv hk)
  · rw [List.pairwise_append]
    refine ⟨h.2.2, by simp, fun a ha b hb => ?_⟩
    obtain rfl : b = p := by simpa using hb
    exact hn a ha

theorem info_rop : (Try.prog.info? 38).map (fun i => (i.zero, i.size, i.bytes)) = some (some (.agg #[.int .u8 0, .slice none 0 0]), 2, 32) := by kernel_rfl
theorem slice_rop : Try.prog.underlying 31 = some (.slice 38) := Try.underlying31

/-- append of one operation. -/
theorem wpList_append_rop {w : World} {ops : Array Oper} {rest : List Oper} {o : Oper} {a : Act} {Q : Exit → Act → World → Prop} (hgd : o.guard = none) (s x : Operand)
    (ho : o.op = .call { callee := .builtin .append, args := #[s, x], argTypes := #[31, 31] })
    (base : Nat) (v : Value) (n : Nat) (xs : List Value) (hs : a.eval s = v) (hown : w.ownsRow base 38 2 v n xs)
    (g : Nat) (u0 u1 : Value) (hx : a.eval x = .slice (some ⟨g, 0, none⟩) 1 1) (h0 : w.cell? ⟨g, 0, none⟩ = some u0) (h1 : w.cell? ⟨g, 1, none⟩ = some u1) (k0 : u0.oneCell' = true) (k1 : u1.oneCell' = true)
    (hb : (n + 1) * 32 ≤ 140737488355328) (hbase : base ≤ w.heap.size)
    (h : ∀ v' w', w'.ownsRow base 38 2 v' (n + 1) (xs ++ [u0, u1]) → w.grownBy w' v.ownBlock → wpList Try.prog ops Q rest (a.put o.dst v') w') :
    wpList Try.prog ops Q (o :: rest) a w := by
  obtain ⟨i, hi, hz, hsz, hby⟩ := info_parts info_rop
  refine wpList_plain hgd fun K hK => ?_
  obtain ⟨v', w', hrun, h2, h3, _, _⟩ := run_append_own_at (P := Try.prog) w base 31 o.type 38 i _ 2 32 slice_rop hi hz hsz hby rfl (by decide) v n xs hown ⟨g, 0, none⟩ 1 1 [u0, u1] rfl
    (by
      intro j u hu
      match j, hu with
      | 0, hu => exact Option.some.inj hu ▸ h0
      | 1, hu => exact Option.some.inj hu ▸ h1)
    (by intro u hu; simp at hu; rcases hu with rfl | rfl; exact k0; exact k1) (by unfold maxLen; omega) hb hbase
  unfold Oper.wp execOp
  simp only [ho, resolve, invoke, builtin, Sem.run_bind, Sem.run_pure, Result.andThen_ok, List.map_toArray, List.map_cons, List.map_nil, hs, hx, hrun]
  exact hK _ _ (h v' w' h2 h3)
theorem OpsR.of_rat {w : World} {base : Nat} {v : Value} {L : List Piece} (h : ROpsAt w base v L) : OpsR w w.heap.size v L := by
  rcases h.1.2 with ⟨rfl, hn⟩ | ⟨g, cap, cur, rfl, hb, hg, hnc, hcm, hcs, ht⟩
  · obtain rfl : L = [] := List.eq_nil_of_length_eq_zero hn
    exact OpsR.nil _ _
  · refine ⟨some ⟨g, 0, none⟩, cap, rfl, hnc, hcm, fun hne => ⟨g, 0, rfl, (h.1.lt g rfl).2, fun i p hp => ?_⟩⟩
    have hi := (List.getElem?_eq_some_iff.1 hp).1
    obtain ⟨c0, c1⟩ := cellsOf_at hp
    have hr := h.1
    refine ⟨?_, ?_, OwnB.form (h.2.1 p (List.mem_of_getElem? hp))⟩
    · rw [Nat.zero_add]; exact (World.ownsRow.cellAt hr (i * 2) (by omega)).trans c0
    · rw [Nat.zero_add]; exact (World.ownsRow.cellAt hr (i * 2 + 1) (by omega)).trans c1


/-- What the reference's Parse answers. -/
def RParsed (w : World) (xs : List UInt8) (e : Ending) (w' : World) : Prop :=
  match parseP xs with
  | none => e = .returned (.tuple #[.slice none 0 0, .bool false]) ∧ Below w.heap.size w w'
  | some ops => ∃ A c L, e = .returned (.tuple #[.slice A ops.length c, .bool true]) ∧ L.map Piece.pair = ops ∧ ROpsAt w' w.heap.size (.slice A ops.length c) L ∧ Below w.heap.size w w'
theorem rparsed_none {w w' : World} {xs : List UInt8} (h : parseP xs = none) (hb : Below w.heap.size w w') : RParsed w xs (.returned (.tuple #[.slice none 0 0, .bool false])) w' := by unfold RParsed; rw [h]; exact ⟨rfl, hb⟩
theorem rparsed_some {w w' : World} {xs : List UInt8} {v : Value} {L : List Piece} (h : parseP xs = some (L.map Piece.pair)) (ho : ROpsAt w' w.heap.size v L) (hb : Below w.heap.size w w') : RParsed w xs (.returned (.tuple #[v, .bool true])) w' := by
  unfold RParsed
  rw [h]
  obtain ⟨A, c, rfl⟩ := ho.form
  exact ⟨A, c, L, by rw [List.length_map], rfl, by rw [List.length_map]; exact ho, hb⟩

/-- What the loop keeps: the operations so far; p bytes are behind. -/
structure RWalk (w : World) (xs : List UInt8) (v : Value) (L : List Piece) (p : Nat) (wr : World) : Prop where
  ops : ROpsAt wr w.heap.size v L
  eq : parseP xs = (parseP (xs.drop p)).map (L.map Piece.pair ++ ·)
  bel : Below w.heap.size w wr
  len : L.length ≤ p
theorem RWalk.bad {w wr : World} {xs rest : List UInt8} {v : Value} {L : List Piece} {p : Nat} {c : UInt8} (h : RWalk w xs v L p wr) (hd : xs.drop p = c :: rest) (he : (opR c rest).2.1 = 4) : parseP xs = none := by
  rw [h.eq, hd, parseP_bad (by rw [he]; decide)]
  rfl
theorem RWalk.good {w wr w' : World} {xs rest ds : List UInt8} {v v' : Value} {L : List Piece} {p q : Nat} {c : UInt8} {u : Value} (h : RWalk w xs v L p wr) (hd : xs.drop p = c :: rest) (he : opR c rest = (ds, 0, xs.drop q))
    (ho : ROpsAt w' w.heap.size v' (L ++ [⟨c, u, ds⟩])) (hb : Below w.heap.size w w') (hq : p < q) : RWalk w xs v' (L ++ [⟨c, u, ds⟩]) q w' := by
  refine ⟨ho, ?_, hb, by have := h.len; rw [List.length_append, List.length_cons, List.length_nil]; omega⟩
  rw [h.eq, hd, parseP_ok (by rw [he]), he, Option.map_map]
  congr 1
  funext t
  simp [Piece.pair]

set_option maxRecDepth 100000 in
set_option maxHeartbeats 6400000 in
theorem rparse_any (B : Nat) (x : Value) (xs : List UInt8) (w : World) (hx : Byt w B x xs) (hB : B ≤ w.heap.size) (hl : xs.length ≤ 60000000) :
    Calls Try.prog 13 #[x] w (RParsed w xs) := by
  obtain ⟨A, cp, rfl⟩ := hx.form
  have hcap := hx.cap
  have HX := Lib.hid hx
  clear hx
  go_enter Try.func13, Try.ntmps13
  go_wp2_with fail
  go_loopg [4, 5] xs.length (fun k s t wr => ∃ (v : Value) (L : List Piece) (p : Nat), v = s ∧ xs.length - p ≤ k ∧ t = .int .i64 (p : Int) ∧ p ≤ xs.length ∧ Hid (RWalk w xs v L p wr))
  case atStart => exact ⟨_, [], 0, rfl, by omega, rfl, by omega, Lib.hid ⟨ROpsAt.nil _ _, by simp, Below.refl _ _, by simp⟩⟩
  case round =>
  obtain ⟨v, L, p, hv, hk, rfl, hpl, hp⟩ := hrel
  subst hv
  by_cases hlt : p < xs.length
  case neg =>
    have d0 : decide ((p : Int) < (xs.length : Int)) = false := decide_eq_false (by omega)
    have d0' : decide (p < xs.length) = false := decide_eq_false (by omega)
    go_wp2_with fail
    go_ret2
    refine rparsed_some ?_ hp.out.ops hp.out.bel
    rw [hp.out.eq, List.drop_eq_nil_of_le (by omega), parseP_nil]
    simp
  obtain ⟨A', c', e0, _, _, _, h4⟩ := HX.out
  obtain ⟨e1, e2, e3⟩ := Value.slice.inj e0
  subst e1 e3
  clear e2 e0
  obtain ⟨b, o, hA, hb, hc⟩ := h4 (by rintro rfl; simp at hlt)
  have hdrop : xs.drop p = xs[p] :: xs.drop (p + 1) := List.drop_eq_getElem_cons hlt
  have hcell : w.cell? ⟨b, o + p, none⟩ = some (bv xs[p]) := hc p _ (List.getElem?_eq_getElem hlt)
  obtain ⟨c, hcc⟩ : ∃ c, c = xs[p] := ⟨_, rfl⟩
  rw [← hcc] at hdrop hcell
  have hcr : wr.cell? ⟨b, o + p, none⟩ = some (.int .u8 (c.toNat : Int)) := (hp.out.bel.cell (p := ⟨b, _, none⟩) (by show b < _; omega)).trans hcell
  have HD := Lib.hid hdrop
  have hc256 := c.toNat_lt
  have d0 : decide (p < xs.length) = true := decide_eq_true hlt
  subst hA
  clear h4 hc hcell hcc hdrop
  by_cases h1 : c.toNat < 76
  · -- a number of its own
    have hwd : wideOf c = 0 := by unfold wideOf; rw [if_neg (by omega), if_neg (by omega), if_neg (by omega)]
    have f1 : decide ((c.toNat : Int) ≤ 75) = true := decide_eq_true (by omega)

    have hw : ¬ (xs.drop (p + 1)).length < 0 := by omega
    have hw2 : p + 1 ≤ xs.length := by omega
    have dw : decide ((xs.length : Int) - ((p : Int) + 1) < 0) = false := decide_eq_false (by omega)
    have hnb := manyOf_bd c (xs.drop (p + 1))
    obtain ⟨n, hn⟩ : ∃ n, n = manyOf c (xs.drop (p + 1)) := ⟨_, rfl⟩
    rw [← hn] at hnb
    by_cases hsh : (xs.length : Int) - ((p : Int) + 1) < n
    · have herr : (opR c (xs.drop (p + 1))).2.1 = 4 := by rw [opR_eq _ _ (by rw [List.length_drop]; omega), hwd, if_neg hw, if_pos (by rw [← hn, List.length_drop, List.length_drop]; omega)]
      have hbad := Lib.hid (hp.out.bad HD.out herr)
      have dn : decide ((xs.length : Int) - ((p : Int) + 1) < n) = true := decide_eq_true hsh
      have hnc : n = (c.toNat : Int) := by rw [hn]; unfold manyOf; rw [if_pos h1]
      subst hnc
      clear herr
      go_wp2_with fail
      go_ret2
      exact rparsed_none hbad.out hp.out.bel
    · have dn : decide ((xs.length : Int) - ((p : Int) + 1) < n) = false := decide_eq_false hsh
      obtain ⟨N, hN⟩ : ∃ N : Nat, n = (N : Int) := ⟨n.toNat, by omega⟩
      have hop : opR c (xs.drop (p + 1)) = ((xs.drop (p + 1)).take N, 0, xs.drop (p + 1 + N)) := by
        rw [opR_eq _ _ (by rw [List.length_drop]; omega), hwd, if_neg hw, if_neg (by rw [← hn, List.length_drop, List.length_drop]; omega), ← hn, hN, Int.toNat_natCast]
        rw [List.drop_drop, List.drop_drop]
        try rfl
      have HOP := Lib.hid hop
      clear hop
      have hnc : n = (c.toNat : Int) := by rw [hn]; unfold manyOf; rw [if_pos h1]
      subst hnc
      have hN2 : p + 1 + N ≤ xs.length := by omega
      have hsl2 : ∀ W, (Instr.slice 22 (.slice (some (⟨b, o, none⟩ : Addr)) xs.length cp) (some (.int .i64 ((p : Int) + 1))) (some (.int .i64 ((p : Int) + 1 + (c.toNat : Int)))) none).run Try.prog W = .ok (.slice (if cp = p + 1 then (some (⟨b, o, none⟩ : Addr)) else (some (⟨b, o, none⟩ : Addr)).map (fun x => x.add (p + 1))) (p + 1 + N - (p + 1)) (cp - (p + 1))) W := fun W => run_part (some (⟨b, o, none⟩ : Addr)) xs.length cp (p + 1) (p + 1 + N) _ _ (by omega) (by omega) (by omega) (by omega) W
      have hds := Byt.sub HX.out (lo := p + 1) (hi := p + 1 + N) (by omega) (by omega)
      obtain ⟨Z2, hZ2⟩ : ∃ Z, Z = (if cp = p + 1 then (some (⟨b, o, none⟩ : Addr)) else (some (⟨b, o, none⟩ : Addr)).map (fun x => x.add (p + 1))) := ⟨_, rfl⟩
      obtain ⟨cz2, hcz2⟩ : ∃ cz, cz = cp - (p + 1) := ⟨_, rfl⟩
      rw [← hZ2, ← hcz2] at hds
      rw [show p + 1 + N - (p + 1) = N by omega] at hds hsl2
      simp only [← hZ2, ← hcz2] at hsl2
      obtain ⟨ds, hdd⟩ : ∃ ds, ds = (xs.drop (p + 1)).take N := ⟨_, rfl⟩
      have hdl : ds.length = N := by rw [hdd, List.length_take, List.length_drop]; omega
      rw [← hdd] at hds HOP
      have HC := Lib.hid (fun W (hb : Below B w W) => rcopy_any B _ ds W (hds.below hb) (by omega))
      have HNN := Lib.hid hN
      clear hds hZ2 hcz2 hdd hn hN
      have hll : (L.length + 1) * 32 ≤ 140737488355328 := by have := hp.out.len; omega
      go_wp2_with fail
      refine (HC.out _ ((hp.out.bel).mono hB)).mono ?_
      intro e w2 hfr
      obtain ⟨u2, rfl, hown2, hb2⟩ := fresh_v hfr
      obtain ⟨A2, c2, rfl⟩ := hown2.form
      have hsz := hp.out.bel.size
      have hn2 : ∀ q ∈ L, ∀ g, q.at_.ownBlock = some g → (Value.slice A2 ds.length c2).ownBlock ≠ some g := fun q hq g hg he => by
        have h1 := (World.ownsRow.lt (hp.out.ops.2.1 q hq) g hg).2
        have h2 := (World.ownsRow.lt hown2 g he).1
        omega
      obtain ⟨W3, hW3⟩ : ∃ W3, W3 = w2.alloc (.cells #[.int .u8 (c.toNat : Int), .slice A2 ds.length c2] 38) := ⟨_, rfl⟩
      have k0 : W3.cell? ⟨w2.heap.size, 0, none⟩ = some (.int .u8 (c.toNat : Int)) := by rw [hW3]; exact cell_of_row _ _ 0 _ _ _ (heap_alloc_new w2 _)
      have k1 : W3.cell? ⟨w2.heap.size, 1, none⟩ = some (.slice A2 ds.length c2) := by rw [hW3]; exact cell_of_row _ _ 1 _ _ _ (heap_alloc_new w2 _)
      have ops3 : ROpsAt W3 w.heap.size v L := by rw [hW3]; exact (hp.out.ops.below hb2).alloc _
      have own3 : OwnB W3 w.heap.size (.slice A2 ds.length c2) ds := by rw [hW3]; exact World.ownsRow.alloc (own_base hown2 hsz) _
      have bel3 : Below w.heap.size w W3 := by
        rw [hW3]
        have := hp.out.bel.trans (hb2.mono hsz)
        exact this.alloc this.size _
      have OPS := Lib.hid ops3
      have OWN := Lib.hid own3
      have BEL := Lib.hid bel3
      have HNE := Lib.hid hn2
      clear ops3 own3 bel3 hn2 hown2 hfr hb2 hsz
      rw [hdl] at OWN HNE k1 hW3 ⊢
      go_wp2_with (at_builtin; rw [← hW3]; refine wpList_append_rop rfl (.tmp 58) (.tmp 68) rfl w.heap.size _ L.length (cellsOf L) rfl OPS.out.1 w2.heap.size (.int .u8 (c.toNat : Int)) (.slice A2 N c2) rfl k0 k1 rfl rfl hll BEL.out.size ?_; intro v5 w5 hown5 hg5)
      clear k0 k1 hW3
      have hT5 : Turns (fun k => v.ownBlock = some k) W3 w5 := (Turns.refl _ W3).grown hg5 (fun k hk _ => hk)
      have ops5 := OPS.out.snoc (p := ⟨c, .slice A2 N c2, ds⟩) OWN.out HNE.out hown5 rfl hg5
      have bel5 : Below w.heap.size w w5 := BEL.out.trans (hT5.below_of BEL.out.size (fun i hi e => by have := (OPS.out.1.lt i e).1; omega))
      go_roundg (xs.length - (p + 1 + N))
      case measure => omega
      case rel => exact ⟨_, L ++ [⟨c, .slice A2 N c2, ds⟩], p + 1 + N, rfl, by omega, by first | rfl | (congr 1; have := HNN.out; omega), by omega, Lib.hid (hp.out.good HD.out HOP.out ops5 bel5 (by omega))⟩

  by_cases h2 : c.toNat = 76
  · -- one byte says it
    have hwd : wideOf c = 1 := by unfold wideOf; rw [if_pos h2]
    have f1 : decide ((c.toNat : Int) ≤ 75) = false := decide_eq_false (by omega)
    have f2 : ((c.toNat : Int) == 76) = true := by simp only [beq_iff_eq]; omega

    by_cases hw : (xs.drop (p + 1)).length < 1
    · have herr : (opR c (xs.drop (p + 1))).2.1 = 4 := by rw [opR_eq _ _ (by rw [List.length_drop]; omega), hwd, if_pos hw]
      have hbad := Lib.hid (hp.out.bad HD.out herr)
      have dw : decide ((xs.length : Int) - ((p : Int) + 1) < 1) = true := decide_eq_true (by rw [List.length_drop] at hw; omega)
      clear herr
      go_wp2_with fail
      go_ret2
      exact rparsed_none hbad.out hp.out.bel
    have hw2 : p + 1 + 1 ≤ xs.length := by rw [List.length_drop] at hw; omega
    have dw : decide ((xs.length : Int) - ((p : Int) + 1) < 1) = false := decide_eq_false (by omega)
    have hnb := manyOf_bd c (xs.drop (p + 1))
    obtain ⟨n, hn⟩ : ∃ n, n = manyOf c (xs.drop (p + 1)) := ⟨_, rfl⟩
    rw [← hn] at hnb
    by_cases hsh : (xs.length : Int) - ((p : Int) + 1 + 1) < n
    · have herr : (opR c (xs.drop (p + 1))).2.1 = 4 := by rw [opR_eq _ _ (by rw [List.length_drop]; omega), hwd, if_neg hw, if_pos (by rw [← hn, List.length_drop, List.length_drop]; omega)]
      have hbad := Lib.hid (hp.out.bad HD.out herr)
      have dn : decide ((xs.length : Int) - ((p : Int) + 1 + 1) < n) = true := decide_eq_true hsh
      have hsl : ∀ W, (Instr.slice 22 (.slice (some (⟨b, o, none⟩ : Addr)) xs.length cp) (some (.int .i64 ((p : Int) + 1))) (some (.int .i64 ((p : Int) + 1 + 1))) none).run Try.prog W = .ok (.slice (if cp = p + 1 then (some (⟨b, o, none⟩ : Addr)) else (some (⟨b, o, none⟩ : Addr)).map (fun x => x.add (p + 1))) (p + 1 + 1 - (p + 1)) (cp - (p + 1))) W := fun W => run_part (some (⟨b, o, none⟩ : Addr)) xs.length cp (p + 1) (p + 1 + 1) _ _ (by omega) (by omega) (by omega) (by omega) W
      have hys := Byt.sub HX.out (lo := p + 1) (hi := p + 1 + 1) (by omega) (by omega)
      have hyl : ((xs.drop (p + 1)).take (p + 1 + 1 - (p + 1))).length = 1 := by rw [List.length_take, List.length_drop]; omega
      obtain ⟨Z, hZ⟩ : ∃ Z, Z = (if cp = p + 1 then (some (⟨b, o, none⟩ : Addr)) else (some (⟨b, o, none⟩ : Addr)).map (fun x => x.add (p + 1))) := ⟨_, rfl⟩
      obtain ⟨cz, hcz⟩ : ∃ cz, cz = cp - (p + 1) := ⟨_, rfl⟩
      rw [← hZ, ← hcz] at hys
      have hmv : val ((xs.drop (p + 1)).take (p + 1 + 1 - (p + 1))) = manyOf c (xs.drop (p + 1)) := by
        unfold manyOf
        rw [if_neg (by omega), hwd]
        congr 2
        omega
      have HV := Lib.hid (fun W (hb : Below B w W) => fval_any B _ _ W (hys.below hb) (by rw [hyl]; decide))
      rw [hmv, ← hn] at HV
      rw [show p + 1 + 1 - (p + 1) = 1 by omega] at HV hsl
      simp only [← hZ, ← hcz] at hsl
      clear hys hyl hmv hZ hcz
      clear h2
      clear herr
      go_wp2_with fail
      refine (HV.out _ ((hp.out.bel).mono hB)).mono ?_
      rintro e w1 ⟨rfl, rfl⟩
      go_wp2_with fail
      go_ret2
      exact rparsed_none hbad.out hp.out.bel
    · have dn : decide ((xs.length : Int) - ((p : Int) + 1 + 1) < n) = false := decide_eq_false hsh
      obtain ⟨N, hN⟩ : ∃ N : Nat, n = (N : Int) := ⟨n.toNat, by omega⟩
      have hop : opR c (xs.drop (p + 1)) = ((xs.drop (p + 1 + 1)).take N, 0, xs.drop (p + 1 + 1 + N)) := by
        rw [opR_eq _ _ (by rw [List.length_drop]; omega), hwd, if_neg hw, if_neg (by rw [← hn, List.length_drop, List.length_drop]; omega), ← hn, hN, Int.toNat_natCast]
        rw [List.drop_drop, List.drop_drop]
        try rfl
      have HOP := Lib.hid hop
      clear hop
      have hsl : ∀ W, (Instr.slice 22 (.slice (some (⟨b, o, none⟩ : Addr)) xs.length cp) (some (.int .i64 ((p : Int) + 1))) (some (.int .i64 ((p : Int) + 1 + 1))) none).run Try.prog W = .ok (.slice (if cp = p + 1 then (some (⟨b, o, none⟩ : Addr)) else (some (⟨b, o, none⟩ : Addr)).map (fun x => x.add (p + 1))) (p + 1 + 1 - (p + 1)) (cp - (p + 1))) W := fun W => run_part (some (⟨b, o, none⟩ : Addr)) xs.length cp (p + 1) (p + 1 + 1) _ _ (by omega) (by omega) (by omega) (by omega) W
      have hys := Byt.sub HX.out (lo := p + 1) (hi := p + 1 + 1) (by omega) (by omega)
      have hyl : ((xs.drop (p + 1)).take (p + 1 + 1 - (p + 1))).length = 1 := by rw [List.length_take, List.length_drop]; omega
      obtain ⟨Z, hZ⟩ : ∃ Z, Z = (if cp = p + 1 then (some (⟨b, o, none⟩ : Addr)) else (some (⟨b, o, none⟩ : Addr)).map (fun x => x.add (p + 1))) := ⟨_, rfl⟩
      obtain ⟨cz, hcz⟩ : ∃ cz, cz = cp - (p + 1) := ⟨_, rfl⟩
      rw [← hZ, ← hcz] at hys
      have hmv : val ((xs.drop (p + 1)).take (p + 1 + 1 - (p + 1))) = manyOf c (xs.drop (p + 1)) := by
        unfold manyOf
        rw [if_neg (by omega), hwd]
        congr 2
        omega
      have HV := Lib.hid (fun W (hb : Below B w W) => fval_any B _ _ W (hys.below hb) (by rw [hyl]; decide))
      rw [hmv, ← hn] at HV
      rw [show p + 1 + 1 - (p + 1) = 1 by omega] at HV hsl
      simp only [← hZ, ← hcz] at hsl
      clear hys hyl hmv hZ hcz
      clear h2
      have hN2 : p + 1 + 1 + N ≤ xs.length := by omega
      have hsl2 : ∀ W, (Instr.slice 22 (.slice (some (⟨b, o, none⟩ : Addr)) xs.length cp) (some (.int .i64 ((p : Int) + 1 + 1))) (some (.int .i64 ((p : Int) + 1 + 1 + n))) none).run Try.prog W = .ok (.slice (if cp = p + 1 + 1 then (some (⟨b, o, none⟩ : Addr)) else (some (⟨b, o, none⟩ : Addr)).map (fun x => x.add (p + 1 + 1))) (p + 1 + 1 + N - (p + 1 + 1)) (cp - (p + 1 + 1))) W := fun W => run_part (some (⟨b, o, none⟩ : Addr)) xs.length cp (p + 1 + 1) (p + 1 + 1 + N) _ _ (by omega) (by omega) (by omega) (by omega) W
      have hds := Byt.sub HX.out (lo := p + 1 + 1) (hi := p + 1 + 1 + N) (by omega) (by omega)
      obtain ⟨Z2, hZ2⟩ : ∃ Z, Z = (if cp = p + 1 + 1 then (some (⟨b, o, none⟩ : Addr)) else (some (⟨b, o, none⟩ : Addr)).map (fun x => x.add (p + 1 + 1))) := ⟨_, rfl⟩
      obtain ⟨cz2, hcz2⟩ : ∃ cz, cz = cp - (p + 1 + 1) := ⟨_, rfl⟩
      rw [← hZ2, ← hcz2] at hds
      rw [show p + 1 + 1 + N - (p + 1 + 1) = N by omega] at hds hsl2
      simp only [← hZ2, ← hcz2] at hsl2
      obtain ⟨ds, hdd⟩ : ∃ ds, ds = (xs.drop (p + 1 + 1)).take N := ⟨_, rfl⟩
      have hdl : ds.length = N := by rw [hdd, List.length_take, List.length_drop]; omega
      rw [← hdd] at hds HOP
      have HC := Lib.hid (fun W (hb : Below B w W) => rcopy_any B _ ds W (hds.below hb) (by omega))
      have HNN := Lib.hid hN
      clear hds hZ2 hcz2 hdd hn hN
      have hll : (L.length + 1) * 32 ≤ 140737488355328 := by have := hp.out.len; omega
      go_wp2_with fail
      refine (HV.out _ ((hp.out.bel).mono hB)).mono ?_
      rintro e w1 ⟨rfl, rfl⟩
      go_wp2_with fail
      refine (HC.out _ ((hp.out.bel).mono hB)).mono ?_
      intro e w2 hfr
      obtain ⟨u2, rfl, hown2, hb2⟩ := fresh_v hfr
      obtain ⟨A2, c2, rfl⟩ := hown2.form
      have hsz := hp.out.bel.size
      have hn2 : ∀ q ∈ L, ∀ g, q.at_.ownBlock = some g → (Value.slice A2 ds.length c2).ownBlock ≠ some g := fun q hq g hg he => by
        have h1 := (World.ownsRow.lt (hp.out.ops.2.1 q hq) g hg).2
        have h2 := (World.ownsRow.lt hown2 g he).1
        omega
      obtain ⟨W3, hW3⟩ : ∃ W3, W3 = w2.alloc (.cells #[.int .u8 (c.toNat : Int), .slice A2 ds.length c2] 38) := ⟨_, rfl⟩
      have k0 : W3.cell? ⟨w2.heap.size, 0, none⟩ = some (.int .u8 (c.toNat : Int)) := by rw [hW3]; exact cell_of_row _ _ 0 _ _ _ (heap_alloc_new w2 _)
      have k1 : W3.cell? ⟨w2.heap.size, 1, none⟩ = some (.slice A2 ds.length c2) := by rw [hW3]; exact cell_of_row _ _ 1 _ _ _ (heap_alloc_new w2 _)
      have ops3 : ROpsAt W3 w.heap.size v L := by rw [hW3]; exact (hp.out.ops.below hb2).alloc _
      have own3 : OwnB W3 w.heap.size (.slice A2 ds.length c2) ds := by rw [hW3]; exact World.ownsRow.alloc (own_base hown2 hsz) _
      have bel3 : Below w.heap.size w W3 := by
        rw [hW3]
        have := hp.out.bel.trans (hb2.mono hsz)
        exact this.alloc this.size _
      have OPS := Lib.hid ops3
      have OWN := Lib.hid own3
      have BEL := Lib.hid bel3
      have HNE := Lib.hid hn2
      clear ops3 own3 bel3 hn2 hown2 hfr hb2 hsz
      rw [hdl] at OWN HNE k1 hW3 ⊢
      go_wp2_with (at_builtin; rw [← hW3]; refine wpList_append_rop rfl (.tmp 58) (.tmp 68) rfl w.heap.size _ L.length (cellsOf L) rfl OPS.out.1 w2.heap.size (.int .u8 (c.toNat : Int)) (.slice A2 N c2) rfl k0 k1 rfl rfl hll BEL.out.size ?_; intro v5 w5 hown5 hg5)
      clear k0 k1 hW3
      have hT5 : Turns (fun k => v.ownBlock = some k) W3 w5 := (Turns.refl _ W3).grown hg5 (fun k hk _ => hk)
      have ops5 := OPS.out.snoc (p := ⟨c, .slice A2 N c2, ds⟩) OWN.out HNE.out hown5 rfl hg5
      have bel5 : Below w.heap.size w w5 := BEL.out.trans (hT5.below_of BEL.out.size (fun i hi e => by have := (OPS.out.1.lt i e).1; omega))
      go_roundg (xs.length - (p + 1 + 1 + N))
      case measure => omega
      case rel => exact ⟨_, L ++ [⟨c, .slice A2 N c2, ds⟩], p + 1 + 1 + N, rfl, by omega, by first | rfl | (congr 1; have := HNN.out; omega), by omega, Lib.hid (hp.out.good HD.out HOP.out ops5 bel5 (by omega))⟩

  by_cases h3 : c.toNat = 77
  · -- two bytes say it
    have hwd : wideOf c = 2 := by unfold wideOf; rw [if_neg h2, if_pos h3]
    have f1 : decide ((c.toNat : Int) ≤ 75) = false := decide_eq_false (by omega)
    have f2 : ((c.toNat : Int) == 76) = false := by simp only [beq_eq_false_iff_ne, ne_eq]; omega
    have f3 : ((c.toNat : Int) == 77) = true := by simp only [beq_iff_eq]; omega

    by_cases hw : (xs.drop (p + 1)).length < 2
    · have herr : (opR c (xs.drop (p + 1))).2.1 = 4 := by rw [opR_eq _ _ (by rw [List.length_drop]; omega), hwd, if_pos hw]
      have hbad := Lib.hid (hp.out.bad HD.out herr)
      have dw : decide ((xs.length : Int) - ((p : Int) + 1) < 2) = true := decide_eq_true (by rw [List.length_drop] at hw; omega)
      clear herr
      go_wp2_with fail
      go_ret2
      exact rparsed_none hbad.out hp.out.bel
    have hw2 : p + 1 + 2 ≤ xs.length := by rw [List.length_drop] at hw; omega
    have dw : decide ((xs.length : Int) - ((p : Int) + 1) < 2) = false := decide_eq_false (by omega)
    have hnb := manyOf_bd c (xs.drop (p + 1))
    obtain ⟨n, hn⟩ : ∃ n, n = manyOf c (xs.drop (p + 1)) := ⟨_, rfl⟩
    rw [← hn] at hnb
    by_cases hsh : (xs.length : Int) - ((p : Int) + 1 + 2) < n
    · have herr : (opR c (xs.drop (p + 1))).2.1 = 4 := by rw [opR_eq _ _ (by rw [List.length_drop]; omega), hwd, if_neg hw, if_pos (by rw [← hn, List.length_drop, List.length_drop]; omega)]
      have hbad := Lib.hid (hp.out.bad HD.out herr)
      have dn : decide ((xs.length : Int) - ((p : Int) + 1 + 2) < n) = true := decide_eq_true hsh
      have hsl : ∀ W, (Instr.slice 22 (.slice (some (⟨b, o, none⟩ : Addr)) xs.length cp) (some (.int .i64 ((p : Int) + 1))) (some (.int .i64 ((p : Int) + 1 + 2))) none).run Try.prog W = .ok (.slice (if cp = p + 1 then (some (⟨b, o, none⟩ : Addr)) else (some (⟨b, o, none⟩ : Addr)).map (fun x => x.add (p + 1))) (p + 1 + 2 - (p + 1)) (cp - (p + 1))) W := fun W => run_part (some (⟨b, o, none⟩ : Addr)) xs.length cp (p + 1) (p + 1 + 2) _ _ (by omega) (by omega) (by omega) (by omega) W
      have hys := Byt.sub HX.out (lo := p + 1) (hi := p + 1 + 2) (by omega) (by omega)
      have hyl : ((xs.drop (p + 1)).take (p + 1 + 2 - (p + 1))).length = 2 := by rw [List.length_take, List.length_drop]; omega
      obtain ⟨Z, hZ⟩ : ∃ Z, Z = (if cp = p + 1 then (some (⟨b, o, none⟩ : Addr)) else (some (⟨b, o, none⟩ : Addr)).map (fun x => x.add (p + 1))) := ⟨_, rfl⟩
      obtain ⟨cz, hcz⟩ : ∃ cz, cz = cp - (p + 1) := ⟨_, rfl⟩
      rw [← hZ, ← hcz] at hys
      have hmv : val ((xs.drop (p + 1)).take (p + 1 + 2 - (p + 1))) = manyOf c (xs.drop (p + 1)) := by
        unfold manyOf
        rw [if_neg (by omega), hwd]
        congr 2
        omega
      have HV := Lib.hid (fun W (hb : Below B w W) => fval_any B _ _ W (hys.below hb) (by rw [hyl]; decide))
      rw [hmv, ← hn] at HV
      rw [show p + 1 + 2 - (p + 1) = 2 by omega] at HV hsl
      simp only [← hZ, ← hcz] at hsl
      clear hys hyl hmv hZ hcz
      clear h3
      clear herr
      go_wp2_with fail
      refine (HV.out _ ((hp.out.bel).mono hB)).mono ?_
      rintro e w1 ⟨rfl, rfl⟩
      go_wp2_with fail
      go_ret2
      exact rparsed_none hbad.out hp.out.bel
    · have dn : decide ((xs.length : Int) - ((p : Int) + 1 + 2) < n) = false := decide_eq_false hsh
      obtain ⟨N, hN⟩ : ∃ N : Nat, n = (N : Int) := ⟨n.toNat, by omega⟩
      have hop : opR c (xs.drop (p + 1)) = ((xs.drop (p + 1 + 2)).take N, 0, xs.drop (p + 1 + 2 + N)) := by
        rw [opR_eq _ _ (by rw [List.length_drop]; omega), hwd, if_neg hw, if_neg (by rw [← hn, List.length_drop, List.length_drop]; omega), ← hn, hN, Int.toNat_natCast]
        rw [List.drop_drop, List.drop_drop]
        try rfl
      have HOP := Lib.hid hop
      clear hop
      have hsl : ∀ W, (Instr.slice 22 (.slice (some (⟨b, o, none⟩ : Addr)) xs.length cp) (some (.int .i64 ((p : Int) + 1))) (some (.int .i64 ((p : Int) + 1 + 2))) none).run Try.prog W = .ok (.slice (if cp = p + 1 then (some (⟨b, o, none⟩ : Addr)) else (some (⟨b, o, none⟩ : Addr)).map (fun x => x.add (p + 1))) (p + 1 + 2 - (p + 1)) (cp - (p + 1))) W := fun W => run_part (some (⟨b, o, none⟩ : Addr)) xs.length cp (p + 1) (p + 1 + 2) _ _ (by omega) (by omega) (by omega) (by omega) W
      have hys := Byt.sub HX.out (lo := p + 1) (hi := p + 1 + 2) (by omega) (by omega)
      have hyl : ((xs.drop (p + 1)).take (p + 1 + 2 - (p + 1))).length = 2 := by rw [List.length_take, List.length_drop]; omega
      obtain ⟨Z, hZ⟩ : ∃ Z, Z = (if cp = p + 1 then (some (⟨b, o, none⟩ : Addr)) else (some (⟨b, o, none⟩ : Addr)).map (fun x => x.add (p + 1))) := ⟨_, rfl⟩
      obtain ⟨cz, hcz⟩ : ∃ cz, cz = cp - (p + 1) := ⟨_, rfl⟩
      rw [← hZ, ← hcz] at hys
      have hmv : val ((xs.drop (p + 1)).take (p + 1 + 2 - (p + 1))) = manyOf c (xs.drop (p + 1)) := by
        unfold manyOf
        rw [if_neg (by omega), hwd]
        congr 2
        omega
      have HV := Lib.hid (fun W (hb : Below B w W) => fval_any B _ _ W (hys.below hb) (by rw [hyl]; decide))
      rw [hmv, ← hn] at HV
      rw [show p + 1 + 2 - (p + 1) = 2 by omega] at HV hsl
      simp only [← hZ, ← hcz] at hsl
      clear hys hyl hmv hZ hcz
      clear h3
      have hN2 : p + 1 + 2 + N ≤ xs.length := by omega
      have hsl2 : ∀ W, (Instr.slice 22 (.slice (some (⟨b, o, none⟩ : Addr)) xs.length cp) (some (.int .i64 ((p : Int) + 1 + 2))) (some (.int .i64 ((p : Int) + 1 + 2 + n))) none).run Try.prog W = .ok (.slice (if cp = p + 1 + 2 then (some (⟨b, o, none⟩ : Addr)) else (some (⟨b, o, none⟩ : Addr)).map (fun x => x.add (p + 1 + 2))) (p + 1 + 2 + N - (p + 1 + 2)) (cp - (p + 1 + 2))) W := fun W => run_part (some (⟨b, o, none⟩ : Addr)) xs.length cp (p + 1 + 2) (p + 1 + 2 + N) _ _ (by omega) (by omega) (by omega) (by omega) W
      have hds := Byt.sub HX.out (lo := p + 1 + 2) (hi := p + 1 + 2 + N) (by omega) (by omega)
      obtain ⟨Z2, hZ2⟩ : ∃ Z, Z = (if cp = p + 1 + 2 then (some (⟨b, o, none⟩ : Addr)) else (some (⟨b, o, none⟩ : Addr)).map (fun x => x.add (p + 1 + 2))) := ⟨_, rfl⟩
      obtain ⟨cz2, hcz2⟩ : ∃ cz, cz = cp - (p + 1 + 2) := ⟨_, rfl⟩
      rw [← hZ2, ← hcz2] at hds
      rw [show p + 1 + 2 + N - (p + 1 + 2) = N by omega] at hds hsl2
      simp only [← hZ2, ← hcz2] at hsl2
      obtain ⟨ds, hdd⟩ : ∃ ds, ds = (xs.drop (p + 1 + 2)).take N := ⟨_, rfl⟩
      have hdl : ds.length = N := by rw [hdd, List.length_take, List.length_drop]; omega
      rw [← hdd] at hds HOP
      have HC := Lib.hid (fun W (hb : Below B w W) => rcopy_any B _ ds W (hds.below hb) (by omega))
      have HNN := Lib.hid hN
      clear hds hZ2 hcz2 hdd hn hN
      have hll : (L.length + 1) * 32 ≤ 140737488355328 := by have := hp.out.len; omega
      go_wp2_with fail
      refine (HV.out _ ((hp.out.bel).mono hB)).mono ?_
      rintro e w1 ⟨rfl, rfl⟩
      go_wp2_with fail
      refine (HC.out _ ((hp.out.bel).mono hB)).mono ?_
      intro e w2 hfr
      obtain ⟨u2, rfl, hown2, hb2⟩ := fresh_v hfr
      obtain ⟨A2, c2, rfl⟩ := hown2.form
      have hsz := hp.out.bel.size
      have hn2 : ∀ q ∈ L, ∀ g, q.at_.ownBlock = some g → (Value.slice A2 ds.length c2).ownBlock ≠ some g := fun q hq g hg he => by
        have h1 := (World.ownsRow.lt (hp.out.ops.2.1 q hq) g hg).2
        have h2 := (World.ownsRow.lt hown2 g he).1
        omega
      obtain ⟨W3, hW3⟩ : ∃ W3, W3 = w2.alloc (.cells #[.int .u8 (c.toNat : Int), .slice A2 ds.length c2] 38) := ⟨_, rfl⟩
      have k0 : W3.cell? ⟨w2.heap.size, 0, none⟩ = some (.int .u8 (c.toNat : Int)) := by rw [hW3]; exact cell_of_row _ _ 0 _ _ _ (heap_alloc_new w2 _)
      have k1 : W3.cell? ⟨w2.heap.size, 1, none⟩ = some (.slice A2 ds.length c2) := by rw [hW3]; exact cell_of_row _ _ 1 _ _ _ (heap_alloc_new w2 _)
      have ops3 : ROpsAt W3 w.heap.size v L := by rw [hW3]; exact (hp.out.ops.below hb2).alloc _
      have own3 : OwnB W3 w.heap.size (.slice A2 ds.length c2) ds := by rw [hW3]; exact World.ownsRow.alloc (own_base hown2 hsz) _
      have bel3 : Below w.heap.size w W3 := by
        rw [hW3]
        have := hp.out.bel.trans (hb2.mono hsz)
        exact this.alloc this.size _
      have OPS := Lib.hid ops3
      have OWN := Lib.hid own3
      have BEL := Lib.hid bel3
      have HNE := Lib.hid hn2
      clear ops3 own3 bel3 hn2 hown2 hfr hb2 hsz
      rw [hdl] at OWN HNE k1 hW3 ⊢
      go_wp2_with (at_builtin; rw [← hW3]; refine wpList_append_rop rfl (.tmp 58) (.tmp 68) rfl w.heap.size _ L.length (cellsOf L) rfl OPS.out.1 w2.heap.size (.int .u8 (c.toNat : Int)) (.slice A2 N c2) rfl k0 k1 rfl rfl hll BEL.out.size ?_; intro v5 w5 hown5 hg5)
      clear k0 k1 hW3
      have hT5 : Turns (fun k => v.ownBlock = some k) W3 w5 := (Turns.refl _ W3).grown hg5 (fun k hk _ => hk)
      have ops5 := OPS.out.snoc (p := ⟨c, .slice A2 N c2, ds⟩) OWN.out HNE.out hown5 rfl hg5
      have bel5 : Below w.heap.size w w5 := BEL.out.trans (hT5.below_of BEL.out.size (fun i hi e => by have := (OPS.out.1.lt i e).1; omega))
      go_roundg (xs.length - (p + 1 + 2 + N))
      case measure => omega
      case rel => exact ⟨_, L ++ [⟨c, .slice A2 N c2, ds⟩], p + 1 + 2 + N, rfl, by omega, by first | rfl | (congr 1; have := HNN.out; omega), by omega, Lib.hid (hp.out.good HD.out HOP.out ops5 bel5 (by omega))⟩

  by_cases h4 : c.toNat = 78
  · -- four bytes say it
    have hwd : wideOf c = 4 := by unfold wideOf; rw [if_neg h2, if_neg h3, if_pos h4]
    have f1 : decide ((c.toNat : Int) ≤ 75) = false := decide_eq_false (by omega)
    have f2 : ((c.toNat : Int) == 76) = false := by simp only [beq_eq_false_iff_ne, ne_eq]; omega
    have f3 : ((c.toNat : Int) == 77) = false := by simp only [beq_eq_false_iff_ne, ne_eq]; omega
    have f4 : ((c.toNat : Int) == 78) = true := by simp only [beq_iff_eq]; omega

    by_cases hw : (xs.drop (p + 1)).length < 4
    · have herr : (opR c (xs.drop (p + 1))).2.1 = 4 := by rw [opR_eq _ _ (by rw [List.length_drop]; omega), hwd, if_pos hw]
      have hbad := Lib.hid (hp.out.bad HD.out herr)
      have dw : decide ((xs.length : Int) - ((p : Int) + 1) < 4) = true := decide_eq_true (by rw [List.length_drop] at hw; omega)
      clear herr
      go_wp2_with fail
      go_ret2
      exact rparsed_none hbad.out hp.out.bel
    have hw2 : p + 1 + 4 ≤ xs.length := by rw [List.length_drop] at hw; omega
    have dw : decide ((xs.length : Int) - ((p : Int) + 1) < 4) = false := decide_eq_false (by omega)
    have hnb := manyOf_bd c (xs.drop (p + 1))
    obtain ⟨n, hn⟩ : ∃ n, n = manyOf c (xs.drop (p + 1)) := ⟨_, rfl⟩
    rw [← hn] at hnb
    by_cases hsh : (xs.length : Int) - ((p : Int) + 1 + 4) < n
    · have herr : (opR c (xs.drop (p + 1))).2.1 = 4 := by rw [opR_eq _ _ (by rw [List.length_drop]; omega), hwd, if_neg hw, if_pos (by rw [← hn, List.length_drop, List.length_drop]; omega)]
      have hbad := Lib.hid (hp.out.bad HD.out herr)
      have dn : decide ((xs.length : Int) - ((p : Int) + 1 + 4) < n) = true := decide_eq_true hsh
      have hsl : ∀ W, (Instr.slice 22 (.slice (some (⟨b, o, none⟩ : Addr)) xs.length cp) (some (.int .i64 ((p : Int) + 1))) (some (.int .i64 ((p : Int) + 1 + 4))) none).run Try.prog W = .ok (.slice (if cp = p + 1 then (some (⟨b, o, none⟩ : Addr)) else (some (⟨b, o, none⟩ : Addr)).map (fun x => x.add (p + 1))) (p + 1 + 4 - (p + 1)) (cp - (p + 1))) W := fun W => run_part (some (⟨b, o, none⟩ : Addr)) xs.length cp (p + 1) (p + 1 + 4) _ _ (by omega) (by omega) (by omega) (by omega) W
      have hys := Byt.sub HX.out (lo := p + 1) (hi := p + 1 + 4) (by omega) (by omega)
      have hyl : ((xs.drop (p + 1)).take (p + 1 + 4 - (p + 1))).length = 4 := by rw [List.length_take, List.length_drop]; omega
      obtain ⟨Z, hZ⟩ : ∃ Z, Z = (if cp = p + 1 then (some (⟨b, o, none⟩ : Addr)) else (some (⟨b, o, none⟩ : Addr)).map (fun x => x.add (p + 1))) := ⟨_, rfl⟩
      obtain ⟨cz, hcz⟩ : ∃ cz, cz = cp - (p + 1) := ⟨_, rfl⟩
      rw [← hZ, ← hcz] at hys
      have hmv : val ((xs.drop (p + 1)).take (p + 1 + 4 - (p + 1))) = manyOf c (xs.drop (p + 1)) := by
        unfold manyOf
        rw [if_neg (by omega), hwd]
        congr 2
        omega
      have HV := Lib.hid (fun W (hb : Below B w W) => fval_any B _ _ W (hys.below hb) (by rw [hyl]; decide))
      rw [hmv, ← hn] at HV
      rw [show p + 1 + 4 - (p + 1) = 4 by omega] at HV hsl
      simp only [← hZ, ← hcz] at hsl
      clear hys hyl hmv hZ hcz
      clear h4
      clear herr
      go_wp2_with fail
      refine (HV.out _ ((hp.out.bel).mono hB)).mono ?_
      rintro e w1 ⟨rfl, rfl⟩
      go_wp2_with fail
      go_ret2
      exact rparsed_none hbad.out hp.out.bel
    · have dn : decide ((xs.length : Int) - ((p : Int) + 1 + 4) < n) = false := decide_eq_false hsh
      obtain ⟨N, hN⟩ : ∃ N : Nat, n = (N : Int) := ⟨n.toNat, by omega⟩
      have hop : opR c (xs.drop (p + 1)) = ((xs.drop (p + 1 + 4)).take N, 0, xs.drop (p + 1 + 4 + N)) := by
        rw [opR_eq _ _ (by rw [List.length_drop]; omega), hwd, if_neg hw, if_neg (by rw [← hn, List.length_drop, List.length_drop]; omega), ← hn, hN, Int.toNat_natCast]
        rw [List.drop_drop, List.drop_drop]
        try rfl
      have HOP := Lib.hid hop
      clear hop
      have hsl : ∀ W, (Instr.slice 22 (.slice (some (⟨b, o, none⟩ : Addr)) xs.length cp) (some (.int .i64 ((p : Int) + 1))) (some (.int .i64 ((p : Int) + 1 + 4))) none).run Try.prog W = .ok (.slice (if cp = p + 1 then (some (⟨b, o, none⟩ : Addr)) else (some (⟨b, o, none⟩ : Addr)).map (fun x => x.add (p + 1))) (p + 1 + 4 - (p + 1)) (cp - (p + 1))) W := fun W => run_part (some (⟨b, o, none⟩ : Addr)) xs.length cp (p + 1) (p + 1 + 4) _ _ (by omega) (by omega) (by omega) (by omega) W
      have hys := Byt.sub HX.out (lo := p + 1) (hi := p + 1 + 4) (by omega) (by omega)
      have hyl : ((xs.drop (p + 1)).take (p + 1 + 4 - (p + 1))).length = 4 := by rw [List.length_take, List.length_drop]; omega
      obtain ⟨Z, hZ⟩ : ∃ Z, Z = (if cp = p + 1 then (some (⟨b, o, none⟩ : Addr)) else (some (⟨b, o, none⟩ : Addr)).map (fun x => x.add (p + 1))) := ⟨_, rfl⟩
      obtain ⟨cz, hcz⟩ : ∃ cz, cz = cp - (p + 1) := ⟨_, rfl⟩
      rw [← hZ, ← hcz] at hys
      have hmv : val ((xs.drop (p + 1)).take (p + 1 + 4 - (p + 1))) = manyOf c (xs.drop (p + 1)) := by
        unfold manyOf
        rw [if_neg (by omega), hwd]
        congr 2
        omega
      have HV := Lib.hid (fun W (hb : Below B w W) => fval_any B _ _ W (hys.below hb) (by rw [hyl]; decide))
      rw [hmv, ← hn] at HV
      rw [show p + 1 + 4 - (p + 1) = 4 by omega] at HV hsl
      simp only [← hZ, ← hcz] at hsl
      clear hys hyl hmv hZ hcz
      clear h4
      have hN2 : p + 1 + 4 + N ≤ xs.length := by omega
      have hsl2 : ∀ W, (Instr.slice 22 (.slice (some (⟨b, o, none⟩ : Addr)) xs.length cp) (some (.int .i64 ((p : Int) + 1 + 4))) (some (.int .i64 ((p : Int) + 1 + 4 + n))) none).run Try.prog W = .ok (.slice (if cp = p + 1 + 4 then (some (⟨b, o, none⟩ : Addr)) else (some (⟨b, o, none⟩ : Addr)).map (fun x => x.add (p + 1 + 4))) (p + 1 + 4 + N - (p + 1 + 4)) (cp - (p + 1 + 4))) W := fun W => run_part (some (⟨b, o, none⟩ : Addr)) xs.length cp (p + 1 + 4) (p + 1 + 4 + N) _ _ (by omega) (by omega) (by omega) (by omega) W
      have hds := Byt.sub HX.out (lo := p + 1 + 4) (hi := p + 1 + 4 + N) (by omega) (by omega)
      obtain ⟨Z2, hZ2⟩ : ∃ Z, Z = (if cp = p + 1 + 4 then (some (⟨b, o, none⟩ : Addr)) else (some (⟨b, o, none⟩ : Addr)).map (fun x => x.add (p + 1 + 4))) := ⟨_, rfl⟩
      obtain ⟨cz2, hcz2⟩ : ∃ cz, cz = cp - (p + 1 + 4) := ⟨_, rfl⟩
      rw [← hZ2, ← hcz2] at hds
      rw [show p + 1 + 4 + N - (p + 1 + 4) = N by omega] at hds hsl2
      simp only [← hZ2, ← hcz2] at hsl2
      obtain ⟨ds, hdd⟩ : ∃ ds, ds = (xs.drop (p + 1 + 4)).take N := ⟨_, rfl⟩
      have hdl : ds.length = N := by rw [hdd, List.length_take, List.length_drop]; omega
      rw [← hdd] at hds HOP
      have HC := Lib.hid (fun W (hb : Below B w W) => rcopy_any B _ ds W (hds.below hb) (by omega))
      have HNN := Lib.hid hN
      clear hds hZ2 hcz2 hdd hn hN
      have hll : (L.length + 1) * 32 ≤ 140737488355328 := by have := hp.out.len; omega
      go_wp2_with fail
      refine (HV.out _ ((hp.out.bel).mono hB)).mono ?_
      rintro e w1 ⟨rfl, rfl⟩
      go_wp2_with fail
      refine (HC.out _ ((hp.out.bel).mono hB)).mono ?_
      intro e w2 hfr
      obtain ⟨u2, rfl, hown2, hb2⟩ := fresh_v hfr
      obtain ⟨A2, c2, rfl⟩ := hown2.form
      have hsz := hp.out.bel.size
      have hn2 : ∀ q ∈ L, ∀ g, q.at_.ownBlock = some g → (Value.slice A2 ds.length c2).ownBlock ≠ some g := fun q hq g hg he => by
        have h1 := (World.ownsRow.lt (hp.out.ops.2.1 q hq) g hg).2
        have h2 := (World.ownsRow.lt hown2 g he).1
        omega
      obtain ⟨W3, hW3⟩ : ∃ W3, W3 = w2.alloc (.cells #[.int .u8 (c.toNat : Int), .slice A2 ds.length c2] 38) := ⟨_, rfl⟩
      have k0 : W3.cell? ⟨w2.heap.size, 0, none⟩ = some (.int .u8 (c.toNat : Int)) := by rw [hW3]; exact cell_of_row _ _ 0 _ _ _ (heap_alloc_new w2 _)
      have k1 : W3.cell? ⟨w2.heap.size, 1, none⟩ = some (.slice A2 ds.length c2) := by rw [hW3]; exact cell_of_row _ _ 1 _ _ _ (heap_alloc_new w2 _)
      have ops3 : ROpsAt W3 w.heap.size v L := by rw [hW3]; exact (hp.out.ops.below hb2).alloc _
      have own3 : OwnB W3 w.heap.size (.slice A2 ds.length c2) ds := by rw [hW3]; exact World.ownsRow.alloc (own_base hown2 hsz) _
      have bel3 : Below w.heap.size w W3 := by
        rw [hW3]
        have := hp.out.bel.trans (hb2.mono hsz)
        exact this.alloc this.size _
      have OPS := Lib.hid ops3
      have OWN := Lib.hid own3
      have BEL := Lib.hid bel3
      have HNE := Lib.hid hn2
      clear ops3 own3 bel3 hn2 hown2 hfr hb2 hsz
      rw [hdl] at OWN HNE k1 hW3 ⊢
      go_wp2_with (at_builtin; rw [← hW3]; refine wpList_append_rop rfl (.tmp 58) (.tmp 68) rfl w.heap.size _ L.length (cellsOf L) rfl OPS.out.1 w2.heap.size (.int .u8 (c.toNat : Int)) (.slice A2 N c2) rfl k0 k1 rfl rfl hll BEL.out.size ?_; intro v5 w5 hown5 hg5)
      clear k0 k1 hW3
      have hT5 : Turns (fun k => v.ownBlock = some k) W3 w5 := (Turns.refl _ W3).grown hg5 (fun k hk _ => hk)
      have ops5 := OPS.out.snoc (p := ⟨c, .slice A2 N c2, ds⟩) OWN.out HNE.out hown5 rfl hg5
      have bel5 : Below w.heap.size w w5 := BEL.out.trans (hT5.below_of BEL.out.size (fun i hi e => by have := (OPS.out.1.lt i e).1; omega))
      go_roundg (xs.length - (p + 1 + 4 + N))
      case measure => omega
      case rel => exact ⟨_, L ++ [⟨c, .slice A2 N c2, ds⟩], p + 1 + 4 + N, rfl, by omega, by first | rfl | (congr 1; have := HNN.out; omega), by omega, Lib.hid (hp.out.good HD.out HOP.out ops5 bel5 (by omega))⟩

  · -- none
    have hwd : wideOf c = 0 := by unfold wideOf; rw [if_neg h2, if_neg h3, if_neg h4]
    have f1 : decide ((c.toNat : Int) ≤ 75) = false := decide_eq_false (by omega)
    have f2 : ((c.toNat : Int) == 76) = false := by simp only [beq_eq_false_iff_ne, ne_eq]; omega
    have f3 : ((c.toNat : Int) == 77) = false := by simp only [beq_eq_false_iff_ne, ne_eq]; omega
    have f4 : ((c.toNat : Int) == 78) = false := by simp only [beq_eq_false_iff_ne, ne_eq]; omega

    have hw : ¬ (xs.drop (p + 1)).length < 0 := by omega
    have hw2 : p + 1 ≤ xs.length := by omega
    have dw : decide ((xs.length : Int) - ((p : Int) + 1) < 0) = false := decide_eq_false (by omega)
    have hnb := manyOf_bd c (xs.drop (p + 1))
    obtain ⟨n, hn⟩ : ∃ n, n = manyOf c (xs.drop (p + 1)) := ⟨_, rfl⟩
    rw [← hn] at hnb
    by_cases hsh : (xs.length : Int) - ((p : Int) + 1) < n
    · have herr : (opR c (xs.drop (p + 1))).2.1 = 4 := by rw [opR_eq _ _ (by rw [List.length_drop]; omega), hwd, if_neg hw, if_pos (by rw [← hn, List.length_drop, List.length_drop]; omega)]
      have hbad := Lib.hid (hp.out.bad HD.out herr)
      have dn : decide ((xs.length : Int) - ((p : Int) + 1) < n) = true := decide_eq_true hsh
      have hnc : n = 0 := by rw [hn]; unfold manyOf; rw [if_neg h1, hwd, List.take_zero]; rfl
      subst hnc
      clear herr
      exfalso; omega
    · have dn : decide ((xs.length : Int) - ((p : Int) + 1) < n) = false := decide_eq_false hsh
      obtain ⟨N, hN⟩ : ∃ N : Nat, n = (N : Int) := ⟨n.toNat, by omega⟩
      have hop : opR c (xs.drop (p + 1)) = ((xs.drop (p + 1)).take N, 0, xs.drop (p + 1 + N)) := by
        rw [opR_eq _ _ (by rw [List.length_drop]; omega), hwd, if_neg hw, if_neg (by rw [← hn, List.length_drop, List.length_drop]; omega), ← hn, hN, Int.toNat_natCast]
        rw [List.drop_drop, List.drop_drop]
        try rfl
      have HOP := Lib.hid hop
      clear hop
      have hnc : n = 0 := by rw [hn]; unfold manyOf; rw [if_neg h1, hwd, List.take_zero]; rfl
      subst hnc
      have hN2 : p + 1 + N ≤ xs.length := by omega
      have hsl2 : ∀ W, (Instr.slice 22 (.slice (some (⟨b, o, none⟩ : Addr)) xs.length cp) (some (.int .i64 ((p : Int) + 1))) (some (.int .i64 ((p : Int) + 1))) none).run Try.prog W = .ok (.slice (if cp = p + 1 then (some (⟨b, o, none⟩ : Addr)) else (some (⟨b, o, none⟩ : Addr)).map (fun x => x.add (p + 1))) (p + 1 + N - (p + 1)) (cp - (p + 1))) W := fun W => run_part (some (⟨b, o, none⟩ : Addr)) xs.length cp (p + 1) (p + 1 + N) _ _ (by omega) (by omega) (by omega) (by omega) W
      have hds := Byt.sub HX.out (lo := p + 1) (hi := p + 1 + N) (by omega) (by omega)
      obtain ⟨Z2, hZ2⟩ : ∃ Z, Z = (if cp = p + 1 then (some (⟨b, o, none⟩ : Addr)) else (some (⟨b, o, none⟩ : Addr)).map (fun x => x.add (p + 1))) := ⟨_, rfl⟩
      obtain ⟨cz2, hcz2⟩ : ∃ cz, cz = cp - (p + 1) := ⟨_, rfl⟩
      rw [← hZ2, ← hcz2] at hds
      rw [show p + 1 + N - (p + 1) = N by omega] at hds hsl2
      simp only [← hZ2, ← hcz2] at hsl2
      obtain ⟨ds, hdd⟩ : ∃ ds, ds = (xs.drop (p + 1)).take N := ⟨_, rfl⟩
      have hdl : ds.length = N := by rw [hdd, List.length_take, List.length_drop]; omega
      rw [← hdd] at hds HOP
      have HC := Lib.hid (fun W (hb : Below B w W) => rcopy_any B _ ds W (hds.below hb) (by omega))
      have HNN := Lib.hid hN
      clear hds hZ2 hcz2 hdd hn hN
      have hll : (L.length + 1) * 32 ≤ 140737488355328 := by have := hp.out.len; omega
      go_wp2_with fail
      refine (HC.out _ ((hp.out.bel).mono hB)).mono ?_
      intro e w2 hfr
      obtain ⟨u2, rfl, hown2, hb2⟩ := fresh_v hfr
      obtain ⟨A2, c2, rfl⟩ := hown2.form
      have hsz := hp.out.bel.size
      have hn2 : ∀ q ∈ L, ∀ g, q.at_.ownBlock = some g → (Value.slice A2 ds.length c2).ownBlock ≠ some g := fun q hq g hg he => by
        have h1 := (World.ownsRow.lt (hp.out.ops.2.1 q hq) g hg).2
        have h2 := (World.ownsRow.lt hown2 g he).1
        omega
      obtain ⟨W3, hW3⟩ : ∃ W3, W3 = w2.alloc (.cells #[.int .u8 (c.toNat : Int), .slice A2 ds.length c2] 38) := ⟨_, rfl⟩
      have k0 : W3.cell? ⟨w2.heap.size, 0, none⟩ = some (.int .u8 (c.toNat : Int)) := by rw [hW3]; exact cell_of_row _ _ 0 _ _ _ (heap_alloc_new w2 _)
      have k1 : W3.cell? ⟨w2.heap.size, 1, none⟩ = some (.slice A2 ds.length c2) := by rw [hW3]; exact cell_of_row _ _ 1 _ _ _ (heap_alloc_new w2 _)
      have ops3 : ROpsAt W3 w.heap.size v L := by rw [hW3]; exact (hp.out.ops.below hb2).alloc _
      have own3 : OwnB W3 w.heap.size (.slice A2 ds.length c2) ds := by rw [hW3]; exact World.ownsRow.alloc (own_base hown2 hsz) _
      have bel3 : Below w.heap.size w W3 := by
        rw [hW3]
        have := hp.out.bel.trans (hb2.mono hsz)
        exact this.alloc this.size _
      have OPS := Lib.hid ops3
      have OWN := Lib.hid own3
      have BEL := Lib.hid bel3
      have HNE := Lib.hid hn2
      clear ops3 own3 bel3 hn2 hown2 hfr hb2 hsz
      rw [hdl] at OWN HNE k1 hW3 ⊢
      go_wp2_with (at_builtin; rw [← hW3]; refine wpList_append_rop rfl (.tmp 58) (.tmp 68) rfl w.heap.size _ L.length (cellsOf L) rfl OPS.out.1 w2.heap.size (.int .u8 (c.toNat : Int)) (.slice A2 N c2) rfl k0 k1 rfl rfl hll BEL.out.size ?_; intro v5 w5 hown5 hg5)
      clear k0 k1 hW3
      have hT5 : Turns (fun k => v.ownBlock = some k) W3 w5 := (Turns.refl _ W3).grown hg5 (fun k hk _ => hk)
      have ops5 := OPS.out.snoc (p := ⟨c, .slice A2 N c2, ds⟩) OWN.out HNE.out hown5 rfl hg5
      have bel5 : Below w.heap.size w w5 := BEL.out.trans (hT5.below_of BEL.out.size (fun i hi e => by have := (OPS.out.1.lt i e).1; omega))
      go_roundg (xs.length - (p + 1 + N))
      case measure => omega
      case rel => exact ⟨_, L ++ [⟨c, .slice A2 N c2, ds⟩], p + 1 + N, rfl, by omega, by first | rfl | (congr 1; have := HNN.out; omega), by omega, Lib.hid (hp.out.good HD.out HOP.out ops5 bel5 (by omega))⟩

end Go.Proofs.Ytadgaeokiolmmaa
