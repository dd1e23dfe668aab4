/-
  Texts joined: SnRparse, SnRpushes, SnCat, SnPay, SnLawR, SnSame. Conditions: those of each.
-/
import Derived.Test.YtpfobbhoahnebaaJ6
import Derived.Lib.AppendZerosOnto
import Derived.Lib.AppendZeros
import Derived.BigQuiet
import Derived.Deep.QuietTactic
/-
  The reference's Parse and Pushes of layer 11. Conditions: sizes within the reach.
-/
namespace Go.Proofs.Ytpfobbhoahnebaa
open Go.RowKit

theorem byt_later {w : World} {B : Nat} {v : Value} {xs : List UInt8} (h : Byt w B v xs) (o : Obj) : Byt (w.alloc o) B v xs := by
  obtain ⟨A, c, hv, hl, hm, hA, hx⟩ := h
  refine ⟨A, c, hv, hl, hm, hA, fun hne => ?_⟩
  obtain ⟨b, o2, e, hb, hc⟩ := hx hne
  exact ⟨b, o2, e, hb, fun j u hu => cell_later ((Below.refl _ w).alloc (Nat.le_refl _) o) (hc j u hu)⟩
theorem Byt.sub {w : World} {B c lo hi n : Nat} {A : Option Addr} {xs : List UInt8} (h : Byt w B (.slice A n c) xs) (h1 : lo ≤ hi) (h2 : hi ≤ xs.length) :
    Byt w B (.slice (if c = lo then A else A.map (fun x => x.add lo)) (hi - lo) (c - lo)) ((xs.drop lo).take (hi - lo)) := by
  obtain ⟨A', c', e, g1, g2, g3, g4⟩ := h
  obtain ⟨e1, e2, e3⟩ := Value.slice.inj e
  subst e1 e2 e3
  have hl : ((xs.drop lo).take (hi - lo)).length = hi - lo := by rw [List.length_take, List.length_drop]; omega
  refine ⟨_, _, by rw [hl], by omega, by omega, fun hn => ?_, fun hne => ?_⟩
  · split at hn
    · obtain ⟨rfl, hc0⟩ := g3 hn
      exact ⟨by simp, by omega⟩
    · cases A with
      | none => obtain ⟨rfl, hc0⟩ := g3 rfl; exact ⟨by simp, by omega⟩
      | some a => exact absurd hn (by simp)
  · obtain ⟨b, o, rfl, hb, hcell⟩ := g4 (fun e => by rw [e] at hne; simp at hne)
    have hlt : lo < hi := by
      rcases Nat.lt_or_ge lo hi with h | h
      · exact h
      · have : hi - lo = 0 := by omega
        rw [this] at hne
        simp at hne
    have hadd : (⟨b, o, none⟩ : Addr).add lo = ⟨b, o + lo, none⟩ := by
      unfold Addr.add
      split <;> simp_all
    refine ⟨b, o + lo, by rw [if_neg (by omega)]; simp [hadd], hb, fun j u hu => ?_⟩
    rw [Nat.add_assoc]
    refine hcell _ u ?_
    rw [List.getElem?_take] at hu
    split at hu
    · rw [← hu, List.getElem?_drop]
    · exact absurd hu (by simp)
theorem run_sub (A : Option Addr) (n c lo hi : Nat) (h1 : lo ≤ hi) (h2 : hi ≤ c) (W : World) :
    (Instr.slice 22 (.slice A n c) (some (.int .i64 (lo : Int))) (some (.int .i64 (hi : Int))) none).run Try.prog W = .ok (.slice (if c = lo then A else A.map (fun x => x.add lo)) (hi - lo) (c - lo)) W := by
  obtain ⟨i0, hi0, hz0, hz1, hz2⟩ := info_parts info_u8
  have he : Try.prog.elem 22 = 5 := by kernel_rfl
  have ht : Try.prog.underlying 22 = some (.slice (Try.prog.elem 22)) := by rw [he]; exact slice_u8
  rw [run_slice_lh (ht := ht) (h0 := by omega) (h1 := by omega) (h2 := by omega), he]
  simp [sizeOf, typeInfo, hi0, hz1, sliced, go_sem]


theorem run_part (A : Option Addr) (n c lo hi : Nat) (l h : Int) (hl : l = lo) (hh : h = hi) (h1 : lo ≤ hi) (h2 : hi ≤ c) (W : World) :
    (Instr.slice 22 (.slice A n c) (some (.int .i64 l)) (some (.int .i64 h)) none).run Try.prog W = .ok (.slice (if c = lo then A else A.map (fun x => x.add lo)) (hi - lo) (c - lo)) W := by
  subst hl hh
  exact run_sub A n c lo hi h1 h2 W
theorem val_step {xs : List UInt8} {j : Nat} (hj : j < xs.length) : val (xs.drop j) = (xs[j].toNat : Int) + 256 * val (xs.drop (j + 1)) := by
  rw [List.drop_eq_getElem_cons hj]
  rfl

theorem val_le7 {xs : List UInt8} (h : xs.length ≤ 7) : val xs < 72057594037927936 := by
  have h1 := (val_bd xs).2
  have h2 : (256 : Nat) ^ xs.length ≤ 256 ^ 7 := Nat.pow_le_pow_right (by decide) h
  have h3 : (256 : Nat) ^ 7 = 72057594037927936 := by decide
  have h4 : ((256 ^ xs.length : Nat) : Int) = (256 : Int) ^ xs.length := Int.natCast_pow _ _
  omega

set_option maxHeartbeats 800000 in
theorem fval_any (B : Nat) (x : Value) (xs : List UInt8) (w : World) (hx : Byt w B x xs) (hl : xs.length ≤ 8) :
    Calls Try.prog 47 #[x] w fun e w' => e = .returned (.int .u64 (val xs)) ∧ w = w' := by
  obtain ⟨A, c, rfl⟩ := hx.form
  have hcap := hx.cap
  have HX := Lib.hid hx
  clear hx
  go_enter Try.func47, Try.ntmps47
  go_wp2_with fail
  go_loopw [3, 4] (fun s t wr => ∃ j : Nat, j ≤ xs.length ∧ t = .int .i64 ((j : Int) - 1) ∧ s = .int .u64 (val (xs.drop j)) ∧ wr = w) (fun _ t _ => (intOf t + 1).toNat)
  case atStart => exact ⟨xs.length, Nat.le_refl _, rfl, by rw [List.drop_length]; rfl, rfl⟩
  case round =>
    obtain ⟨j, hj, rfl, rfl, rfl⟩ := hrel
    rcases j with _ | j
    · rw [List.drop_zero]
      go_wp2
      go_ret
      exact ⟨rfl, rfl⟩
    · obtain ⟨A', c', e0, _, _, _, h4⟩ := HX.out
      injection e0 with e1 e2 e3
      subst e1 e3
      obtain ⟨b, o, rfl, _, hbc⟩ := h4 (by intro e; rw [e] at hj; exact absurd hj (by simp))
      have hci := hbc j _ (List.getElem?_eq_getElem (by omega : j < xs.length))
      have hstep := val_step (xs := xs) (j := j) (by omega)
      have hbd := val_bd (xs.drop (j + 1))
      have hpw := val_le7 (xs := xs.drop (j + 1)) (by rw [List.length_drop]; omega)
      obtain ⟨V, hV⟩ : ∃ V, V = val (xs.drop (j + 1)) := ⟨_, rfl⟩
      obtain ⟨q, hq⟩ : ∃ q, q = xs[j] := ⟨_, rfl⟩
      have hv0 : 0 ≤ V ∧ V < 72057594037927936 := by rw [hV]; exact ⟨hbd.1, hpw⟩
      have hqb : (q.toNat : Int) < 256 := by have := q.toNat_lt; omega
      rw [← hV, ← hq] at hstep
      rw [← hV]
      rw [← hq] at hci
      replace hci : wr.cell? ⟨b, o + j, none⟩ = some (.int .u8 (q.toNat : Int)) := hci
      have HT := Lib.hid hstep
      clear hstep hbd hpw hV hq hbc h4 e2
      go_wp2
      refine ⟨⟨j, by omega, rfl, ?_, trivial⟩, by simp [intOf]⟩
      rw [HT.out]
      go_num

set_option maxHeartbeats 400000 in
theorem rcopy_any (B : Nat) (x : Value) (xs : List UInt8) (w : World) (hr : Byt w B x xs) (hlen : xs.length ≤ 140737488355328) :
    Calls Try.prog 37 #[x] w (Fresh w xs) := by
  obtain ⟨i0, hi, hz0, hz1, hz2⟩ := info_parts info_u8
  obtain ⟨A, c, rfl⟩ := hr.form
  have HR : Hid (Byt (w.alloc (.cells #[] 5)) B (.slice A xs.length c) xs) := Lib.hid (byt_later hr _)
  have hown : (w.alloc (.cells #[] 5)).ownsRow w.heap.size 5 1 (.slice (some ⟨w.heap.size, 0, none⟩) 0 0) 0 [] := World.ownsRow_made w #[] 0 (Nat.le_refl _) (by unfold maxLen; omega) rfl
  have HO := Lib.hid hown
  clear hr hown
  go_enter Try.func37, Try.ntmps37
  go_wp2_with (at_builtin; refine wpList_append_bytes rfl (.tmp 3) (.tmp 4) 22 rfl w.heap.size 5 i0 slice_u8 hi hz0 hz1 hz2 _ 0 [] rfl HO.out B _ xs rfl HR.out (by omega) (by simp) ?_; intro v1 w1 hown1 hg1 hat1)
  go_ret
  rw [Nat.zero_add, List.nil_append] at hown1
  exact fresh_of hown1 (((Below.refl _ _).alloc (Nat.le_refl _) _).grown hg1 (by simp) (fun k hk => by cases hk; exact Nat.le_refl _))

/-- How many bytes say how many follow. -/
def wideOf (c : UInt8) : Nat := if c.toNat = 76 then 1 else if c.toNat = 77 then 2 else if c.toNat = 78 then 4 else 0
/-- How many follow. -/
def manyOf (c : UInt8) (rest : List UInt8) : Int := if c.toNat < 76 then c.toNat else val (rest.take (wideOf c))
theorem manyOf_bd (c : UInt8) (rest : List UInt8) : 0 ≤ manyOf c rest ∧ manyOf c rest < 4294967296 := by
  have hc := c.toNat_lt
  unfold manyOf
  split
  · omega
  · have h := val_bd (rest.take (wideOf c))
    have hl : (rest.take (wideOf c)).length ≤ 4 := by
      rw [List.length_take]
      have : wideOf c ≤ 4 := by unfold wideOf; split; omega; split; omega; split <;> omega
      omega
    have h2 : (256 : Nat) ^ (rest.take (wideOf c)).length ≤ 256 ^ 4 := Nat.pow_le_pow_right (by decide) hl
    have h3 : (256 : Nat) ^ 4 = 4294967296 := by decide
    have h4 : ((256 ^ (rest.take (wideOf c)).length : Nat) : Int) = (256 : Int) ^ (rest.take (wideOf c)).length := Int.natCast_pow _ _
    omega
theorem opR_eq (c : UInt8) (rest : List UInt8) (hl : rest.length ≤ 60000000) : opR c rest = if rest.length < wideOf c then ([], 4, rest)
    else if ((rest.drop (wideOf c)).length : Int) < manyOf c rest then ([], 4, rest.drop (wideOf c)) else ((rest.drop (wideOf c)).take (manyOf c rest).toNat, 0, (rest.drop (wideOf c)).drop (manyOf c rest).toNat) := by
  have hc := c.toNat_lt
  have num : ∀ k, numR k 0 rest = if rest.length < k then (0, 4, rest) else (val (rest.take k), 0, rest.drop k) := fun k => by unfold numR; rw [if_neg (by decide)]
  by_cases h1 : c.toNat < 76
  · have hw : wideOf c = 0 := by unfold wideOf; rw [if_neg (by omega), if_neg (by omega), if_neg (by omega)]
    have hm : manyOf c rest = c.toNat := by unfold manyOf; rw [if_pos h1]
    have hs : sizeD c rest = ((c.toNat : Int), 0, rest) := by unfold sizeD; rw [if_pos h1]
    unfold opR
    rw [hs]
    unfold rawR
    dsimp only
    rw [if_neg (by decide), hw, hm, if_neg (show ¬ rest.length < 0 by omega)]
    rfl
  have hm : manyOf c rest = val (rest.take (wideOf c)) := by unfold manyOf; rw [if_neg h1]
  by_cases h5 : c.toNat = 78
  · have hw : wideOf c = 4 := by unfold wideOf; rw [if_neg (by omega), if_neg (by omega), if_pos h5]
    have hb := (manyOf_bd c rest).2
    rw [hm, hw] at hb
    by_cases hs : rest.length < 4
    · have hs2 : sizeD c rest = (0, 4, rest) := by unfold sizeD; rw [if_neg h1, if_neg (by omega), if_neg (by omega), if_pos h5, num, if_pos hs]; rfl
      unfold opR
      rw [hs2, hw, if_pos hs]
      unfold rawR
      dsimp only
      rw [if_pos (by decide)]
    · have hs2 : sizeD c rest = (min (val (rest.take 4)) 2147483647, 0, rest.drop 4) := by unfold sizeD; rw [if_neg h1, if_neg (by omega), if_neg (by omega), if_pos h5, num, if_neg hs]
      unfold opR
      rw [hs2, hm, hw, if_neg hs]
      unfold rawR
      dsimp only
      rw [if_neg (by decide)]
      have hd : (rest.drop 4).length ≤ 60000000 := by rw [List.length_drop]; omega
      by_cases hv : val (rest.take 4) ≤ 2147483647
      · rw [Int.min_eq_left hv]
      · rw [Int.min_eq_right (by omega), if_pos (by omega), if_pos (by omega)]
  · have hs : sizeD c rest = if rest.length < wideOf c then (0, 4, rest) else (val (rest.take (wideOf c)), 0, rest.drop (wideOf c)) := by
      unfold sizeD
      rw [if_neg h1]
      by_cases h3 : c.toNat = 76
      · have hw : wideOf c = 1 := by unfold wideOf; rw [if_pos h3]
        rw [if_pos h3, hw, num]
      · rw [if_neg h3]
        by_cases h4 : c.toNat = 77
        · have hw : wideOf c = 2 := by unfold wideOf; rw [if_neg h3, if_pos h4]
          rw [if_pos h4, hw, num]
        · have hw : wideOf c = 0 := by unfold wideOf; rw [if_neg h3, if_neg h4, if_neg h5]
          rw [if_neg h4, if_neg h5, hw, if_neg (by omega)]
          rfl
    unfold opR
    rw [hs, hm]
    by_cases hq : rest.length < wideOf c
    · rw [if_pos hq, if_pos hq]
      unfold rawR
      dsimp only
      rw [if_pos (by decide)]
    · rw [if_neg hq, if_neg hq]
      unfold rawR
      dsimp only
      rw [if_neg (by decide)]

/-- The slice value v holds these operations in blocks of its own from base on, each one's bytes in a block apart. -/
def ROpsAt (w : World) (base : Nat) (v : Value) (L : List Piece) : Prop :=
  w.ownsRow base 38 2 v L.length (cellsOf L) ∧ (∀ p ∈ L, OwnB w base p.at_ p.data) ∧ L.Pairwise (fun p q => ∀ g, p.at_.ownBlock = some g → q.at_.ownBlock ≠ some g)

theorem ROpsAt.base {w : World} {b b' : Nat} {v : Value} {L : List Piece} (h : ROpsAt w b v L) (hb : b' ≤ b) : ROpsAt w b' v L :=
  ⟨own_base h.1 hb, fun p hp => own_base (h.2.1 p hp) hb, h.2.2⟩
theorem ROpsAt.nil (w : World) (base : Nat) : ROpsAt w base (.slice none 0 0) [] := ⟨World.ownsRow_nil _ _ _ _, (fun _ h => by cases h), List.Pairwise.nil⟩
theorem ROpsAt.form {w : World} {base : Nat} {v : Value} {L : List Piece} (h : ROpsAt w base v L) : ∃ A c, v = .slice A L.length c := own_form h.1
theorem ROpsAt.turns {S : Nat → Prop} {w w' : World} {base : Nat} {v : Value} {L : List Piece} (h : ROpsAt w base v L) (ht : Turns S w w') (hv : ∀ k, v.ownBlock = some k → ¬ S k) (hL : ∀ p ∈ L, ∀ k, p.at_.ownBlock = some k → ¬ S k) : ROpsAt w' base v L :=
  ⟨own_turns h.1 ht hv, fun p hp => own_turns (h.2.1 p hp) ht (hL p hp), h.2.2⟩
theorem ROpsAt.turns_low {S : Nat → Prop} {w w' : World} {base : Nat} {v : Value} {L : List Piece} (h : ROpsAt w base v L) (ht : Turns S w w') (hS : ∀ k, base ≤ k → ¬ S k) : ROpsAt w' base v L :=
  h.turns ht (fun k hk => hS k (h.1.lt k hk).1) (fun p hp k hk => hS k (World.ownsRow.lt (h.2.1 p hp) k hk).1)
theorem ROpsAt.below {w w' : World} {base : Nat} {v : Value} {L : List Piece} (h : ROpsAt w base v L) (hb : Below w.heap.size w w') : ROpsAt w' base v L :=
  h.turns (Turns.of_below (S := fun _ => False) hb) (fun _ _ h => h) (fun _ _ _ _ h => h)
theorem ROpsAt.alloc {w : World} {base : Nat} {v : Value} {L : List Piece} (h : ROpsAt w base v L) (o : Obj) : ROpsAt (w.alloc o) base v L := h.below ((Below.refl _ _).alloc (Nat.le_refl _) o)
/-- One more: the list's row has grown; its bytes lie apart from all that was there. -/
theorem ROpsAt.snoc {w w' : World} {base n : Nat} {v v' : Value} {L : List Piece} {p : Piece} (h : ROpsAt w base v L) (hd : OwnB w base p.at_ p.data) (hn : ∀ q ∈ L, ∀ g, q.at_.ownBlock = some g → p.at_.ownBlock ≠ some g)
    (hown : w'.ownsRow base 38 2 v' n (cellsOf L ++ [bv p.code, p.at_])) (he : n = L.length + 1) (hg : w.grownBy w' v.ownBlock) : ROpsAt w' base v' (L ++ [p]) := by
  have ht : Turns (fun k => v.ownBlock = some k) w w' := (Turns.refl _ w).grown hg (fun k hk _ => hk)
  subst he
  refine ⟨by rw [cellsOf_snoc, List.length_append]; exact hown, fun q hq => ?_, ?_⟩
  · rcases List.mem_append.1 hq with hq | hq
    · exact own_turns (h.2.1 q hq) ht (fun k hk hv => own_types h.1 (h.2.1 q hq) (by decide) hv hk)
    · obtain rfl : q = p := by simpa using hq
      exact own_turns hd ht (fun k hk hv => own_types h.1 hd (by decide) hv hk)
  · rw [List.pairwise_append]
    refine ⟨h.2.2, by simp, fun a ha b hb => ?_⟩
    obtain rfl : b = p := by simpa using hb
    exact hn a ha

theorem info_rop : (Try.prog.info? 38).map (fun i => (i.zero, i.size, i.bytes)) = some (some (.agg #[.int .u8 0, .slice none 0 0]), 2, 32) := by kernel_rfl
theorem slice_rop : Try.prog.underlying 31 = some (.slice 38) := Try.underlying31

/-- append of one operation. -/
theorem wpList_append_rop {w : World} {ops : Array Oper} {rest : List Oper} {o : Oper} {a : Act} {Q : Exit → Act → World → Prop} (hgd : o.guard = none) (s x : Operand)
    (ho : o.op = .call { callee := .builtin .append, args := #[s, x], argTypes := #[31, 31] })
    (base : Nat) (v : Value) (n : Nat) (xs : List Value) (hs : a.eval s = v) (hown : w.ownsRow base 38 2 v n xs)
    (g : Nat) (u0 u1 : Value) (hx : a.eval x = .slice (some ⟨g, 0, none⟩) 1 1) (h0 : w.cell? ⟨g, 0, none⟩ = some u0) (h1 : w.cell? ⟨g, 1, none⟩ = some u1) (k0 : u0.oneCell' = true) (k1 : u1.oneCell' = true)
    (hb : (n + 1) * 32 ≤ 140737488355328) (hbase : base ≤ w.heap.size)
    (h : ∀ v' w', w'.ownsRow base 38 2 v' (n + 1) (xs ++ [u0, u1]) → w.grownBy w' v.ownBlock → wpList Try.prog ops Q rest (a.put o.dst v') w') :
    wpList Try.prog ops Q (o :: rest) a w := by
  obtain ⟨i, hi, hz, hsz, hby⟩ := info_parts info_rop
  refine wpList_plain hgd fun K hK => ?_
  obtain ⟨v', w', hrun, h2, h3, _, _⟩ := run_append_own_at (P := Try.prog) w base 31 o.type 38 i _ 2 32 slice_rop hi hz hsz hby rfl (by decide) v n xs hown ⟨g, 0, none⟩ 1 1 [u0, u1] rfl
    (by
      intro j u hu
      match j, hu with
      | 0, hu => exact Option.some.inj hu ▸ h0
      | 1, hu => exact Option.some.inj hu ▸ h1)
    (by intro u hu; simp at hu; rcases hu with rfl | rfl; exact k0; exact k1) (by unfold maxLen; omega) hb hbase
  unfold Oper.wp execOp
  simp only [ho, resolve, invoke, builtin, Sem.run_bind, Sem.run_pure, Result.andThen_ok, List.map_toArray, List.map_cons, List.map_nil, hs, hx, hrun]
  exact hK _ _ (h v' w' h2 h3)
theorem OpsR.of_rat {w : World} {base : Nat} {v : Value} {L : List Piece} (h : ROpsAt w base v L) : OpsR w w.heap.size v L := by
  rcases h.1.2 with ⟨rfl, hn⟩ | ⟨g, cap, cur, rfl, hb, hg, hnc, hcm, hcs, ht⟩
  · obtain rfl : L = [] := List.eq_nil_of_length_eq_zero hn
    exact OpsR.nil _ _
  · refine ⟨some ⟨g, 0, none⟩, cap, rfl, hnc, hcm, fun hne => ⟨g, 0, rfl, (h.1.lt g rfl).2, fun i p hp => ?_⟩⟩
    have hi := (List.getElem?_eq_some_iff.1 hp).1
    obtain ⟨c0, c1⟩ := cellsOf_at hp
    have hr := h.1
    refine ⟨?_, ?_, OwnB.form (h.2.1 p (List.mem_of_getElem? hp))⟩
    · rw [Nat.zero_add]; exact (World.ownsRow.cellAt hr (i * 2) (by omega)).trans c0
    · rw [Nat.zero_add]; exact (World.ownsRow.cellAt hr (i * 2 + 1) (by omega)).trans c1


/-- What the reference's Parse answers. -/
def RParsed (w : World) (xs : List UInt8) (e : Ending) (w' : World) : Prop :=
  match parseP xs with
  | none => e = .returned (.tuple #[.slice none 0 0, .bool false]) ∧ Below w.heap.size w w'
  | some ops => ∃ A c L, e = .returned (.tuple #[.slice A ops.length c, .bool true]) ∧ L.map Piece.pair = ops ∧ ROpsAt w' w.heap.size (.slice A ops.length c) L ∧ Below w.heap.size w w'
theorem rparsed_none {w w' : World} {xs : List UInt8} (h : parseP xs = none) (hb : Below w.heap.size w w') : RParsed w xs (.returned (.tuple #[.slice none 0 0, .bool false])) w' := by unfold RParsed; rw [h]; exact ⟨rfl, hb⟩
theorem rparsed_some {w w' : World} {xs : List UInt8} {v : Value} {L : List Piece} (h : parseP xs = some (L.map Piece.pair)) (ho : ROpsAt w' w.heap.size v L) (hb : Below w.heap.size w w') : RParsed w xs (.returned (.tuple #[v, .bool true])) w' := by
  unfold RParsed
  rw [h]
  obtain ⟨A, c, rfl⟩ := ho.form
  exact ⟨A, c, L, by rw [List.length_map], rfl, by rw [List.length_map]; exact ho, hb⟩

/-- What the loop keeps: the operations so far; p bytes are behind. -/
structure RWalk (w : World) (xs : List UInt8) (v : Value) (L : List Piece) (p : Nat) (wr : World) : Prop where
  ops : ROpsAt wr w.heap.size v L
  eq : parseP xs = (parseP (xs.drop p)).map (L.map Piece.pair ++ ·)
  bel : Below w.heap.size w wr
  len : L.length ≤ p
theorem RWalk.bad {w wr : World} {xs rest : List UInt8} {v : Value} {L : List Piece} {p : Nat} {c : UInt8} (h : RWalk w xs v L p wr) (hd : xs.drop p = c :: rest) (he : (opR c rest).2.1 = 4) : parseP xs = none := by
  rw [h.eq, hd, parseP_bad (by rw [he]; decide)]
  rfl
theorem RWalk.good {w wr w' : World} {xs rest ds : List UInt8} {v v' : Value} {L : List Piece} {p q : Nat} {c : UInt8} {u : Value} (h : RWalk w xs v L p wr) (hd : xs.drop p = c :: rest) (he : opR c rest = (ds, 0, xs.drop q))
    (ho : ROpsAt w' w.heap.size v' (L ++ [⟨c, u, ds⟩])) (hb : Below w.heap.size w w') (hq : p < q) : RWalk w xs v' (L ++ [⟨c, u, ds⟩]) q w' := by
  refine ⟨ho, ?_, hb, by have := h.len; rw [List.length_append, List.length_cons, List.length_nil]; omega⟩
  rw [h.eq, hd, parseP_ok (by rw [he]), he, Option.map_map]
  congr 1
  funext t
  simp [Piece.pair]

set_option maxRecDepth 100000 in
set_option maxHeartbeats 6400000 in
theorem rparse_any (B : Nat) (x : Value) (xs : List UInt8) (w : World) (hx : Byt w B x xs) (hB : B ≤ w.heap.size) (hl : xs.length ≤ 60000000) :
    Calls Try.prog 13 #[x] w (RParsed w xs) := by
  obtain ⟨A, cp, rfl⟩ := hx.form
  have hcap := hx.cap
  have HX := Lib.hid hx
  clear hx
  go_enter Try.func13, Try.ntmps13
  go_wp2_with fail
  go_loopg [4, 5] xs.length (fun k s t wr => ∃ (v : Value) (L : List Piece) (p : Nat), v = s ∧ xs.length - p ≤ k ∧ t = .int .i64 (p : Int) ∧ p ≤ xs.length ∧ Hid (RWalk w xs v L p wr))
  case atStart => exact ⟨_, [], 0, rfl, by omega, rfl, by omega, Lib.hid ⟨ROpsAt.nil _ _, by simp, Below.refl _ _, by simp⟩⟩
  case round =>
  obtain ⟨v, L, p, hv, hk, rfl, hpl, hp⟩ := hrel
  subst hv
  by_cases hlt : p < xs.length
  case neg =>
    have d0 : decide ((p : Int) < (xs.length : Int)) = false := decide_eq_false (by omega)
    have d0' : decide (p < xs.length) = false := decide_eq_false (by omega)
    go_wp2_with fail
    go_ret2
    refine rparsed_some ?_ hp.out.ops hp.out.bel
    rw [hp.out.eq, List.drop_eq_nil_of_le (by omega), parseP_nil]
    simp
  obtain ⟨A', c', e0, _, _, _, h4⟩ := HX.out
  obtain ⟨e1, e2, e3⟩ := Value.slice.inj e0
  subst e1 e3
  clear e2 e0
  obtain ⟨b, o, hA, hb, hc⟩ := h4 (by rintro rfl; simp at hlt)
  have hdrop : xs.drop p = xs[p] :: xs.drop (p + 1) := List.drop_eq_getElem_cons hlt
  have hcell : w.cell? ⟨b, o + p, none⟩ = some (bv xs[p]) := hc p _ (List.getElem?_eq_getElem hlt)
  obtain ⟨c, hcc⟩ : ∃ c, c = xs[p] := ⟨_, rfl⟩
  rw [← hcc] at hdrop hcell
  have hcr : wr.cell? ⟨b, o + p, none⟩ = some (.int .u8 (c.toNat : Int)) := (hp.out.bel.cell (p := ⟨b, _, none⟩) (by show b < _; omega)).trans hcell
  have HD := Lib.hid hdrop
  have hc256 := c.toNat_lt
  have d0 : decide (p < xs.length) = true := decide_eq_true hlt
  subst hA
  clear h4 hc hcell hcc hdrop
  by_cases h1 : c.toNat < 76
  · -- a number of its own
    have hwd : wideOf c = 0 := by unfold wideOf; rw [if_neg (by omega), if_neg (by omega), if_neg (by omega)]
    have f1 : decide ((c.toNat : Int) ≤ 75) = true := decide_eq_true (by omega)

    have hw : ¬ (xs.drop (p + 1)).length < 0 := by omega
    have hw2 : p + 1 ≤ xs.length := by omega
    have dw : decide ((xs.length : Int) - ((p : Int) + 1) < 0) = false := decide_eq_false (by omega)
    have hnb := manyOf_bd c (xs.drop (p + 1))
    obtain ⟨n, hn⟩ : ∃ n, n = manyOf c (xs.drop (p + 1)) := ⟨_, rfl⟩
    rw [← hn] at hnb
    by_cases hsh : (xs.length : Int) - ((p : Int) + 1) < n
    · have herr : (opR c (xs.drop (p + 1))).2.1 = 4 := by rw [opR_eq _ _ (by rw [List.length_drop]; omega), hwd, if_neg hw, if_pos (by rw [← hn, List.length_drop, List.length_drop]; omega)]
      have hbad := Lib.hid (hp.out.bad HD.out herr)
      have dn : decide ((xs.length : Int) - ((p : Int) + 1) < n) = true := decide_eq_true hsh
      have hnc : n = (c.toNat : Int) := by rw [hn]; unfold manyOf; rw [if_pos h1]
      subst hnc
      clear herr
      go_wp2_with fail
      go_ret2
      exact rparsed_none hbad.out hp.out.bel
    · have dn : decide ((xs.length : Int) - ((p : Int) + 1) < n) = false := decide_eq_false hsh
      obtain ⟨N, hN⟩ : ∃ N : Nat, n = (N : Int) := ⟨n.toNat, by omega⟩
      have hop : opR c (xs.drop (p + 1)) = ((xs.drop (p + 1)).take N, 0, xs.drop (p + 1 + N)) := by
        rw [opR_eq _ _ (by rw [List.length_drop]; omega), hwd, if_neg hw, if_neg (by rw [← hn, List.length_drop, List.length_drop]; omega), ← hn, hN, Int.toNat_natCast]
        rw [List.drop_drop, List.drop_drop]
        try rfl
      have HOP := Lib.hid hop
      clear hop
      have hnc : n = (c.toNat : Int) := by rw [hn]; unfold manyOf; rw [if_pos h1]
      subst hnc
      have hN2 : p + 1 + N ≤ xs.length := by omega
      have hsl2 : ∀ W, (Instr.slice 22 (.slice (some (⟨b, o, none⟩ : Addr)) xs.length cp) (some (.int .i64 ((p : Int) + 1))) (some (.int .i64 ((p : Int) + 1 + (c.toNat : Int)))) none).run Try.prog W = .ok (.slice (if cp = p + 1 then (some (⟨b, o, none⟩ : Addr)) else (some (⟨b, o, none⟩ : Addr)).map (fun x => x.add (p + 1))) (p + 1 + N - (p + 1)) (cp - (p + 1))) W := fun W => run_part (some (⟨b, o, none⟩ : Addr)) xs.length cp (p + 1) (p + 1 + N) _ _ (by omega) (by omega) (by omega) (by omega) W
      have hds := Byt.sub HX.out (lo := p + 1) (hi := p + 1 + N) (by omega) (by omega)
      obtain ⟨Z2, hZ2⟩ : ∃ Z, Z = (if cp = p + 1 then (some (⟨b, o, none⟩ : Addr)) else (some (⟨b, o, none⟩ : Addr)).map (fun x => x.add (p + 1))) := ⟨_, rfl⟩
      obtain ⟨cz2, hcz2⟩ : ∃ cz, cz = cp - (p + 1) := ⟨_, rfl⟩
      rw [← hZ2, ← hcz2] at hds
      rw [show p + 1 + N - (p + 1) = N by omega] at hds hsl2
      simp only [← hZ2, ← hcz2] at hsl2
      obtain ⟨ds, hdd⟩ : ∃ ds, ds = (xs.drop (p + 1)).take N := ⟨_, rfl⟩
      have hdl : ds.length = N := by rw [hdd, List.length_take, List.length_drop]; omega
      rw [← hdd] at hds HOP
      have HC := Lib.hid (fun W (hb : Below B w W) => rcopy_any B _ ds W (hds.below hb) (by omega))
      have HNN := Lib.hid hN
      clear hds hZ2 hcz2 hdd hn hN
      have hll : (L.length + 1) * 32 ≤ 140737488355328 := by have := hp.out.len; omega
      go_wp2_with fail
      refine (HC.out _ ((hp.out.bel).mono hB)).mono ?_
      intro e w2 hfr
      obtain ⟨u2, rfl, hown2, hb2⟩ := fresh_v hfr
      obtain ⟨A2, c2, rfl⟩ := hown2.form
      have hsz := hp.out.bel.size
      have hn2 : ∀ q ∈ L, ∀ g, q.at_.ownBlock = some g → (Value.slice A2 ds.length c2).ownBlock ≠ some g := fun q hq g hg he => by
        have h1 := (World.ownsRow.lt (hp.out.ops.2.1 q hq) g hg).2
        have h2 := (World.ownsRow.lt hown2 g he).1
        omega
      obtain ⟨W3, hW3⟩ : ∃ W3, W3 = w2.alloc (.cells #[.int .u8 (c.toNat : Int), .slice A2 ds.length c2] 38) := ⟨_, rfl⟩
      have k0 : W3.cell? ⟨w2.heap.size, 0, none⟩ = some (.int .u8 (c.toNat : Int)) := by rw [hW3]; exact cell_of_row _ _ 0 _ _ _ (heap_alloc_new w2 _)
      have k1 : W3.cell? ⟨w2.heap.size, 1, none⟩ = some (.slice A2 ds.length c2) := by rw [hW3]; exact cell_of_row _ _ 1 _ _ _ (heap_alloc_new w2 _)
      have ops3 : ROpsAt W3 w.heap.size v L := by rw [hW3]; exact (hp.out.ops.below hb2).alloc _
      have own3 : OwnB W3 w.heap.size (.slice A2 ds.length c2) ds := by rw [hW3]; exact World.ownsRow.alloc (own_base hown2 hsz) _
      have bel3 : Below w.heap.size w W3 := by
        rw [hW3]
        have := hp.out.bel.trans (hb2.mono hsz)
        exact this.alloc this.size _
      have OPS := Lib.hid ops3
      have OWN := Lib.hid own3
      have BEL := Lib.hid bel3
      have HNE := Lib.hid hn2
      clear ops3 own3 bel3 hn2 hown2 hfr hb2 hsz
      rw [hdl] at OWN HNE k1 hW3 ⊢
      go_wp2_with (at_builtin; rw [← hW3]; refine wpList_append_rop rfl (.tmp 58) (.tmp 68) rfl w.heap.size _ L.length (cellsOf L) rfl OPS.out.1 w2.heap.size (.int .u8 (c.toNat : Int)) (.slice A2 N c2) rfl k0 k1 rfl rfl hll BEL.out.size ?_; intro v5 w5 hown5 hg5)
      clear k0 k1 hW3
      have hT5 : Turns (fun k => v.ownBlock = some k) W3 w5 := (Turns.refl _ W3).grown hg5 (fun k hk _ => hk)
      have ops5 := OPS.out.snoc (p := ⟨c, .slice A2 N c2, ds⟩) OWN.out HNE.out hown5 rfl hg5
      have bel5 : Below w.heap.size w w5 := BEL.out.trans (hT5.below_of BEL.out.size (fun i hi e => by have := (OPS.out.1.lt i e).1; omega))
      go_roundg (xs.length - (p + 1 + N))
      case measure => omega
      case rel => exact ⟨_, L ++ [⟨c, .slice A2 N c2, ds⟩], p + 1 + N, rfl, by omega, by first | rfl | (congr 1; have := HNN.out; omega), by omega, Lib.hid (hp.out.good HD.out HOP.out ops5 bel5 (by omega))⟩

  by_cases h2 : c.toNat = 76
  · -- one byte says it
    have hwd : wideOf c = 1 := by unfold wideOf; rw [if_pos h2]
    have f1 : decide ((c.toNat : Int) ≤ 75) = false := decide_eq_false (by omega)
    have f2 : ((c.toNat : Int) == 76) = true := by simp only [beq_iff_eq]; omega

    by_cases hw : (xs.drop (p + 1)).length < 1
    · have herr : (opR c (xs.drop (p + 1))).2.1 = 4 := by rw [opR_eq _ _ (by rw [List.length_drop]; omega), hwd, if_pos hw]
      have hbad := Lib.hid (hp.out.bad HD.out herr)
      have dw : decide ((xs.length : Int) - ((p : Int) + 1) < 1) = true := decide_eq_true (by rw [List.length_drop] at hw; omega)
      clear herr
      go_wp2_with fail
      go_ret2
      exact rparsed_none hbad.out hp.out.bel
    have hw2 : p + 1 + 1 ≤ xs.length := by rw [List.length_drop] at hw; omega
    have dw : decide ((xs.length : Int) - ((p : Int) + 1) < 1) = false := decide_eq_false (by omega)
    have hnb := manyOf_bd c (xs.drop (p + 1))
    obtain ⟨n, hn⟩ : ∃ n, n = manyOf c (xs.drop (p + 1)) := ⟨_, rfl⟩
    rw [← hn] at hnb
    by_cases hsh : (xs.length : Int) - ((p : Int) + 1 + 1) < n
    · have herr : (opR c (xs.drop (p + 1))).2.1 = 4 := by rw [opR_eq _ _ (by rw [List.length_drop]; omega), hwd, if_neg hw, if_pos (by rw [← hn, List.length_drop, List.length_drop]; omega)]
      have hbad := Lib.hid (hp.out.bad HD.out herr)
      have dn : decide ((xs.length : Int) - ((p : Int) + 1 + 1) < n) = true := decide_eq_true hsh
      have hsl : ∀ W, (Instr.slice 22 (.slice (some (⟨b, o, none⟩ : Addr)) xs.length cp) (some (.int .i64 ((p : Int) + 1))) (some (.int .i64 ((p : Int) + 1 + 1))) none).run Try.prog W = .ok (.slice (if cp = p + 1 then (some (⟨b, o, none⟩ : Addr)) else (some (⟨b, o, none⟩ : Addr)).map (fun x => x.add (p + 1))) (p + 1 + 1 - (p + 1)) (cp - (p + 1))) W := fun W => run_part (some (⟨b, o, none⟩ : Addr)) xs.length cp (p + 1) (p + 1 + 1) _ _ (by omega) (by omega) (by omega) (by omega) W
      have hys := Byt.sub HX.out (lo := p + 1) (hi := p + 1 + 1) (by omega) (by omega)
      have hyl : ((xs.drop (p + 1)).take (p + 1 + 1 - (p + 1))).length = 1 := by rw [List.length_take, List.length_drop]; omega
      obtain ⟨Z, hZ⟩ : ∃ Z, Z = (if cp = p + 1 then (some (⟨b, o, none⟩ : Addr)) else (some (⟨b, o, none⟩ : Addr)).map (fun x => x.add (p + 1))) := ⟨_, rfl⟩
      obtain ⟨cz, hcz⟩ : ∃ cz, cz = cp - (p + 1) := ⟨_, rfl⟩
      rw [← hZ, ← hcz] at hys
      have hmv : val ((xs.drop (p + 1)).take (p + 1 + 1 - (p + 1))) = manyOf c (xs.drop (p + 1)) := by
        unfold manyOf
        rw [if_neg (by omega), hwd]
        congr 2
        omega
      have HV := Lib.hid (fun W (hb : Below B w W) => fval_any B _ _ W (hys.below hb) (by rw [hyl]; decide))
      rw [hmv, ← hn] at HV
      rw [show p + 1 + 1 - (p + 1) = 1 by omega] at HV hsl
      simp only [← hZ, ← hcz] at hsl
      clear hys hyl hmv hZ hcz
      clear h2
      clear herr
      go_wp2_with fail
      refine (HV.out _ ((hp.out.bel).mono hB)).mono ?_
      rintro e w1 ⟨rfl, rfl⟩
      go_wp2_with fail
      go_ret2
      exact rparsed_none hbad.out hp.out.bel
    · have dn : decide ((xs.length : Int) - ((p : Int) + 1 + 1) < n) = false := decide_eq_false hsh
      obtain ⟨N, hN⟩ : ∃ N : Nat, n = (N : Int) := ⟨n.toNat, by omega⟩
      have hop : opR c (xs.drop (p + 1)) = ((xs.drop (p + 1 + 1)).take N, 0, xs.drop (p + 1 + 1 + N)) := by
        rw [opR_eq _ _ (by rw [List.length_drop]; omega), hwd, if_neg hw, if_neg (by rw [← hn, List.length_drop, List.length_drop]; omega), ← hn, hN, Int.toNat_natCast]
        rw [List.drop_drop, List.drop_drop]
        try rfl
      have HOP := Lib.hid hop
      clear hop
      have hsl : ∀ W, (Instr.slice 22 (.slice (some (⟨b, o, none⟩ : Addr)) xs.length cp) (some (.int .i64 ((p : Int) + 1))) (some (.int .i64 ((p : Int) + 1 + 1))) none).run Try.prog W = .ok (.slice (if cp = p + 1 then (some (⟨b, o, none⟩ : Addr)) else (some (⟨b, o, none⟩ : Addr)).map (fun x => x.add (p + 1))) (p + 1 + 1 - (p + 1)) (cp - (p + 1))) W := fun W => run_part (some (⟨b, o, none⟩ : Addr)) xs.length cp (p + 1) (p + 1 + 1) _ _ (by omega) (by omega) (by omega) (by omega) W
      have hys := Byt.sub HX.out (lo := p + 1) (hi := p + 1 + 1) (by omega) (by omega)
      have hyl : ((xs.drop (p + 1)).take (p + 1 + 1 - (p + 1))).length = 1 := by rw [List.length_take, List.length_drop]; omega
      obtain ⟨Z, hZ⟩ : ∃ Z, Z = (if cp = p + 1 then (some (⟨b, o, none⟩ : Addr)) else (some (⟨b, o, none⟩ : Addr)).map (fun x => x.add (p + 1))) := ⟨_, rfl⟩
      obtain ⟨cz, hcz⟩ : ∃ cz, cz = cp - (p + 1) := ⟨_, rfl⟩
      rw [← hZ, ← hcz] at hys
      have hmv : val ((xs.drop (p + 1)).take (p + 1 + 1 - (p + 1))) = manyOf c (xs.drop (p + 1)) := by
        unfold manyOf
        rw [if_neg (by omega), hwd]
        congr 2
        omega
      have HV := Lib.hid (fun W (hb : Below B w W) => fval_any B _ _ W (hys.below hb) (by rw [hyl]; decide))
      rw [hmv, ← hn] at HV
      rw [show p + 1 + 1 - (p + 1) = 1 by omega] at HV hsl
      simp only [← hZ, ← hcz] at hsl
      clear hys hyl hmv hZ hcz
      clear h2
      have hN2 : p + 1 + 1 + N ≤ xs.length := by omega
      have hsl2 : ∀ W, (Instr.slice 22 (.slice (some (⟨b, o, none⟩ : Addr)) xs.length cp) (some (.int .i64 ((p : Int) + 1 + 1))) (some (.int .i64 ((p : Int) + 1 + 1 + n))) none).run Try.prog W = .ok (.slice (if cp = p + 1 + 1 then (some (⟨b, o, none⟩ : Addr)) else (some (⟨b, o, none⟩ : Addr)).map (fun x => x.add (p + 1 + 1))) (p + 1 + 1 + N - (p + 1 + 1)) (cp - (p + 1 + 1))) W := fun W => run_part (some (⟨b, o, none⟩ : Addr)) xs.length cp (p + 1 + 1) (p + 1 + 1 + N) _ _ (by omega) (by omega) (by omega) (by omega) W
      have hds := Byt.sub HX.out (lo := p + 1 + 1) (hi := p + 1 + 1 + N) (by omega) (by omega)
      obtain ⟨Z2, hZ2⟩ : ∃ Z, Z = (if cp = p + 1 + 1 then (some (⟨b, o, none⟩ : Addr)) else (some (⟨b, o, none⟩ : Addr)).map (fun x => x.add (p + 1 + 1))) := ⟨_, rfl⟩
      obtain ⟨cz2, hcz2⟩ : ∃ cz, cz = cp - (p + 1 + 1) := ⟨_, rfl⟩
      rw [← hZ2, ← hcz2] at hds
      rw [show p + 1 + 1 + N - (p + 1 + 1) = N by omega] at hds hsl2
      simp only [← hZ2, ← hcz2] at hsl2
      obtain ⟨ds, hdd⟩ : ∃ ds, ds = (xs.drop (p + 1 + 1)).take N := ⟨_, rfl⟩
      have hdl : ds.length = N := by rw [hdd, List.length_take, List.length_drop]; omega
      rw [← hdd] at hds HOP
      have HC := Lib.hid (fun W (hb : Below B w W) => rcopy_any B _ ds W (hds.below hb) (by omega))
      have HNN := Lib.hid hN
      clear hds hZ2 hcz2 hdd hn hN
      have hll : (L.length + 1) * 32 ≤ 140737488355328 := by have := hp.out.len; omega
      go_wp2_with fail
      refine (HV.out _ ((hp.out.bel).mono hB)).mono ?_
      rintro e w1 ⟨rfl, rfl⟩
      go_wp2_with fail
      refine (HC.out _ ((hp.out.bel).mono hB)).mono ?_
      intro e w2 hfr
      obtain ⟨u2, rfl, hown2, hb2⟩ := fresh_v hfr
      obtain ⟨A2, c2, rfl⟩ := hown2.form
      have hsz := hp.out.bel.size
      have hn2 : ∀ q ∈ L, ∀ g, q.at_.ownBlock = some g → (Value.slice A2 ds.length c2).ownBlock ≠ some g := fun q hq g hg he => by
        have h1 := (World.ownsRow.lt (hp.out.ops.2.1 q hq) g hg).2
        have h2 := (World.ownsRow.lt hown2 g he).1
        omega
      obtain ⟨W3, hW3⟩ : ∃ W3, W3 = w2.alloc (.cells #[.int .u8 (c.toNat : Int), .slice A2 ds.length c2] 38) := ⟨_, rfl⟩
      have k0 : W3.cell? ⟨w2.heap.size, 0, none⟩ = some (.int .u8 (c.toNat : Int)) := by rw [hW3]; exact cell_of_row _ _ 0 _ _ _ (heap_alloc_new w2 _)
      have k1 : W3.cell? ⟨w2.heap.size, 1, none⟩ = some (.slice A2 ds.length c2) := by rw [hW3]; exact cell_of_row _ _ 1 _ _ _ (heap_alloc_new w2 _)
      have ops3 : ROpsAt W3 w.heap.size v L := by rw [hW3]; exact (hp.out.ops.below hb2).alloc _
      have own3 : OwnB W3 w.heap.size (.slice A2 ds.length c2) ds := by rw [hW3]; exact World.ownsRow.alloc (own_base hown2 hsz) _
      have bel3 : Below w.heap.size w W3 := by
        rw [hW3]
        have := hp.out.bel.trans (hb2.mono hsz)
        exact this.alloc this.size _
      have OPS := Lib.hid ops3
      have OWN := Lib.hid own3
      have BEL := Lib.hid bel3
      have HNE := Lib.hid hn2
      clear ops3 own3 bel3 hn2 hown2 hfr hb2 hsz
      rw [hdl] at OWN HNE k1 hW3 ⊢
      go_wp2_with (at_builtin; rw [← hW3]; refine wpList_append_rop rfl (.tmp 58) (.tmp 68) rfl w.heap.size _ L.length (cellsOf L) rfl OPS.out.1 w2.heap.size (.int .u8 (c.toNat : Int)) (.slice A2 N c2) rfl k0 k1 rfl rfl hll BEL.out.size ?_; intro v5 w5 hown5 hg5)
      clear k0 k1 hW3
      have hT5 : Turns (fun k => v.ownBlock = some k) W3 w5 := (Turns.refl _ W3).grown hg5 (fun k hk _ => hk)
      have ops5 := OPS.out.snoc (p := ⟨c, .slice A2 N c2, ds⟩) OWN.out HNE.out hown5 rfl hg5
      have bel5 : Below w.heap.size w w5 := BEL.out.trans (hT5.below_of BEL.out.size (fun i hi e => by have := (OPS.out.1.lt i e).1; omega))
      go_roundg (xs.length - (p + 1 + 1 + N))
      case measure => omega
      case rel => exact ⟨_, L ++ [⟨c, .slice A2 N c2, ds⟩], p + 1 + 1 + N, rfl, by omega, by first | rfl | (congr 1; have := HNN.out; omega), by omega, Lib.hid (hp.out.good HD.out HOP.out ops5 bel5 (by omega))⟩

  by_cases h3 : c.toNat = 77
  · -- two bytes say it
    have hwd : wideOf c = 2 := by unfold wideOf; rw [if_neg h2, if_pos h3]
    have f1 : decide ((c.toNat : Int) ≤ 75) = false := decide_eq_false (by omega)
    have f2 : ((c.toNat : Int) == 76) = false := by simp only [beq_eq_false_iff_ne, ne_eq]; omega
    have f3 : ((c.toNat : Int) == 77) = true := by simp only [beq_iff_eq]; omega

    by_cases hw : (xs.drop (p + 1)).length < 2
    · have herr : (opR c (xs.drop (p + 1))).2.1 = 4 := by rw [opR_eq _ _ (by rw [List.length_drop]; omega), hwd, if_pos hw]
      have hbad := Lib.hid (hp.out.bad HD.out herr)
      have dw : decide ((xs.length : Int) - ((p : Int) + 1) < 2) = true := decide_eq_true (by rw [List.length_drop] at hw; omega)
      clear herr
      go_wp2_with fail
      go_ret2
      exact rparsed_none hbad.out hp.out.bel
    have hw2 : p + 1 + 2 ≤ xs.length := by rw [List.length_drop] at hw; omega
    have dw : decide ((xs.length : Int) - ((p : Int) + 1) < 2) = false := decide_eq_false (by omega)
    have hnb := manyOf_bd c (xs.drop (p + 1))
    obtain ⟨n, hn⟩ : ∃ n, n = manyOf c (xs.drop (p + 1)) := ⟨_, rfl⟩
    rw [← hn] at hnb
    by_cases hsh : (xs.length : Int) - ((p : Int) + 1 + 2) < n
    · have herr : (opR c (xs.drop (p + 1))).2.1 = 4 := by rw [opR_eq _ _ (by rw [List.length_drop]; omega), hwd, if_neg hw, if_pos (by rw [← hn, List.length_drop, List.length_drop]; omega)]
      have hbad := Lib.hid (hp.out.bad HD.out herr)
      have dn : decide ((xs.length : Int) - ((p : Int) + 1 + 2) < n) = true := decide_eq_true hsh
      have hsl : ∀ W, (Instr.slice 22 (.slice (some (⟨b, o, none⟩ : Addr)) xs.length cp) (some (.int .i64 ((p : Int) + 1))) (some (.int .i64 ((p : Int) + 1 + 2))) none).run Try.prog W = .ok (.slice (if cp = p + 1 then (some (⟨b, o, none⟩ : Addr)) else (some (⟨b, o, none⟩ : Addr)).map (fun x => x.add (p + 1))) (p + 1 + 2 - (p + 1)) (cp - (p + 1))) W := fun W => run_part (some (⟨b, o, none⟩ : Addr)) xs.length cp (p + 1) (p + 1 + 2) _ _ (by omega) (by omega) (by omega) (by omega) W
      have hys := Byt.sub HX.out (lo := p + 1) (hi := p + 1 + 2) (by omega) (by omega)
      have hyl : ((xs.drop (p + 1)).take (p + 1 + 2 - (p + 1))).length = 2 := by rw [List.length_take, List.length_drop]; omega
      obtain ⟨Z, hZ⟩ : ∃ Z, Z = (if cp = p + 1 then (some (⟨b, o, none⟩ : Addr)) else (some (⟨b, o, none⟩ : Addr)).map (fun x => x.add (p + 1))) := ⟨_, rfl⟩
      obtain ⟨cz, hcz⟩ : ∃ cz, cz = cp - (p + 1) := ⟨_, rfl⟩
      rw [← hZ, ← hcz] at hys
      have hmv : val ((xs.drop (p + 1)).take (p + 1 + 2 - (p + 1))) = manyOf c (xs.drop (p + 1)) := by
        unfold manyOf
        rw [if_neg (by omega), hwd]
        congr 2
        omega
      have HV := Lib.hid (fun W (hb : Below B w W) => fval_any B _ _ W (hys.below hb) (by rw [hyl]; decide))
      rw [hmv, ← hn] at HV
      rw [show p + 1 + 2 - (p + 1) = 2 by omega] at HV hsl
      simp only [← hZ, ← hcz] at hsl
      clear hys hyl hmv hZ hcz
      clear h3
      clear herr
      go_wp2_with fail
      refine (HV.out _ ((hp.out.bel).mono hB)).mono ?_
      rintro e w1 ⟨rfl, rfl⟩
      go_wp2_with fail
      go_ret2
      exact rparsed_none hbad.out hp.out.bel
    · have dn : decide ((xs.length : Int) - ((p : Int) + 1 + 2) < n) = false := decide_eq_false hsh
      obtain ⟨N, hN⟩ : ∃ N : Nat, n = (N : Int) := ⟨n.toNat, by omega⟩
      have hop : opR c (xs.drop (p + 1)) = ((xs.drop (p + 1 + 2)).take N, 0, xs.drop (p + 1 + 2 + N)) := by
        rw [opR_eq _ _ (by rw [List.length_drop]; omega), hwd, if_neg hw, if_neg (by rw [← hn, List.length_drop, List.length_drop]; omega), ← hn, hN, Int.toNat_natCast]
        rw [List.drop_drop, List.drop_drop]
        try rfl
      have HOP := Lib.hid hop
      clear hop
      have hsl : ∀ W, (Instr.slice 22 (.slice (some (⟨b, o, none⟩ : Addr)) xs.length cp) (some (.int .i64 ((p : Int) + 1))) (some (.int .i64 ((p : Int) + 1 + 2))) none).run Try.prog W = .ok (.slice (if cp = p + 1 then (some (⟨b, o, none⟩ : Addr)) else (some (⟨b, o, none⟩ : Addr)).map (fun x => x.add (p + 1))) (p + 1 + 2 - (p + 1)) (cp - (p + 1))) W := fun W => run_part (some (⟨b, o, none⟩ : Addr)) xs.length cp (p + 1) (p + 1 + 2) _ _ (by omega) (by omega) (by omega) (by omega) W
      have hys := Byt.sub HX.out (lo := p + 1) (hi := p + 1 + 2) (by omega) (by omega)
      have hyl : ((xs.drop (p + 1)).take (p + 1 + 2 - (p + 1))).length = 2 := by rw [List.length_take, List.length_drop]; omega
      obtain ⟨Z, hZ⟩ : ∃ Z, Z = (if cp = p + 1 then (some (⟨b, o, none⟩ : Addr)) else (some (⟨b, o, none⟩ : Addr)).map (fun x => x.add (p + 1))) := ⟨_, rfl⟩
      obtain ⟨cz, hcz⟩ : ∃ cz, cz = cp - (p + 1) := ⟨_, rfl⟩
      rw [← hZ, ← hcz] at hys
      have hmv : val ((xs.drop (p + 1)).take (p + 1 + 2 - (p + 1))) = manyOf c (xs.drop (p + 1)) := by
        unfold manyOf
        rw [if_neg (by omega), hwd]
        congr 2
        omega
      have HV := Lib.hid (fun W (hb : Below B w W) => fval_any B _ _ W (hys.below hb) (by rw [hyl]; decide))
      rw [hmv, ← hn] at HV
      rw [show p + 1 + 2 - (p + 1) = 2 by omega] at HV hsl
      simp only [← hZ, ← hcz] at hsl
      clear hys hyl hmv hZ hcz
      clear h3
      have hN2 : p + 1 + 2 + N ≤ xs.length := by omega
      have hsl2 : ∀ W, (Instr.slice 22 (.slice (some (⟨b, o, none⟩ : Addr)) xs.length cp) (some (.int .i64 ((p : Int) + 1 + 2))) (some (.int .i64 ((p : Int) + 1 + 2 + n))) none).run Try.prog W = .ok (.slice (if cp = p + 1 + 2 then (some (⟨b, o, none⟩ : Addr)) else (some (⟨b, o, none⟩ : Addr)).map (fun x => x.add (p + 1 + 2))) (p + 1 + 2 + N - (p + 1 + 2)) (cp - (p + 1 + 2))) W := fun W => run_part (some (⟨b, o, none⟩ : Addr)) xs.length cp (p + 1 + 2) (p + 1 + 2 + N) _ _ (by omega) (by omega) (by omega) (by omega) W
      have hds := Byt.sub HX.out (lo := p + 1 + 2) (hi := p + 1 + 2 + N) (by omega) (by omega)
      obtain ⟨Z2, hZ2⟩ : ∃ Z, Z = (if cp = p + 1 + 2 then (some (⟨b, o, none⟩ : Addr)) else (some (⟨b, o, none⟩ : Addr)).map (fun x => x.add (p + 1 + 2))) := ⟨_, rfl⟩
      obtain ⟨cz2, hcz2⟩ : ∃ cz, cz = cp - (p + 1 + 2) := ⟨_, rfl⟩
      rw [← hZ2, ← hcz2] at hds
      rw [show p + 1 + 2 + N - (p + 1 + 2) = N by omega] at hds hsl2
      simp only [← hZ2, ← hcz2] at hsl2
      obtain ⟨ds, hdd⟩ : ∃ ds, ds = (xs.drop (p + 1 + 2)).take N := ⟨_, rfl⟩
      have hdl : ds.length = N := by rw [hdd, List.length_take, List.length_drop]; omega
      rw [← hdd] at hds HOP
      have HC := Lib.hid (fun W (hb : Below B w W) => rcopy_any B _ ds W (hds.below hb) (by omega))
      have HNN := Lib.hid hN
      clear hds hZ2 hcz2 hdd hn hN
      have hll : (L.length + 1) * 32 ≤ 140737488355328 := by have := hp.out.len; omega
      go_wp2_with fail
      refine (HV.out _ ((hp.out.bel).mono hB)).mono ?_
      rintro e w1 ⟨rfl, rfl⟩
      go_wp2_with fail
      refine (HC.out _ ((hp.out.bel).mono hB)).mono ?_
      intro e w2 hfr
      obtain ⟨u2, rfl, hown2, hb2⟩ := fresh_v hfr
      obtain ⟨A2, c2, rfl⟩ := hown2.form
      have hsz := hp.out.bel.size
      have hn2 : ∀ q ∈ L, ∀ g, q.at_.ownBlock = some g → (Value.slice A2 ds.length c2).ownBlock ≠ some g := fun q hq g hg he => by
        have h1 := (World.ownsRow.lt (hp.out.ops.2.1 q hq) g hg).2
        have h2 := (World.ownsRow.lt hown2 g he).1
        omega
      obtain ⟨W3, hW3⟩ : ∃ W3, W3 = w2.alloc (.cells #[.int .u8 (c.toNat : Int), .slice A2 ds.length c2] 38) := ⟨_, rfl⟩
      have k0 : W3.cell? ⟨w2.heap.size, 0, none⟩ = some (.int .u8 (c.toNat : Int)) := by rw [hW3]; exact cell_of_row _ _ 0 _ _ _ (heap_alloc_new w2 _)
      have k1 : W3.cell? ⟨w2.heap.size, 1, none⟩ = some (.slice A2 ds.length c2) := by rw [hW3]; exact cell_of_row _ _ 1 _ _ _ (heap_alloc_new w2 _)
      have ops3 : ROpsAt W3 w.heap.size v L := by rw [hW3]; exact (hp.out.ops.below hb2).alloc _
      have own3 : OwnB W3 w.heap.size (.slice A2 ds.length c2) ds := by rw [hW3]; exact World.ownsRow.alloc (own_base hown2 hsz) _
      have bel3 : Below w.heap.size w W3 := by
        rw [hW3]
        have := hp.out.bel.trans (hb2.mono hsz)
        exact this.alloc this.size _
      have OPS := Lib.hid ops3
      have OWN := Lib.hid own3
      have BEL := Lib.hid bel3
      have HNE := Lib.hid hn2
      clear ops3 own3 bel3 hn2 hown2 hfr hb2 hsz
      rw [hdl] at OWN HNE k1 hW3 ⊢
      go_wp2_with (at_builtin; rw [← hW3]; refine wpList_append_rop rfl (.tmp 58) (.tmp 68) rfl w.heap.size _ L.length (cellsOf L) rfl OPS.out.1 w2.heap.size (.int .u8 (c.toNat : Int)) (.slice A2 N c2) rfl k0 k1 rfl rfl hll BEL.out.size ?_; intro v5 w5 hown5 hg5)
      clear k0 k1 hW3
      have hT5 : Turns (fun k => v.ownBlock = some k) W3 w5 := (Turns.refl _ W3).grown hg5 (fun k hk _ => hk)
      have ops5 := OPS.out.snoc (p := ⟨c, .slice A2 N c2, ds⟩) OWN.out HNE.out hown5 rfl hg5
      have bel5 : Below w.heap.size w w5 := BEL.out.trans (hT5.below_of BEL.out.size (fun i hi e => by have := (OPS.out.1.lt i e).1; omega))
      go_roundg (xs.length - (p + 1 + 2 + N))
      case measure => omega
      case rel => exact ⟨_, L ++ [⟨c, .slice A2 N c2, ds⟩], p + 1 + 2 + N, rfl, by omega, by first | rfl | (congr 1; have := HNN.out; omega), by omega, Lib.hid (hp.out.good HD.out HOP.out ops5 bel5 (by omega))⟩

  by_cases h4 : c.toNat = 78
  · -- four bytes say it
    have hwd : wideOf c = 4 := by unfold wideOf; rw [if_neg h2, if_neg h3, if_pos h4]
    have f1 : decide ((c.toNat : Int) ≤ 75) = false := decide_eq_false (by omega)
    have f2 : ((c.toNat : Int) == 76) = false := by simp only [beq_eq_false_iff_ne, ne_eq]; omega
    have f3 : ((c.toNat : Int) == 77) = false := by simp only [beq_eq_false_iff_ne, ne_eq]; omega
    have f4 : ((c.toNat : Int) == 78) = true := by simp only [beq_iff_eq]; omega

    by_cases hw : (xs.drop (p + 1)).length < 4
    · have herr : (opR c (xs.drop (p + 1))).2.1 = 4 := by rw [opR_eq _ _ (by rw [List.length_drop]; omega), hwd, if_pos hw]
      have hbad := Lib.hid (hp.out.bad HD.out herr)
      have dw : decide ((xs.length : Int) - ((p : Int) + 1) < 4) = true := decide_eq_true (by rw [List.length_drop] at hw; omega)
      clear herr
      go_wp2_with fail
      go_ret2
      exact rparsed_none hbad.out hp.out.bel
    have hw2 : p + 1 + 4 ≤ xs.length := by rw [List.length_drop] at hw; omega
    have dw : decide ((xs.length : Int) - ((p : Int) + 1) < 4) = false := decide_eq_false (by omega)
    have hnb := manyOf_bd c (xs.drop (p + 1))
    obtain ⟨n, hn⟩ : ∃ n, n = manyOf c (xs.drop (p + 1)) := ⟨_, rfl⟩
    rw [← hn] at hnb
    by_cases hsh : (xs.length : Int) - ((p : Int) + 1 + 4) < n
    · have herr : (opR c (xs.drop (p + 1))).2.1 = 4 := by rw [opR_eq _ _ (by rw [List.length_drop]; omega), hwd, if_neg hw, if_pos (by rw [← hn, List.length_drop, List.length_drop]; omega)]
      have hbad := Lib.hid (hp.out.bad HD.out herr)
      have dn : decide ((xs.length : Int) - ((p : Int) + 1 + 4) < n) = true := decide_eq_true hsh
      have hsl : ∀ W, (Instr.slice 22 (.slice (some (⟨b, o, none⟩ : Addr)) xs.length cp) (some (.int .i64 ((p : Int) + 1))) (some (.int .i64 ((p : Int) + 1 + 4))) none).run Try.prog W = .ok (.slice (if cp = p + 1 then (some (⟨b, o, none⟩ : Addr)) else (some (⟨b, o, none⟩ : Addr)).map (fun x => x.add (p + 1))) (p + 1 + 4 - (p + 1)) (cp - (p + 1))) W := fun W => run_part (some (⟨b, o, none⟩ : Addr)) xs.length cp (p + 1) (p + 1 + 4) _ _ (by omega) (by omega) (by omega) (by omega) W
      have hys := Byt.sub HX.out (lo := p + 1) (hi := p + 1 + 4) (by omega) (by omega)
      have hyl : ((xs.drop (p + 1)).take (p + 1 + 4 - (p + 1))).length = 4 := by rw [List.length_take, List.length_drop]; omega
      obtain ⟨Z, hZ⟩ : ∃ Z, Z = (if cp = p + 1 then (some (⟨b, o, none⟩ : Addr)) else (some (⟨b, o, none⟩ : Addr)).map (fun x => x.add (p + 1))) := ⟨_, rfl⟩
      obtain ⟨cz, hcz⟩ : ∃ cz, cz = cp - (p + 1) := ⟨_, rfl⟩
      rw [← hZ, ← hcz] at hys
      have hmv : val ((xs.drop (p + 1)).take (p + 1 + 4 - (p + 1))) = manyOf c (xs.drop (p + 1)) := by
        unfold manyOf
        rw [if_neg (by omega), hwd]
        congr 2
        omega
      have HV := Lib.hid (fun W (hb : Below B w W) => fval_any B _ _ W (hys.below hb) (by rw [hyl]; decide))
      rw [hmv, ← hn] at HV
      rw [show p + 1 + 4 - (p + 1) = 4 by omega] at HV hsl
      simp only [← hZ, ← hcz] at hsl
      clear hys hyl hmv hZ hcz
      clear h4
      clear herr
      go_wp2_with fail
      refine (HV.out _ ((hp.out.bel).mono hB)).mono ?_
      rintro e w1 ⟨rfl, rfl⟩
      go_wp2_with fail
      go_ret2
      exact rparsed_none hbad.out hp.out.bel
    · have dn : decide ((xs.length : Int) - ((p : Int) + 1 + 4) < n) = false := decide_eq_false hsh
      obtain ⟨N, hN⟩ : ∃ N : Nat, n = (N : Int) := ⟨n.toNat, by omega⟩
      have hop : opR c (xs.drop (p + 1)) = ((xs.drop (p + 1 + 4)).take N, 0, xs.drop (p + 1 + 4 + N)) := by
        rw [opR_eq _ _ (by rw [List.length_drop]; omega), hwd, if_neg hw, if_neg (by rw [← hn, List.length_drop, List.length_drop]; omega), ← hn, hN, Int.toNat_natCast]
        rw [List.drop_drop, List.drop_drop]
        try rfl
      have HOP := Lib.hid hop
      clear hop
      have hsl : ∀ W, (Instr.slice 22 (.slice (some (⟨b, o, none⟩ : Addr)) xs.length cp) (some (.int .i64 ((p : Int) + 1))) (some (.int .i64 ((p : Int) + 1 + 4))) none).run Try.prog W = .ok (.slice (if cp = p + 1 then (some (⟨b, o, none⟩ : Addr)) else (some (⟨b, o, none⟩ : Addr)).map (fun x => x.add (p + 1))) (p + 1 + 4 - (p + 1)) (cp - (p + 1))) W := fun W => run_part (some (⟨b, o, none⟩ : Addr)) xs.length cp (p + 1) (p + 1 + 4) _ _ (by omega) (by omega) (by omega) (by omega) W
      have hys := Byt.sub HX.out (lo := p + 1) (hi := p + 1 + 4) (by omega) (by omega)
      have hyl : ((xs.drop (p + 1)).take (p + 1 + 4 - (p + 1))).length = 4 := by rw [List.length_take, List.length_drop]; omega
      obtain ⟨Z, hZ⟩ : ∃ Z, Z = (if cp = p + 1 then (some (⟨b, o, none⟩ : Addr)) else (some (⟨b, o, none⟩ : Addr)).map (fun x => x.add (p + 1))) := ⟨_, rfl⟩
      obtain ⟨cz, hcz⟩ : ∃ cz, cz = cp - (p + 1) := ⟨_, rfl⟩
      rw [← hZ, ← hcz] at hys
      have hmv : val ((xs.drop (p + 1)).take (p + 1 + 4 - (p + 1))) = manyOf c (xs.drop (p + 1)) := by
        unfold manyOf
        rw [if_neg (by omega), hwd]
        congr 2
        omega
      have HV := Lib.hid (fun W (hb : Below B w W) => fval_any B _ _ W (hys.below hb) (by rw [hyl]; decide))
      rw [hmv, ← hn] at HV
      rw [show p + 1 + 4 - (p + 1) = 4 by omega] at HV hsl
      simp only [← hZ, ← hcz] at hsl
      clear hys hyl hmv hZ hcz
      clear h4
      have hN2 : p + 1 + 4 + N ≤ xs.length := by omega
      have hsl2 : ∀ W, (Instr.slice 22 (.slice (some (⟨b, o, none⟩ : Addr)) xs.length cp) (some (.int .i64 ((p : Int) + 1 + 4))) (some (.int .i64 ((p : Int) + 1 + 4 + n))) none).run Try.prog W = .ok (.slice (if cp = p + 1 + 4 then (some (⟨b, o, none⟩ : Addr)) else (some (⟨b, o, none⟩ : Addr)).map (fun x => x.add (p + 1 + 4))) (p + 1 + 4 + N - (p + 1 + 4)) (cp - (p + 1 + 4))) W := fun W => run_part (some (⟨b, o, none⟩ : Addr)) xs.length cp (p + 1 + 4) (p + 1 + 4 + N) _ _ (by omega) (by omega) (by omega) (by omega) W
      have hds := Byt.sub HX.out (lo := p + 1 + 4) (hi := p + 1 + 4 + N) (by omega) (by omega)
      obtain ⟨Z2, hZ2⟩ : ∃ Z, Z = (if cp = p + 1 + 4 then (some (⟨b, o, none⟩ : Addr)) else (some (⟨b, o, none⟩ : Addr)).map (fun x => x.add (p + 1 + 4))) := ⟨_, rfl⟩
      obtain ⟨cz2, hcz2⟩ : ∃ cz, cz = cp - (p + 1 + 4) := ⟨_, rfl⟩
      rw [← hZ2, ← hcz2] at hds
      rw [show p + 1 + 4 + N - (p + 1 + 4) = N by omega] at hds hsl2
      simp only [← hZ2, ← hcz2] at hsl2
      obtain ⟨ds, hdd⟩ : ∃ ds, ds = (xs.drop (p + 1 + 4)).take N := ⟨_, rfl⟩
      have hdl : ds.length = N := by rw [hdd, List.length_take, List.length_drop]; omega
      rw [← hdd] at hds HOP
      have HC := Lib.hid (fun W (hb : Below B w W) => rcopy_any B _ ds W (hds.below hb) (by omega))
      have HNN := Lib.hid hN
      clear hds hZ2 hcz2 hdd hn hN
      have hll : (L.length + 1) * 32 ≤ 140737488355328 := by have := hp.out.len; omega
      go_wp2_with fail
      refine (HV.out _ ((hp.out.bel).mono hB)).mono ?_
      rintro e w1 ⟨rfl, rfl⟩
      go_wp2_with fail
      refine (HC.out _ ((hp.out.bel).mono hB)).mono ?_
      intro e w2 hfr
      obtain ⟨u2, rfl, hown2, hb2⟩ := fresh_v hfr
      obtain ⟨A2, c2, rfl⟩ := hown2.form
      have hsz := hp.out.bel.size
      have hn2 : ∀ q ∈ L, ∀ g, q.at_.ownBlock = some g → (Value.slice A2 ds.length c2).ownBlock ≠ some g := fun q hq g hg he => by
        have h1 := (World.ownsRow.lt (hp.out.ops.2.1 q hq) g hg).2
        have h2 := (World.ownsRow.lt hown2 g he).1
        omega
      obtain ⟨W3, hW3⟩ : ∃ W3, W3 = w2.alloc (.cells #[.int .u8 (c.toNat : Int), .slice A2 ds.length c2] 38) := ⟨_, rfl⟩
      have k0 : W3.cell? ⟨w2.heap.size, 0, none⟩ = some (.int .u8 (c.toNat : Int)) := by rw [hW3]; exact cell_of_row _ _ 0 _ _ _ (heap_alloc_new w2 _)
      have k1 : W3.cell? ⟨w2.heap.size, 1, none⟩ = some (.slice A2 ds.length c2) := by rw [hW3]; exact cell_of_row _ _ 1 _ _ _ (heap_alloc_new w2 _)
      have ops3 : ROpsAt W3 w.heap.size v L := by rw [hW3]; exact (hp.out.ops.below hb2).alloc _
      have own3 : OwnB W3 w.heap.size (.slice A2 ds.length c2) ds := by rw [hW3]; exact World.ownsRow.alloc (own_base hown2 hsz) _
      have bel3 : Below w.heap.size w W3 := by
        rw [hW3]
        have := hp.out.bel.trans (hb2.mono hsz)
        exact this.alloc this.size _
      have OPS := Lib.hid ops3
      have OWN := Lib.hid own3
      have BEL := Lib.hid bel3
      have HNE := Lib.hid hn2
      clear ops3 own3 bel3 hn2 hown2 hfr hb2 hsz
      rw [hdl] at OWN HNE k1 hW3 ⊢
      go_wp2_with (at_builtin; rw [← hW3]; refine wpList_append_rop rfl (.tmp 58) (.tmp 68) rfl w.heap.size _ L.length (cellsOf L) rfl OPS.out.1 w2.heap.size (.int .u8 (c.toNat : Int)) (.slice A2 N c2) rfl k0 k1 rfl rfl hll BEL.out.size ?_; intro v5 w5 hown5 hg5)
      clear k0 k1 hW3
      have hT5 : Turns (fun k => v.ownBlock = some k) W3 w5 := (Turns.refl _ W3).grown hg5 (fun k hk _ => hk)
      have ops5 := OPS.out.snoc (p := ⟨c, .slice A2 N c2, ds⟩) OWN.out HNE.out hown5 rfl hg5
      have bel5 : Below w.heap.size w w5 := BEL.out.trans (hT5.below_of BEL.out.size (fun i hi e => by have := (OPS.out.1.lt i e).1; omega))
      go_roundg (xs.length - (p + 1 + 4 + N))
      case measure => omega
      case rel => exact ⟨_, L ++ [⟨c, .slice A2 N c2, ds⟩], p + 1 + 4 + N, rfl, by omega, by first | rfl | (congr 1; have := HNN.out; omega), by omega, Lib.hid (hp.out.good HD.out HOP.out ops5 bel5 (by omega))⟩

  · -- none
    have hwd : wideOf c = 0 := by unfold wideOf; rw [if_neg h2, if_neg h3, if_neg h4]
    have f1 : decide ((c.toNat : Int) ≤ 75) = false := decide_eq_false (by omega)
    have f2 : ((c.toNat : Int) == 76) = false := by simp only [beq_eq_false_iff_ne, ne_eq]; omega
    have f3 : ((c.toNat : Int) == 77) = false := by simp only [beq_eq_false_iff_ne, ne_eq]; omega
    have f4 : ((c.toNat : Int) == 78) = false := by simp only [beq_eq_false_iff_ne, ne_eq]; omega

    have hw : ¬ (xs.drop (p + 1)).length < 0 := by omega
    have hw2 : p + 1 ≤ xs.length := by omega
    have dw : decide ((xs.length : Int) - ((p : Int) + 1) < 0) = false := decide_eq_false (by omega)
    have hnb := manyOf_bd c (xs.drop (p + 1))
    obtain ⟨n, hn⟩ : ∃ n, n = manyOf c (xs.drop (p + 1)) := ⟨_, rfl⟩
    rw [← hn] at hnb
    by_cases hsh : (xs.length : Int) - ((p : Int) + 1) < n
    · have herr : (opR c (xs.drop (p + 1))).2.1 = 4 := by rw [opR_eq _ _ (by rw [List.length_drop]; omega), hwd, if_neg hw, if_pos (by rw [← hn, List.length_drop, List.length_drop]; omega)]
      have hbad := Lib.hid (hp.out.bad HD.out herr)
      have dn : decide ((xs.length : Int) - ((p : Int) + 1) < n) = true := decide_eq_true hsh
      have hnc : n = 0 := by rw [hn]; unfold manyOf; rw [if_neg h1, hwd, List.take_zero]; rfl
      subst hnc
      clear herr
      exfalso; omega
    · have dn : decide ((xs.length : Int) - ((p : Int) + 1) < n) = false := decide_eq_false hsh
      obtain ⟨N, hN⟩ : ∃ N : Nat, n = (N : Int) := ⟨n.toNat, by omega⟩
      have hop : opR c (xs.drop (p + 1)) = ((xs.drop (p + 1)).take N, 0, xs.drop (p + 1 + N)) := by
        rw [opR_eq _ _ (by rw [List.length_drop]; omega), hwd, if_neg hw, if_neg (by rw [← hn, List.length_drop, List.length_drop]; omega), ← hn, hN, Int.toNat_natCast]
        rw [List.drop_drop, List.drop_drop]
        try rfl
      have HOP := Lib.hid hop
      clear hop
      have hnc : n = 0 := by rw [hn]; unfold manyOf; rw [if_neg h1, hwd, List.take_zero]; rfl
      subst hnc
      have hN2 : p + 1 + N ≤ xs.length := by omega
      have hsl2 : ∀ W, (Instr.slice 22 (.slice (some (⟨b, o, none⟩ : Addr)) xs.length cp) (some (.int .i64 ((p : Int) + 1))) (some (.int .i64 ((p : Int) + 1))) none).run Try.prog W = .ok (.slice (if cp = p + 1 then (some (⟨b, o, none⟩ : Addr)) else (some (⟨b, o, none⟩ : Addr)).map (fun x => x.add (p + 1))) (p + 1 + N - (p + 1)) (cp - (p + 1))) W := fun W => run_part (some (⟨b, o, none⟩ : Addr)) xs.length cp (p + 1) (p + 1 + N) _ _ (by omega) (by omega) (by omega) (by omega) W
      have hds := Byt.sub HX.out (lo := p + 1) (hi := p + 1 + N) (by omega) (by omega)
      obtain ⟨Z2, hZ2⟩ : ∃ Z, Z = (if cp = p + 1 then (some (⟨b, o, none⟩ : Addr)) else (some (⟨b, o, none⟩ : Addr)).map (fun x => x.add (p + 1))) := ⟨_, rfl⟩
      obtain ⟨cz2, hcz2⟩ : ∃ cz, cz = cp - (p + 1) := ⟨_, rfl⟩
      rw [← hZ2, ← hcz2] at hds
      rw [show p + 1 + N - (p + 1) = N by omega] at hds hsl2
      simp only [← hZ2, ← hcz2] at hsl2
      obtain ⟨ds, hdd⟩ : ∃ ds, ds = (xs.drop (p + 1)).take N := ⟨_, rfl⟩
      have hdl : ds.length = N := by rw [hdd, List.length_take, List.length_drop]; omega
      rw [← hdd] at hds HOP
      have HC := Lib.hid (fun W (hb : Below B w W) => rcopy_any B _ ds W (hds.below hb) (by omega))
      have HNN := Lib.hid hN
      clear hds hZ2 hcz2 hdd hn hN
      have hll : (L.length + 1) * 32 ≤ 140737488355328 := by have := hp.out.len; omega
      go_wp2_with fail
      refine (HC.out _ ((hp.out.bel).mono hB)).mono ?_
      intro e w2 hfr
      obtain ⟨u2, rfl, hown2, hb2⟩ := fresh_v hfr
      obtain ⟨A2, c2, rfl⟩ := hown2.form
      have hsz := hp.out.bel.size
      have hn2 : ∀ q ∈ L, ∀ g, q.at_.ownBlock = some g → (Value.slice A2 ds.length c2).ownBlock ≠ some g := fun q hq g hg he => by
        have h1 := (World.ownsRow.lt (hp.out.ops.2.1 q hq) g hg).2
        have h2 := (World.ownsRow.lt hown2 g he).1
        omega
      obtain ⟨W3, hW3⟩ : ∃ W3, W3 = w2.alloc (.cells #[.int .u8 (c.toNat : Int), .slice A2 ds.length c2] 38) := ⟨_, rfl⟩
      have k0 : W3.cell? ⟨w2.heap.size, 0, none⟩ = some (.int .u8 (c.toNat : Int)) := by rw [hW3]; exact cell_of_row _ _ 0 _ _ _ (heap_alloc_new w2 _)
      have k1 : W3.cell? ⟨w2.heap.size, 1, none⟩ = some (.slice A2 ds.length c2) := by rw [hW3]; exact cell_of_row _ _ 1 _ _ _ (heap_alloc_new w2 _)
      have ops3 : ROpsAt W3 w.heap.size v L := by rw [hW3]; exact (hp.out.ops.below hb2).alloc _
      have own3 : OwnB W3 w.heap.size (.slice A2 ds.length c2) ds := by rw [hW3]; exact World.ownsRow.alloc (own_base hown2 hsz) _
      have bel3 : Below w.heap.size w W3 := by
        rw [hW3]
        have := hp.out.bel.trans (hb2.mono hsz)
        exact this.alloc this.size _
      have OPS := Lib.hid ops3
      have OWN := Lib.hid own3
      have BEL := Lib.hid bel3
      have HNE := Lib.hid hn2
      clear ops3 own3 bel3 hn2 hown2 hfr hb2 hsz
      rw [hdl] at OWN HNE k1 hW3 ⊢
      go_wp2_with (at_builtin; rw [← hW3]; refine wpList_append_rop rfl (.tmp 58) (.tmp 68) rfl w.heap.size _ L.length (cellsOf L) rfl OPS.out.1 w2.heap.size (.int .u8 (c.toNat : Int)) (.slice A2 N c2) rfl k0 k1 rfl rfl hll BEL.out.size ?_; intro v5 w5 hown5 hg5)
      clear k0 k1 hW3
      have hT5 : Turns (fun k => v.ownBlock = some k) W3 w5 := (Turns.refl _ W3).grown hg5 (fun k hk _ => hk)
      have ops5 := OPS.out.snoc (p := ⟨c, .slice A2 N c2, ds⟩) OWN.out HNE.out hown5 rfl hg5
      have bel5 : Below w.heap.size w w5 := BEL.out.trans (hT5.below_of BEL.out.size (fun i hi e => by have := (OPS.out.1.lt i e).1; omega))
      go_roundg (xs.length - (p + 1 + N))
      case measure => omega
      case rel => exact ⟨_, L ++ [⟨c, .slice A2 N c2, ds⟩], p + 1 + N, rfl, by omega, by first | rfl | (congr 1; have := HNN.out; omega), by omega, Lib.hid (hp.out.good HD.out HOP.out ops5 bel5 (by omega))⟩

end Go.Proofs.Ytpfobbhoahnebaa

/-
  The reference's Pushes of layer 11. Conditions: sizes within the reach.
-/
namespace Go.Proofs.Ytpfobbhoahnebaa
open Go.RowKit

/-- Parse's answer and the reference's, said without a case. -/
theorem parsed_both {w w' : World} {xs : List UInt8} {e : Ending} (h : Parsed w xs e w') : ∃ A c L k, e = .returned (.tuple #[.slice A L.length c, .int .i64 k]) ∧ OpsAt w' w.heap.size (.slice A L.length c) L ∧ Below w.heap.size w w' ∧
    ((k = 4 ∧ parseP xs = none ∧ L = []) ∨ (k = 0 ∧ parseP xs = some (L.map Piece.pair))) := by
  unfold Parsed at h
  cases hp : parseP xs with
  | none =>
    rw [hp] at h
    obtain ⟨he, hb⟩ := h
    exact ⟨none, 0, [], 4, he, OpsAt.nil _ _, hb, .inl ⟨rfl, rfl, rfl⟩⟩
  | some ops =>
    rw [hp] at h
    obtain ⟨A, c, L, he, hL, ho, hb⟩ := h
    subst hL
    rw [List.length_map] at he ho
    exact ⟨A, c, L, 0, he, ho, hb, .inr ⟨rfl, rfl⟩⟩
theorem rparsed_both {w w' : World} {xs : List UInt8} {e : Ending} (h : RParsed w xs e w') : ∃ A c L b, e = .returned (.tuple #[.slice A L.length c, .bool b]) ∧ ROpsAt w' w.heap.size (.slice A L.length c) L ∧ Below w.heap.size w w' ∧
    ((b = false ∧ parseP xs = none ∧ L = []) ∨ (b = true ∧ parseP xs = some (L.map Piece.pair))) := by
  unfold RParsed at h
  cases hp : parseP xs with
  | none =>
    rw [hp] at h
    obtain ⟨he, hb⟩ := h
    exact ⟨none, 0, [], false, he, ROpsAt.nil _ _, hb, .inl ⟨rfl, rfl, rfl⟩⟩
  | some ops =>
    rw [hp] at h
    obtain ⟨A, c, L, he, hL, ho, hb⟩ := h
    subst hL
    rw [List.length_map] at he ho
    exact ⟨A, c, L, true, he, ho, hb, .inr ⟨rfl, rfl⟩⟩

set_option maxRecDepth 100000 in
set_option maxHeartbeats 1600000 in
theorem rpushes_any (B : Nat) (x : Value) (xs : List UInt8) (w : World) (hx : Byt w B x xs) (hB : B ≤ w.heap.size) (hl : xs.length ≤ 60000000) :
    Calls Try.prog 15 #[x] w fun e w' => e = .returned (.bool (pushesB xs)) ∧ Below w.heap.size w w' := by
  have HP := Lib.hid (rparse_any B x xs w hx hB hl)
  obtain ⟨A, c, rfl⟩ := hx.form
  clear hx
  go_enter Try.func15, Try.ntmps15
  go_wp2_with fail
  refine HP.out.mono ?_
  intro e w1 hr
  obtain ⟨A1, c1, L, b, rfl, ho, hb1, hk⟩ := rparsed_both hr
  have hres : pushesB xs = (b && !L.any (fun p => decide (96 < p.code.toNat))) := by
    unfold pushesB
    rcases hk with ⟨rfl, hp, rfl⟩ | ⟨rfl, hp⟩
    · rw [hp]; rfl
    · rw [hp]
      dsimp only
      rw [any_pair (fun c => decide (96 < c.toNat)) L]
      rfl
  have hno : b = false → L = [] := fun h => by
    rcases hk with ⟨_, _, h2⟩ | ⟨h1, _⟩
    · exact h2
    · rw [h] at h1; cases h1
  have HR := Lib.hid hres
  have HNO := Lib.hid hno
  have hor := OpsR.of_rat ho
  have hlen := hor.len
  have HO := Lib.hid hor
  have HB1 := Lib.hid hb1
  clear hr hk hres ho hor hb1 hno HP
  go_wp2_with fail
  go_loop [5] (fun s => ∃ k : Nat, k ≤ L.length ∧ s = .int .i64 (k : Int) ∧ Hid ((L.take k).any (fun p => decide (96 < p.code.toNat)) = false)) (fun s => L.length - (intOf s).toNat)
  case atStart => exact ⟨0, Nat.zero_le _, rfl, Lib.hid (by simp)⟩
  case round =>
    obtain ⟨k, hk, rfl, hno⟩ := hrel
    by_cases hlt : k < L.length
    · obtain ⟨A', c', e0, _, _, h4⟩ := HO.out
      obtain ⟨e1, e2, e3⟩ := Value.slice.inj e0
      subst e1 e3
      clear e2
      obtain ⟨bb, o, rfl, hbb, hc⟩ := h4 (by rintro rfl; simp at hlt)
      obtain ⟨hc0, _, _⟩ := hc k _ (List.getElem?_eq_getElem hlt)
      have hsn := anyO_take (f := fun c => decide (96 < c.toNat)) hlt
      have hbt : b = true := by
        cases b with
        | true => rfl
        | false => have := HNO.out rfl; rw [this] at hlt; simp at hlt
      obtain ⟨⟨q, d, zs⟩, hq⟩ : ∃ q, q = L[k] := ⟨_, rfl⟩
      rw [← hq] at hc0 hsn
      dsimp only at hc0 hsn
      have hr0 : w1.cell? ⟨bb, o + k * 2, none⟩ = some (.int .u8 (q.toNat : Int)) := hc0
      have HSN := Lib.hid hsn
      have hd : decide (k < L.length) = true := by simpa using hlt
      clear hc h4 hq hsn e0 hc0
      by_cases hq0 : 96 < q.toNat
      · have d1 : decide ((96 : Int) < (q.toNat : Int)) = true := decide_eq_true (by omega)
        rw [decide_eq_true hq0] at HSN
        go_wp2_with fail
        go_ret
        refine ⟨?_, HB1.out⟩
        have h2 : (L.take (k + 1)).any (fun p => decide (96 < p.code.toNat)) = true := by rw [HSN.out]; simp
        have h3 : L.any (fun p => decide (96 < p.code.toNat)) = true := by
          rw [List.any_eq_true] at h2 ⊢
          obtain ⟨y, hy, hy2⟩ := h2
          exact ⟨y, List.mem_of_mem_take hy, hy2⟩
        rw [HR.out, h3, hbt]
        rfl
      · have d1 : decide ((96 : Int) < (q.toNat : Int)) = false := decide_eq_false (by omega)
        rw [decide_eq_false hq0] at HSN
        go_wp2_with fail
        go_round
        case rel => exact ⟨k + 1, by omega, by go_num, Lib.hid (by rw [HSN.out, hno.out]; rfl)⟩
        case measure => simp [intOf]; omega
    · obtain rfl : k = L.length := by omega
      go_wp2_with fail
      go_ret
      refine ⟨?_, HB1.out⟩
      have := hno.out
      rw [List.take_length] at this
      rw [HR.out, this]
      cases b <;> rfl

theorem xor255_fin : ∀ n : Fin 256, bits .xor .u8 (n.val : Int) 255 = ((255 - n.val : Nat) : Int) := by decide +kernel
theorem xor255 (x : UInt8) : bits .xor .u8 (x.toNat : Int) 255 = ((255 - x.toNat : Nat) : Int) := xor255_fin ⟨x.toNat, x.toNat_lt⟩
end Go.Proofs.Ytpfobbhoahnebaa

/-
  slices.Grow of nothing, slices.Concat of slices of bytes. Conditions: sizes within the reach.
-/
namespace Go.Proofs.Ytpfobbhoahnebaa
open Go.RowKit

theorem grow_none (w : World) : Calls Try.prog 88 #[.slice none 0 0, .int .i64 0] w fun e w' => e = .returned (.slice none 0 0) ∧ w = w' := by
  go_enter Try.func88, Try.ntmps88
  go_wp2_with fail
  go_ret
  exact ⟨rfl, rfl⟩

set_option maxRecDepth 100000 in
set_option maxHeartbeats 1600000 in
theorem grow_some (n : Nat) (h0 : 0 < n) (hn : n ≤ 100000000) (w : World) :
    Calls Try.prog 88 #[.slice none 0 0, .int .i64 (n : Int)] w (Fresh w []) := by
  obtain ⟨i0, hi, hz0, hz1, hz2⟩ := info_parts info_u8
  obtain ⟨G, hG⟩ : ∃ G, G = grownCap w n 0 5 := ⟨_, rfl⟩
  have hrz : ∀ ty, (Builtin.append_ #[22, 3] ty #[.slice none 0 0, .int .i64 (n : Int)]).run Try.prog w =
      .ok (.slice (some ⟨w.heap.size, 0, none⟩) n G) (w.drew.alloc (.cells (#[] ++ Builtin.zeroCells (Value.int .u8 0).cells n ++ Builtin.zeroCells (Value.int .u8 0).cells (G - n)) 5)) := fun ty => by
    have h := Lib.run_append_grow_zeros (P := Try.prog) w 22 3 ty 5 i0 (.int .u8 0) .i64 .i64 slice_u8 Try.underlying3 hi hz0 none 0 0 [] (run_firstCells_none w.drew i0.size 0 0 0) n h0 (by rw [hz1]; decide) (by omega) (by omega)
      (by rw [hz2]; omega) (by rw [Nat.zero_add]; exact growslice_fits h0 (by rw [hz2]; omega))
    simp only [Nat.zero_add] at h
    rw [← hG] at h
    exact h
  have hGn : n ≤ G := by rw [hG]; exact grownCap_ge w _ _ _
  have hGm : G ≤ maxLen := by rw [hG]; exact grownCap_le_maxLen w _ _ _ (by unfold maxLen; omega)
  have hfr : Fresh w [] (.returned (.slice (some ⟨w.heap.size, 0, none⟩) 0 G)) (w.alloc (.cells (Builtin.zeroCells #[.int .u8 0] n ++ Builtin.zeroCells #[.int .u8 0] (G - n)) 5)).drew := by
    refine ⟨_, _, rfl, ?_, ?_⟩
    · have h := World.ownsRow_made (base := w.heap.size) (e := 5) (size := 1) w (Builtin.zeroCells #[.int .u8 0] n ++ Builtin.zeroCells #[.int .u8 0] (G - n)) G (Nat.le_refl _) hGm (by
        rw [Array.size_append, size_zeroCells, size_zeroCells]
        simp
        omega)
      exact h
    · exact (⟨rfl, rfl, rfl, by simp, fun k hk => Below.heap_alloc _ _ _ hk⟩ : Below w.heap.size w (w.alloc _).drew)
  have hG63 : G ≤ 9223372036854775807 := hGm
  have HF := Lib.hid hfr
  have hpos : (0 : Int) < n := by omega
  clear hfr hG hGm
  go_enter Try.func88, Try.ntmps88
  go_wp2_with (at_builtin; refine Lib.wpList_append_run _ rfl _ _ _ _ rfl _ _ rfl rfl _ _ (hrz _) ?_)
  go_ret
  exact HF.out

/-- The slice value v reads as these slices of bytes. -/
def BagR (w : World) (B : Nat) (v : Value) (L : List (Value × List UInt8)) : Prop :=
  (∃ A c, v = .slice A L.length c ∧ L.length ≤ c ∧ c ≤ maxLen ∧ (L ≠ [] → ∃ b o, A = some ⟨b, o, none⟩ ∧ b < B ∧ ∀ i p, L[i]? = some p → w.cell? ⟨b, o + i, none⟩ = some p.1)) ∧ ∀ p ∈ L, Byt w B p.1 p.2
theorem BagR.form {w : World} {B : Nat} {v : Value} {L : List (Value × List UInt8)} (h : BagR w B v L) : ∃ A c, v = .slice A L.length c := by
  obtain ⟨⟨A, c, hv, _⟩, _⟩ := h
  exact ⟨A, c, hv⟩
theorem BagR.len {w : World} {B : Nat} {v : Value} {L : List (Value × List UInt8)} (h : BagR w B v L) : L.length ≤ 9223372036854775807 := by
  obtain ⟨⟨A, c, hv, h1, h2, _⟩, _⟩ := h
  unfold maxLen at h2
  omega
theorem BagR.below {w w' : World} {B : Nat} {v : Value} {L : List (Value × List UInt8)} (h : BagR w B v L) (hb : Below B w w') : BagR w' B v L := by
  obtain ⟨⟨A, c, hv, h1, h2, h3⟩, h4⟩ := h
  refine ⟨⟨A, c, hv, h1, h2, fun hne => ?_⟩, fun p hp => (h4 p hp).below hb⟩
  obtain ⟨b, o, e, hb', hc⟩ := h3 hne
  exact ⟨b, o, e, hb', fun i p hp => (hb.cell (p := ⟨b, _, none⟩) hb').trans (hc i p hp)⟩
theorem BagR.more {w : World} {B B' : Nat} {v : Value} {L : List (Value × List UInt8)} (h : BagR w B v L) (hB : B ≤ B') : BagR w B' v L := by
  obtain ⟨⟨A, c, hv, h1, h2, h3⟩, h4⟩ := h
  refine ⟨⟨A, c, hv, h1, h2, fun hne => ?_⟩, fun p hp => (h4 p hp).more hB⟩
  obtain ⟨b, o, e, hb', hc⟩ := h3 hne
  exact ⟨b, o, e, by omega, hc⟩
/-- A new block of just these slices. -/
theorem BagR.made (w : World) (t : TypeId) (l : List Value) (L : List (Value × List UInt8)) (h : l = L.map (·.1)) (hl : L.length ≤ maxLen) (hb : ∀ p ∈ L, Byt w w.heap.size p.1 p.2) :
    BagR (w.alloc (.cells l.toArray t)) (w.heap.size + 1) (.slice (some ⟨w.heap.size, 0, none⟩) L.length L.length) L := by
  refine ⟨⟨_, _, rfl, Nat.le_refl _, hl, fun _ => ⟨_, _, rfl, by omega, fun i p hp => ?_⟩⟩, fun p hp => (byt_later (hb p hp) _).more (by omega)⟩
  rw [Nat.zero_add, cell_of_row _ w.heap.size i _ _ _ (heap_alloc_new w _), h]
  simp [hp]

def total (L : List (Value × List UInt8)) : Nat := (L.map (fun p => p.2.length)).sum
def joined (L : List (Value × List UInt8)) : List UInt8 := (L.map (·.2)).flatten
theorem total_take {L : List (Value × List UInt8)} {k : Nat} (h : k < L.length) : total (L.take (k + 1)) = total (L.take k) + L[k].2.length := by
  unfold total
  rw [List.take_succ_eq_append_getElem h]
  simp only [List.map_append, List.sum_append, List.map_cons, List.map_nil, List.sum_cons, List.sum_nil, Nat.add_zero]
theorem joined_take {L : List (Value × List UInt8)} {k : Nat} (h : k < L.length) : joined (L.take (k + 1)) = joined (L.take k) ++ L[k].2 := by
  unfold joined
  rw [List.take_succ_eq_append_getElem h]
  simp only [List.map_append, List.flatten_append, List.map_cons, List.map_nil, List.flatten_cons, List.flatten_nil, List.append_nil]
theorem joined_length (L : List (Value × List UInt8)) : (joined L).length = total L := by unfold joined total; simp [List.length_flatten, Function.comp_def]
theorem total_take_le (L : List (Value × List UInt8)) (k : Nat) : total (L.take k) ≤ total L := by
  have h : L = L.take k ++ L.drop k := (List.take_append_drop k L).symm
  have : total L = total (L.take k) + total (L.drop k) := by
    conv => lhs; rw [h]
    unfold total
    rw [List.map_append, List.sum_append]
  omega

set_option maxRecDepth 100000 in
set_option maxHeartbeats 3200000 in
theorem concat_any (B : Nat) (x : Value) (L : List (Value × List UInt8)) (w : World) (hx : BagR w B x L) (hB : B ≤ w.heap.size) (hl : total L ≤ 60000000) :
    Calls Try.prog 70 #[x] w (Fresh w (joined L)) := by
  obtain ⟨i0, hi, hz0, hz1, hz2⟩ := info_parts info_u8
  have hlen := hx.len
  have HX := Lib.hid hx
  obtain ⟨A, c, rfl⟩ := hx.form
  clear hx
  go_enter Try.func70, Try.ntmps70
  go_wp2_with fail
  go_loop [3, 11] (fun s t => ∃ k : Nat, k ≤ L.length ∧ t = .int .i64 (k : Int) ∧ s = .int .i64 (total (L.take k) : Nat)) (fun _ t => L.length - (intOf t).toNat)
  case atStart => exact ⟨0, Nat.zero_le _, rfl, rfl⟩
  case round =>
    obtain ⟨k, hk, rfl, rfl⟩ := hrel
    by_cases hlt : k < L.length
    · obtain ⟨⟨A', c', e0, _, _, h4⟩, h5⟩ := HX.out
      obtain ⟨e1, e2, e3⟩ := Value.slice.inj e0
      subst e1 e3
      clear e2
      obtain ⟨b, o, rfl, hb, hc⟩ := h4 (by rintro rfl; simp at hlt)
      have hc0 := hc k _ (List.getElem?_eq_getElem hlt)
      obtain ⟨Ad, cd, hd⟩ := (h5 _ (List.getElem_mem hlt)).form
      have hts := total_take hlt
      have htl := total_take_le L (k + 1)
      rw [hd] at hc0
      obtain ⟨m, hm⟩ : ∃ m, m = L[k].2.length := ⟨_, rfl⟩
      rw [← hm] at hc0 hts
      obtain ⟨T, hT⟩ : ∃ T, T = total (L.take k) := ⟨_, rfl⟩
      rw [← hT] at hts ⊢
      have HTS := Lib.hid hts
      have hdk : decide (k < L.length) = true := decide_eq_true hlt
      have hbig : T + m ≤ 60000000 := by omega
      have hng : decide ((T : Int) + (m : Int) < 0) = false := decide_eq_false (by omega)
      clear hc h4 h5 e0 hm hT hts htl hd
      go_wp2_with fail
      go_round
      case rel => exact ⟨k + 1, by omega, by go_num, by rw [HTS.out]; go_num⟩
      case measure => simp [intOf]; omega
    · obtain rfl : k = L.length := by omega
      rw [List.take_length]
      obtain ⟨T, hT⟩ : ∃ T, T = total L := ⟨_, rfl⟩
      rw [← hT] at hl ⊢
      have HT := Lib.hid hT
      clear hT
      have HG : Hid (Calls Try.prog 88 #[.slice none 0 0, .int .i64 (T : Int)] w (Fresh w [])) := Lib.hid (by
        rcases Nat.eq_zero_or_pos T with h | h
        · subst h
          exact (grow_none w).mono fun e w' ⟨he, hw⟩ => by subst hw; exact ⟨none, 0, he, World.ownsRow_nil _ _ _ _, Below.refl _ _⟩
        · exact grow_some T h (by omega) w)
      go_wp2_with fail
      refine HG.out.mono ?_
      intro e w1 hfr
      obtain ⟨v1, rfl, hown1, hb1⟩ := fresh_v hfr
      have HO1 := Lib.hid hown1
      have HB1 := Lib.hid hb1
      clear hfr hown1 hb1 HG
      go_wp2_with fail
      go_loopw [6, 27] (fun s t wr => ∃ (k : Nat) (v : Value), v = s ∧ k ≤ L.length ∧ t = .int .i64 (k : Int) ∧ Hid (OwnB wr w.heap.size v (joined (L.take k))) ∧ Hid (Below w.heap.size w wr)) (fun _ t _ => L.length - (intOf t).toNat)
      case atStart => exact ⟨0, _, rfl, Nat.zero_le _, rfl, HO1, HB1⟩
      case round =>
        obtain ⟨k, v, hv, hk, rfl, hown, hbel⟩ := hrel
        subst hv
        by_cases hlt : k < L.length
        · obtain ⟨⟨A', c', e0, _, _, h4⟩, h5⟩ := HX.out.below (hbel.out.mono hB)
          obtain ⟨e1, e2, e3⟩ := Value.slice.inj e0
          subst e1 e3
          clear e2
          obtain ⟨b, o, rfl, hb, hc⟩ := h4 (by rintro rfl; simp at hlt)
          have hc0 := hc k _ (List.getElem?_eq_getElem hlt)
          have hby := h5 _ (List.getElem_mem hlt)
          have hjt := joined_take hlt
          have htk := total_take_le L (k + 1)
          rw [total_take hlt, ← HT.out] at htk
          have hjl := joined_length (L.take k)
          obtain ⟨⟨pd, ys⟩, hpe⟩ : ∃ p, p = L[k] := ⟨_, rfl⟩
          rw [← hpe] at hc0 hby hjt htk
          dsimp only at hc0 hby hjt htk
          obtain ⟨Ad, cd, rfl⟩ := hby.form
          have HBY := Lib.hid hby
          have HJT := Lib.hid hjt
          have hbnd : (joined (L.take k)).length + ys.length ≤ 60000000 := by omega
          have HBN := Lib.hid hbnd
          have hdk : decide (k < L.length) = true := decide_eq_true hlt
          clear hc h4 h5 e0 hby hjt htk hjl hpe hbnd
          go_wp2_with (at_builtin; refine wpList_append_bytes rfl (.tmp 31) (.tmp 32) 22 rfl w.heap.size 5 i0 slice_u8 hi hz0 hz1 hz2 _ _ _ rfl hown.out B _ ys rfl HBY.out (by have := HBN.out; omega) hbel.out.size ?_; intro v5 w5 hown5 hg5 hat5)
          have ho5 : OwnB w5 w.heap.size v5 (joined (L.take (k + 1))) := by rw [HJT.out]; exact own_b hown5 rfl
          have hb5 : Below w.heap.size w w5 := hbel.out.grown hg5 hbel.out.size (fun j hj => (World.ownsRow.lt hown.out j hj).1)
          have HO5 := Lib.hid ho5
          have HB5 := Lib.hid hb5
          clear hown5 hg5 hat5 ho5 hb5
          go_roundw
          case rel => exact ⟨k + 1, _, rfl, by omega, by go_num, HO5, HB5⟩
          case measure => simp [intOf]; omega
        · obtain rfl : k = L.length := by omega
          have ho := hown.out
          rw [List.take_length] at ho
          have HO := Lib.hid ho
          clear ho
          go_wp2_with fail
          go_ret
          exact fresh_own HO.out hbel.out
end Go.Proofs.Ytpfobbhoahnebaa

/-
  PayKey and PayScript, of the program and of the reference. Conditions: a digest of twenty bytes.
-/
namespace Go.Proofs.Ytpfobbhoahnebaa
open Go.RowKit

theorem push_twenty {hs : List UInt8} (h : hs.length = 20) : pushB hs = 20 :: hs := by
  match hs, h with
  | a :: b :: t, h =>
    have : aloneB (a :: b :: t) = none := rfl
    unfold pushB
    rw [this, h]
    rfl
def keyForm (hs : List UInt8) : List UInt8 := [118, 169, 20] ++ hs ++ [136, 172]
def scriptForm (hs : List UInt8) : List UInt8 := [169, 20] ++ hs ++ [135]

set_option maxRecDepth 100000 in
set_option maxHeartbeats 3200000 in
theorem payKey_any (hs : List UInt8) (h : hs.length = 20) (w : World) :
    Calls Try.prog 32 #[.agg (hs.map bv).toArray] w (Fresh w (keyForm hs)) := by
  obtain ⟨cs, hcs⟩ : ∃ cs, cs = (hs.map bv).toArray := ⟨_, rfl⟩
  have hsz : cs.size = 20 := by rw [hcs]; simp [h]
  have h0 : Byt (w.alloc (.cells cs 55)) (w.heap.size + 1) (.slice (some ⟨w.heap.size, 0, none⟩) 20 20) hs := by
    have := Byt.made w 55 (hs.map bv) hs rfl (by unfold maxLen; omega)
    rw [← hcs, h] at this
    exact this
  have H0 := Lib.hid h0
  rw [← hcs]
  have HP := Lib.hid (push_twenty h)
  have HH := Lib.hid h
  clear hcs h0 h
  go_enter Try.func32, Try.ntmps32
  go_wp2_with fail
  refine (push_any (w.heap.size + 1) _ hs _ (byt_later H0.out _) (by simp) (by rw [HH.out]; decide)).mono ?_
  rw [HP.out]
  intro e w2 hfr
  obtain ⟨u2, rfl, hown2, hb2⟩ := fresh_v hfr
  obtain ⟨A2, c2, rfl⟩ := hown2.form
  have m1 : Byt ((w.alloc (.cells cs 55)).alloc (.cells #[.int .u8 118, .int .u8 169] 5)) (w.heap.size + 1 + 1) (.slice (some ⟨w.heap.size + 1, 0, none⟩) 2 2) [118, 169] := by
    have := Byt.made (w.alloc (.cells cs 55)) 5 [.int .u8 118, .int .u8 169] [118, 169] rfl (by unfold maxLen; simp)
    rw [World.size_alloc] at this
    exact this
  have s1 : w.heap.size + 1 + 1 ≤ w2.heap.size := by have := hb2.size; simp at this; omega
  have B2 : Below w.heap.size w w2 := (((Below.refl _ w).alloc (Nat.le_refl _) (.cells cs 55)).alloc (by simp) (.cells #[.int .u8 118, .int .u8 169] 5)).trans (hb2.mono (by simp; omega))
  have y1 : Byt (w2.alloc (.cells #[.int .u8 136, .int .u8 172] 5)) (w2.alloc (.cells #[.int .u8 136, .int .u8 172] 5)).heap.size (.slice (some ⟨w.heap.size + 1, 0, none⟩) 2 2) [118, 169] := (byt_later (m1.below (hb2.mono (by simp))) _).more (by simp; omega)
  have y2 : Byt (w2.alloc (.cells #[.int .u8 136, .int .u8 172] 5)) (w2.alloc (.cells #[.int .u8 136, .int .u8 172] 5)).heap.size (.slice A2 (20 :: hs).length c2) (20 :: hs) := (byt_later (Byt.of_own hown2) _).more (by simp)
  have y3 : Byt (w2.alloc (.cells #[.int .u8 136, .int .u8 172] 5)) (w2.alloc (.cells #[.int .u8 136, .int .u8 172] 5)).heap.size (.slice (some ⟨w2.heap.size, 0, none⟩) 2 2) [136, 172] := (Byt.made w2 5 [.int .u8 136, .int .u8 172] [136, 172] rfl (by unfold maxLen; simp)).more (by simp)
  have bag := BagR.made (w2.alloc (.cells #[.int .u8 136, .int .u8 172] 5)) 22 [.slice (some ⟨w.heap.size + 1, 0, none⟩) 2 2, .slice A2 (20 :: hs).length c2, .slice (some ⟨w2.heap.size, 0, none⟩) 2 2]
    [(.slice (some ⟨w.heap.size + 1, 0, none⟩) 2 2, [118, 169]), (.slice A2 (20 :: hs).length c2, 20 :: hs), (.slice (some ⟨w2.heap.size, 0, none⟩) 2 2, [136, 172])] rfl (by unfold maxLen; simp)
    (by intro p hp; simp only [List.mem_cons, List.not_mem_nil, or_false] at hp; rcases hp with rfl | rfl | rfl; exact y1; exact y2; exact y3)
  rw [World.size_alloc] at bag
  have BAG := Lib.hid bag
  have BB := Lib.hid B2
  clear m1 y1 y2 y3 bag B2 hfr hown2 hb2 s1
  have hlen : (20 :: hs).length = 21 := by rw [List.length_cons, HH.out]
  rw [hlen] at BAG ⊢
  clear hlen
  go_wp2_with fail
  refine (concat_any _ _ _ _ BAG.out (by simp) (by unfold total; simp; have := HH.out; omega)).mono ?_
  intro e w3 hfr
  obtain ⟨u3, rfl, hown3, hb3⟩ := fresh_v hfr
  have HO3 := Lib.hid hown3
  have HB3 := Lib.hid ((((BB.out.alloc BB.out.size (.cells #[.int .u8 136, .int .u8 172] 5)).alloc (by have := BB.out.size; simp; omega) (.cells #[.slice (some ⟨w.heap.size + 1, 0, none⟩) 2 2, .slice A2 21 c2, .slice (some ⟨w2.heap.size, 0, none⟩) 2 2] 22))).trans (hb3.mono (by have := BB.out.size; simp; omega)))
  clear hfr hown3 hb3
  go_wp2_with fail
  go_ret
  have e3 : joined [((.slice (some ⟨w.heap.size + 1, 0, none⟩) 2 2 : Value), [118, 169]), (.slice A2 21 c2, 20 :: hs), (.slice (some ⟨w2.heap.size, 0, none⟩) 2 2, [136, 172])] = keyForm hs := by
    unfold joined keyForm
    simp
  have HO := HO3.out
  rw [e3] at HO
  exact fresh_own (own_base HO (by have := BB.out.size; simp; omega)) HB3.out

set_option maxRecDepth 100000 in
set_option maxHeartbeats 3200000 in
theorem payScript_any (hs : List UInt8) (h : hs.length = 20) (w : World) :
    Calls Try.prog 33 #[.agg (hs.map bv).toArray] w (Fresh w (scriptForm hs)) := by
  obtain ⟨cs, hcs⟩ : ∃ cs, cs = (hs.map bv).toArray := ⟨_, rfl⟩
  have hsz : cs.size = 20 := by rw [hcs]; simp [h]
  have h0 : Byt (w.alloc (.cells cs 55)) (w.heap.size + 1) (.slice (some ⟨w.heap.size, 0, none⟩) 20 20) hs := by
    have := Byt.made w 55 (hs.map bv) hs rfl (by unfold maxLen; omega)
    rw [← hcs, h] at this
    exact this
  have H0 := Lib.hid h0
  rw [← hcs]
  have HP := Lib.hid (push_twenty h)
  have HH := Lib.hid h
  clear hcs h0 h
  go_enter Try.func33, Try.ntmps33
  go_wp2_with fail
  refine (push_any (w.heap.size + 1) _ hs _ (byt_later H0.out _) (by simp) (by rw [HH.out]; decide)).mono ?_
  rw [HP.out]
  intro e w2 hfr
  obtain ⟨u2, rfl, hown2, hb2⟩ := fresh_v hfr
  obtain ⟨A2, c2, rfl⟩ := hown2.form
  have m1 : Byt ((w.alloc (.cells cs 55)).alloc (.cells #[.int .u8 169] 5)) (w.heap.size + 1 + 1) (.slice (some ⟨w.heap.size + 1, 0, none⟩) 1 1) [169] := by
    have := Byt.made (w.alloc (.cells cs 55)) 5 [.int .u8 169] [169] rfl (by unfold maxLen; simp)
    rw [World.size_alloc] at this
    exact this
  have s1 : w.heap.size + 1 + 1 ≤ w2.heap.size := by have := hb2.size; simp at this; omega
  have B2 : Below w.heap.size w w2 := (((Below.refl _ w).alloc (Nat.le_refl _) (.cells cs 55)).alloc (by simp) (.cells #[.int .u8 169] 5)).trans (hb2.mono (by simp; omega))
  have y1 : Byt (w2.alloc (.cells #[.int .u8 135] 5)) (w2.alloc (.cells #[.int .u8 135] 5)).heap.size (.slice (some ⟨w.heap.size + 1, 0, none⟩) 1 1) [169] := (byt_later (m1.below (hb2.mono (by simp))) _).more (by simp; omega)
  have y2 : Byt (w2.alloc (.cells #[.int .u8 135] 5)) (w2.alloc (.cells #[.int .u8 135] 5)).heap.size (.slice A2 (20 :: hs).length c2) (20 :: hs) := (byt_later (Byt.of_own hown2) _).more (by simp)
  have y3 : Byt (w2.alloc (.cells #[.int .u8 135] 5)) (w2.alloc (.cells #[.int .u8 135] 5)).heap.size (.slice (some ⟨w2.heap.size, 0, none⟩) 1 1) [135] := (Byt.made w2 5 [.int .u8 135] [135] rfl (by unfold maxLen; simp)).more (by simp)
  have bag := BagR.made (w2.alloc (.cells #[.int .u8 135] 5)) 22 [.slice (some ⟨w.heap.size + 1, 0, none⟩) 1 1, .slice A2 (20 :: hs).length c2, .slice (some ⟨w2.heap.size, 0, none⟩) 1 1]
    [(.slice (some ⟨w.heap.size + 1, 0, none⟩) 1 1, [169]), (.slice A2 (20 :: hs).length c2, 20 :: hs), (.slice (some ⟨w2.heap.size, 0, none⟩) 1 1, [135])] rfl (by unfold maxLen; simp)
    (by intro p hp; simp only [List.mem_cons, List.not_mem_nil, or_false] at hp; rcases hp with rfl | rfl | rfl; exact y1; exact y2; exact y3)
  rw [World.size_alloc] at bag
  have BAG := Lib.hid bag
  have BB := Lib.hid B2
  clear m1 y1 y2 y3 bag B2 hfr hown2 hb2 s1
  have hlen : (20 :: hs).length = 21 := by rw [List.length_cons, HH.out]
  rw [hlen] at BAG ⊢
  clear hlen
  go_wp2_with fail
  refine (concat_any _ _ _ _ BAG.out (by simp) (by unfold total; simp; have := HH.out; omega)).mono ?_
  intro e w3 hfr
  obtain ⟨u3, rfl, hown3, hb3⟩ := fresh_v hfr
  have HO3 := Lib.hid hown3
  have HB3 := Lib.hid ((((BB.out.alloc BB.out.size (.cells #[.int .u8 135] 5)).alloc (by have := BB.out.size; simp; omega) (.cells #[.slice (some ⟨w.heap.size + 1, 0, none⟩) 1 1, .slice A2 21 c2, .slice (some ⟨w2.heap.size, 0, none⟩) 1 1] 22))).trans (hb3.mono (by have := BB.out.size; simp; omega)))
  clear hfr hown3 hb3
  go_wp2_with fail
  go_ret
  have e3 : joined [((.slice (some ⟨w.heap.size + 1, 0, none⟩) 1 1 : Value), [169]), (.slice A2 21 c2, 20 :: hs), (.slice (some ⟨w2.heap.size, 0, none⟩) 1 1, [135])] = scriptForm hs := by
    unfold joined scriptForm
    simp
  have HO := HO3.out
  rw [e3] at HO
  exact fresh_own (own_base HO (by have := BB.out.size; simp; omega)) HB3.out

set_option maxRecDepth 100000 in
set_option maxHeartbeats 3200000 in
theorem rpayKey_any (B : Nat) (x : Value) (hs : List UInt8) (w : World) (hx : Byt w B x hs) (_hB : B ≤ w.heap.size) (h : hs.length ≤ 60000000) :
    Calls Try.prog 34 #[x] w (Fresh w (keyForm hs)) := by
  obtain ⟨i0, hi, hz0, hz1, hz2⟩ := info_parts info_u8
  have HX := Lib.hid (byt_later hx (.cells #[.int .u8 118, .int .u8 169, .int .u8 20] 5))
  obtain ⟨A, c, rfl⟩ := hx.form
  have HO := Lib.hid (own_made w 5 [.int .u8 118, .int .u8 169, .int .u8 20] [118, 169, 20] rfl (by unfold maxLen; simp))
  have HB1 := Lib.hid ((Below.refl _ w).alloc (Nat.le_refl _) (.cells #[.int .u8 118, .int .u8 169, .int .u8 20] 5))
  have HS1 : Hid (w.heap.size ≤ (w.alloc (.cells #[.int .u8 118, .int .u8 169, .int .u8 20] 5)).heap.size) := Lib.hid (by simp)
  clear hx
  go_enter Try.func34, Try.ntmps34
  go_wp2_with (first | (at_builtin; refine wpList_append_bytes rfl (.tmp 3) (.tmp 4) 22 rfl w.heap.size 5 i0 slice_u8 hi hz0 hz1 hz2 _ 3 ((([118, 169, 20]) : List UInt8).map bv) rfl HO.out B _ hs rfl HX.out (by omega) HS1.out ?_; intro v5 w5 hown5 hg5 hat5; have ho5 : OwnB w5 w.heap.size v5 ([118, 169, 20] ++ hs) := own_b hown5 rfl; have hb5 : Below w.heap.size w w5 := HB1.out.grown hg5 HS1.out (fun j hj => (World.ownsRow.lt HO.out j hj).1); have HO5 := Lib.hid (World.ownsRow.alloc ho5 (.cells #[.int .u8 136, .int .u8 172] 5)); have HB5 := Lib.hid (hb5.alloc hb5.size (.cells #[.int .u8 136, .int .u8 172] 5)); have HM5 := Lib.hid (Byt.made w5 5 [.int .u8 136, .int .u8 172] [136, 172] rfl (by unfold maxLen; simp)); clear hown5 hg5 hat5 ho5 hb5) | (at_builtin; refine wpList_append_bytes rfl (.tmp 5) (.tmp 6) 22 rfl w.heap.size 5 i0 slice_u8 hi hz0 hz1 hz2 _ _ _ rfl HO5.out _ _ [136, 172] rfl HM5.out (by simp; omega) HB5.out.size ?_; intro v7 w7 hown7 hg7 hat7))
  go_ret
  have ho7 : OwnB w7 w.heap.size v7 (([118, 169, 20] ++ hs) ++ [136, 172]) := own_b hown7 rfl
  exact fresh_own ho7 (HB5.out.grown hg7 HB5.out.size (fun j hj => (World.ownsRow.lt HO5.out j hj).1))

set_option maxRecDepth 100000 in
set_option maxHeartbeats 3200000 in
theorem rpayScript_any (B : Nat) (x : Value) (hs : List UInt8) (w : World) (hx : Byt w B x hs) (_hB : B ≤ w.heap.size) (h : hs.length ≤ 60000000) :
    Calls Try.prog 35 #[x] w (Fresh w (scriptForm hs)) := by
  obtain ⟨i0, hi, hz0, hz1, hz2⟩ := info_parts info_u8
  have HX := Lib.hid (byt_later hx (.cells #[.int .u8 169, .int .u8 20] 5))
  obtain ⟨A, c, rfl⟩ := hx.form
  have HO := Lib.hid (own_made w 5 [.int .u8 169, .int .u8 20] [169, 20] rfl (by unfold maxLen; simp))
  have HB1 := Lib.hid ((Below.refl _ w).alloc (Nat.le_refl _) (.cells #[.int .u8 169, .int .u8 20] 5))
  have HS1 : Hid (w.heap.size ≤ (w.alloc (.cells #[.int .u8 169, .int .u8 20] 5)).heap.size) := Lib.hid (by simp)
  clear hx
  go_enter Try.func35, Try.ntmps35
  go_wp2_with (first | (at_builtin; refine wpList_append_bytes rfl (.tmp 3) (.tmp 4) 22 rfl w.heap.size 5 i0 slice_u8 hi hz0 hz1 hz2 _ 2 ((([169, 20]) : List UInt8).map bv) rfl HO.out B _ hs rfl HX.out (by omega) HS1.out ?_; intro v5 w5 hown5 hg5 hat5; have ho5 : OwnB w5 w.heap.size v5 ([169, 20] ++ hs) := own_b hown5 rfl; have hb5 : Below w.heap.size w w5 := HB1.out.grown hg5 HS1.out (fun j hj => (World.ownsRow.lt HO.out j hj).1); have HO5 := Lib.hid (World.ownsRow.alloc ho5 (.cells #[.int .u8 135] 5)); have HB5 := Lib.hid (hb5.alloc hb5.size (.cells #[.int .u8 135] 5)); have HM5 := Lib.hid (Byt.made w5 5 [.int .u8 135] [135] rfl (by unfold maxLen; simp)); clear hown5 hg5 hat5 ho5 hb5) | (at_builtin; refine wpList_append_bytes rfl (.tmp 5) (.tmp 6) 22 rfl w.heap.size 5 i0 slice_u8 hi hz0 hz1 hz2 _ _ _ rfl HO5.out _ _ [135] rfl HM5.out (by simp; omega) HB5.out.size ?_; intro v7 w7 hown7 hg7 hat7))
  go_ret
  have ho7 : OwnB w7 w.heap.size v7 (([169, 20] ++ hs) ++ [135]) := own_b hown7 rfl
  exact fresh_own ho7 (HB5.out.grown hg7 HB5.out.size (fun j hj => (World.ownsRow.lt HO5.out j hj).1))
end Go.Proofs.Ytpfobbhoahnebaa

/-
  The law on parsing. Conditions: none.
-/
namespace Go.Proofs.Ytpfobbhoahnebaa
open Go.RowKit

theorem byt_drewN {w : World} {B : Nat} {v : Value} {xs : List UInt8} (h : Byt w B v xs) (n : Nat) : Byt (w.drewN n) B v xs := h.keep fun _ _ _ => rfl

/-- The blocks of the first i operations' bytes. -/
def Of (L : List Piece) (i : Nat) (k : Nat) : Prop := ∃ q ∈ L.take i, q.at_.ownBlock = some k
theorem Of.next {L : List Piece} {i k : Nat} (h : Of L i k) : Of L (i + 1) k := by
  obtain ⟨q, hq, hk⟩ := h
  exact ⟨q, (List.take_subset_take_left L (Nat.le_succ i)) hq, hk⟩
theorem Of.mem {L : List Piece} {i k : Nat} (h : Of L i k) : ∃ q ∈ L, q.at_.ownBlock = some k := by
  obtain ⟨q, hq, hk⟩ := h
  exact ⟨q, List.mem_of_mem_take hq, hk⟩
theorem of_self {L : List Piece} {i k : Nat} (h : i < L.length) (hk : L[i].at_.ownBlock = some k) : Of L (i + 1) k := ⟨L[i], by rw [List.take_succ_eq_append_getElem h]; exact List.mem_append.2 (.inr (List.mem_singleton.2 rfl)), hk⟩
/-- The i-th one's block is none of the first i ones'. -/
theorem of_apart {w : World} {base : Nat} {v : Value} {L : List Piece} (h : OpsAt w base v L) {i k : Nat} (hi : i < L.length) (hk : L[i].at_.ownBlock = some k) : ¬ Of L i k := by
  rintro ⟨q, hq, hqk⟩
  obtain ⟨j, hj, e⟩ := List.getElem_of_mem hq
  rw [List.length_take] at hj
  rw [List.getElem_take] at e
  have := List.pairwise_iff_getElem.1 h.2.2 j i (by omega) hi (by omega)
  exact this k (by rw [e]; exact hqk) hk
theorem of_row {w : World} {base : Nat} {v : Value} {L : List Piece} (h : OpsAt w base v L) {i k : Nat} (hv : v.ownBlock = some k) : ¬ Of L i k := by
  intro ho
  obtain ⟨q, hq, hk⟩ := ho.mem
  exact own_types h.1 (h.2.1 q hq) (by decide) hv hk
theorem of_low {w : World} {base : Nat} {v : Value} {L : List Piece} (h : OpsAt w base v L) {i k : Nat} (ho : Of L i k) : base ≤ k ∧ k < w.heap.size := by
  obtain ⟨q, hq, hk⟩ := ho.mem
  exact World.ownsRow.lt (h.2.1 q hq) k hk

theorem pair_at {L R : List Piece} (h : L.map Piece.pair = R.map Piece.pair) {i : Nat} (h1 : i < L.length) (h2 : i < R.length) : L[i].code = R[i].code ∧ L[i].data = R[i].data := by
  have : (L.map Piece.pair)[i]'(by simp; exact h1) = (R.map Piece.pair)[i]'(by simp; exact h2) := by simp only [h]
  rw [List.getElem_map, List.getElem_map] at this
  unfold Piece.pair at this
  exact ⟨(Prod.mk.inj this).1, (Prod.mk.inj this).2⟩

set_option maxRecDepth 100000 in
set_option maxHeartbeats 12800000 in
theorem parses_law (B : Nat) (x : Value) (bs : List UInt8) (w : World) (hx : Byt w B x bs) (hB : B ≤ w.heap.size) :
    Calls Try.prog 3 #[x] w fun e w' => e = .returned (.bool true) ∧ Below w.heap.size w w' := by
  obtain ⟨cs, hcs⟩ : ∃ cs, cs = bs.take 2000 := ⟨_, rfl⟩
  have hcl : cs.length ≤ 2000 := by rw [hcs]; exact List.length_take_le _ _
  have HX := Lib.hid hx
  obtain ⟨A, c, rfl⟩ := hx.form
  have HCS := Lib.hid hcs
  clear hx hcs
  go_enter Try.func3, Try.ntmps3
  go_wp2_with fail
  refine (awake_any w).mono ?_
  rintro e w1 ⟨rfl, hb1⟩
  have HB1 := Lib.hid hb1
  clear hb1
  go_wp2_with fail
  refine (shorts_any B _ bs 2000 (by omega) w1 (HX.out.below (HB1.out.mono hB))).mono ?_
  rintro e w2 ⟨⟨y1, rfl, hy1⟩, rfl⟩
  rw [← HCS.out] at hy1
  obtain ⟨A3, c3, rfl⟩ := hy1.form
  have HD := Lib.hid hy1
  clear hy1 HX HCS
  go_wp2_with fail
  refine (spare_any B _ cs w1 HD.out (Nat.le_trans hB HB1.out.size) (by omega)).mono ?_
  rintro e w2 ⟨rfl, hrow, hb2⟩
  obtain ⟨hin, hall⟩ := row_tinted hrow (by omega)
  have HIN := Lib.hid hin
  have HAL := Lib.hid hall
  have HB2 := Lib.hid (HB1.out.trans (hb2.mono HB1.out.size))
  have HD2 := Lib.hid (HD.out.below (hb2.mono (Nat.le_trans hB HB1.out.size)))
  clear hin hall hrow hb2 HD
  go_wp2_with fail
  refine (parse_any _ _ cs w2 HIN.out (by omega)).mono ?_
  intro e w3 hpr
  obtain ⟨Av, cv, L, k, rfl, hops, hb3, hk⟩ := parsed_both hpr
  have HO3 := Lib.hid hops
  have HB3 := Lib.hid (HB2.out.trans (hb3.mono HB2.out.size))
  have HB23 := Lib.hid hb3
  have HD3 := Lib.hid (HD2.out.below (hb3.mono (Nat.le_trans hB HB2.out.size)))
  have HK := Lib.hid hk
  clear hpr hops hb3 hk HD2
  go_wp2_with fail
  refine (rparse_any B _ cs w3 HD3.out (Nat.le_trans hB HB3.out.size) (by omega)).mono ?_
  intro e w4 hpr
  obtain ⟨Ar, cr, R, b, he, hrops, hb4, hkr⟩ := rparsed_both hpr
  have hkb : (k = 4 ∧ b = false ∨ k = 0 ∧ b = true) ∧ L.map Piece.pair = R.map Piece.pair := by
    rcases HK.out with ⟨h1, h2, h3⟩ | ⟨h1, h2⟩
    · rcases hkr with ⟨k1, k2, k3⟩ | ⟨k1, k2⟩
      · exact ⟨.inl ⟨h1, k1⟩, by rw [h3, k3]⟩
      · rw [h2] at k2; cases k2
    · rcases hkr with ⟨k1, k2, k3⟩ | ⟨k1, k2⟩
      · rw [h2] at k2; cases k2
      · rw [h2] at k2
        exact ⟨.inr ⟨h1, k1⟩, Option.some.inj k2⟩
  obtain ⟨hkb, hpair⟩ := hkb
  have hRL : R.length = L.length := by have := congrArg List.length hpair; simpa using this.symm
  rw [hRL] at he hrops
  subst he
  have HPAIR := Lib.hid hpair
  have HRL := Lib.hid hRL
  have HLOW := Lib.hid (fun (i k : Nat) (h : Of L i k) => of_low HO3.out h)
  have HO4 := Lib.hid (HO3.out.below hb4)
  have HR4 := Lib.hid hrops
  have HS34 := Lib.hid hb4.size
  have HB4 := Lib.hid (HB3.out.trans (hb4.mono HB3.out.size))
  have HB24 := Lib.hid (HB23.out.trans (hb4.mono HB23.out.size))
  have HD4 := Lib.hid (HD3.out.below (hb4.mono (Nat.le_trans hB HB3.out.size)))
  have hLl := (OpsR.of_at HO3.out).len
  clear hpr hrops hb4 hkr hpair hRL HK HO3 HD3 HB3 HB23
  have HIN4 := Lib.hid (HIN.out.below HB24.out)
  have HPU := Lib.hid (fun W hh => pushes_any w2.heap.size (.slice (some ⟨w1.heap.size, 0, none⟩) cs.length (cs.length + 9)) cs W hh (by omega))
  have HPR := Lib.hid (fun W hh hs => rpushes_any B (.slice A3 cs.length c3) cs W hh hs (by omega))
  obtain ⟨t, ht⟩ : ∃ t, t = pushesB cs := ⟨_, rfl⟩
  rw [← ht] at HPU HPR
  clear ht
  rcases hkb with ⟨rfl, rfl⟩ | ⟨rfl, rfl⟩
  all_goals
    go_wp2_with fail
    refine (HPU.out _ HIN4.out).mono ?_
    rintro e w5 ⟨rfl, hb5⟩
    have HB5 := Lib.hid hb5
    clear hb5
    go_wp2_with fail
    refine (HPR.out _ (HD4.out.below (HB5.out.mono (Nat.le_trans hB HB4.out.size))) (Nat.le_trans (Nat.le_trans hB HB4.out.size) HB5.out.size)).mono ?_
    rintro e w6 ⟨rfl, hb6⟩
    have HB6 := Lib.hid (HB5.out.trans (hb6.mono HB5.out.size))
    clear hb6 HB5
    have HTL : Hid ((tinted cs).length = cs.length + 9) := Lib.hid (tinted_length cs)
    go_wp2_with fail
    refine (kept_any _ _ _ _ cs w6 (HAL.out.below (HB24.out.trans (HB6.out.mono HB24.out.size))) (HD4.out.below (HB6.out.mono (Nat.le_trans hB HB4.out.size))) (by omega)).mono ?_
    rintro e w7 ⟨rfl, hb7, _⟩
    have HB7 := Lib.hid (HB6.out.trans (hb7.mono HB6.out.size))
    clear hb7 HB6
    have ops7 := HO4.out.below HB7.out
    have rops7 := HR4.out.below HB7.out
    have hro := OpsR.of_at ops7
    have hrr := OpsR.of_rat rops7
    have HOPS := Lib.hid ops7
    have HROPS := Lib.hid rops7
    have HRO := Lib.hid hro
    have HRR := Lib.hid hrr
    have s23 := HB24.out.size
    clear ops7 rops7 hro hrr HO4 HR4 HPU HPR HIN4
    go_wp2_with fail
    go_loopw [64] (fun s wr => ∃ i : Nat, i ≤ L.length ∧ s = .int .i64 (i : Int) ∧ Hid (Turns (Of L i) w7 wr)) (fun s _ => L.length - (intOf s).toNat)
    case atStart => exact ⟨0, Nat.zero_le _, rfl, Lib.hid (Turns.refl _ _)⟩
    case round =>
      obtain ⟨i, hi, rfl, hT⟩ := hrel
      by_cases hlt : i < L.length
      · have hlt2 : i < R.length := by rw [HRL.out]; exact hlt
        obtain ⟨A', c', e0, _, _, h4⟩ := HRO.out
        obtain ⟨e1, e2, e3⟩ := Value.slice.inj e0
        subst e1 e3
        clear e2
        obtain ⟨gb, go_, rfl, hgb, hc⟩ := h4 (by rintro rfl; simp at hlt)
        obtain ⟨A', c', e0', _, _, h5⟩ := HRR.out
        obtain ⟨e1, e2, e3⟩ := Value.slice.inj e0'
        subst e1 e3
        clear e2
        obtain ⟨rb, ro, rfl, hrb, hc2⟩ := h5 (by rintro rfl; simp at hlt2)
        obtain ⟨q0, q1, Ap, cp, hp⟩ := hc i _ (List.getElem?_eq_getElem hlt)
        obtain ⟨r0, r1, Aq, cq, hq⟩ := hc2 i _ (List.getElem?_eq_getElem hlt2)
        obtain ⟨hcode, hdata⟩ := pair_at HPAIR.out hlt hlt2
        have nOf : ∀ j, ¬ Of L j gb := fun j => of_row HOPS.out rfl
        have nOfr : ∀ j k, w3.heap.size ≤ k → ¬ Of L j k := fun j k hk ho => by have := (HLOW.out j k ho).2; omega
        have hrb3 : w3.heap.size ≤ rb := (HROPS.out.1.lt rb rfl).1
        have ownp : OwnB wr w2.heap.size L[i].at_ L[i].data := own_turns (HOPS.out.2.1 _ (List.getElem_mem hlt)) hT.out (fun k hk => of_apart HOPS.out hlt hk)
        have ownq : OwnB wr w3.heap.size R[i].at_ R[i].data := own_turns (HROPS.out.2.1 _ (List.getElem_mem hlt2)) hT.out (fun k hk => nOfr _ k (World.ownsRow.lt (HROPS.out.2.1 _ (List.getElem_mem hlt2)) k hk).1)
        have hself := Lib.hid (fun k (hk : L[i].at_.ownBlock = some k) => of_self hlt hk)
        obtain ⟨⟨pc, pa, pd⟩, hpe⟩ : ∃ q, q = L[i] := ⟨_, rfl⟩
        obtain ⟨⟨qc, qa, qd⟩, hqe⟩ : ∃ q, q = R[i] := ⟨_, rfl⟩
        rw [← hpe] at q0 q1 hp hcode hdata ownp hself
        rw [← hqe] at r0 r1 hq hcode hdata ownq
        dsimp only at q0 q1 hp hcode hdata ownp hself r0 r1 hq ownq
        subst hcode hdata hp hq
        have k0 : wr.cell? ⟨gb, go_ + i * 2, none⟩ = some (.int .u8 (pc.toNat : Int)) := (hT.out.cell (p := ⟨gb, _, none⟩) hgb (nOf i)).trans q0
        have k1 : wr.cell? ⟨gb, go_ + i * 2 + 1, none⟩ = some (.slice Ap pd.length cp) := (hT.out.cell (p := ⟨gb, _, none⟩) hgb (nOf i)).trans q1
        have k2 : wr.cell? ⟨rb, ro + i * 2, none⟩ = some (.int .u8 (pc.toNat : Int)) := (hT.out.cell (p := ⟨rb, _, none⟩) hrb (nOfr i rb hrb3)).trans r0
        have k3 : wr.cell? ⟨rb, ro + i * 2 + 1, none⟩ = some (.slice Aq pd.length cq) := (hT.out.cell (p := ⟨rb, _, none⟩) hrb (nOfr i rb hrb3)).trans r1
        have HEQ := Lib.hid (fun n => (equal_yes _ _ _ _ pd pd (wr.drewN n) (byt_drewN ownp.byt n) (byt_drewN ownq.byt n) rfl).mono (R' := fun e w' => e = .returned (.bool true) ∧ w' = wr.drewN n) (fun e w' ⟨h1, h2⟩ => ⟨h1, h2.symm⟩))
        have HP := Lib.hid ownp
        have HQ1 := Lib.hid q1
        have HNOF := Lib.hid nOf
        have hd : decide (i < L.length) = true := decide_eq_true hlt
        have hcne : ((pc.toNat : Int) != (pc.toNat : Int)) = false := by simp
        clear hc hc2 h4 h5 e0 e0' q0 q1 r0 r1 nOf nOfr ownp ownq hpe hqe hrb3
        go_wp2_with fail
        go_quiet ((go_at_call 17; exact Calls.quiet_of_same (HEQ.out _)))
        obtain ⟨wo, hwo⟩ : ∃ wo, wo = wr.drewN nq := ⟨_, rfl⟩
        rw [← hwo]
        have TO : Turns (Of L i) w7 wo := by rw [hwo]; exact hT.out.drewN nq
        have ko1 : wo.cell? ⟨gb, go_ + i * 2 + 1, none⟩ = some (.slice Ap pd.length cp) := by rw [hwo]; exact k1
        have HPO := Lib.hid (by rw [hwo]; exact HP.out : OwnB wo w2.heap.size (.slice Ap pd.length cp) pd)
        have HTO := Lib.hid (TO.mono (fun k _ h => h.next))
        have hpl := HPO.out.byt.len
        unfold maxLen at hpl
        clear k0 k1 k2 k3 HEQ HP TO hwo
        go_wp2_with fail
        clear ko1
        go_loopw [98] (fun s wx => ∃ (k : Nat) (ys : List UInt8), k ≤ pd.length ∧ s = .int .i64 (k : Int) ∧ Hid (ys.length = pd.length) ∧ Hid (OwnB wx w2.heap.size (.slice Ap pd.length cp) ys) ∧ Hid (Turns (Of L (i + 1)) w7 wx)) (fun s _ => pd.length - (intOf s).toNat)
        case atStart => exact ⟨0, pd, Nat.zero_le _, rfl, Lib.hid rfl, HPO, HTO⟩
        case round =>
          obtain ⟨k, ys, hk, rfl, hyl, hown, hTx⟩ := hrel
          by_cases hkl : k < pd.length
          · have hky : k < ys.length := by rw [hyl.out]; exact hkl
            have ho2 := hown.out
            rw [← hyl.out] at ho2
            obtain ⟨gd, cd, e, g1, g2, g3⟩ := ho2.block (by omega)
            obtain ⟨e1, e2, e3⟩ := Value.slice.inj e
            subst e1 e3
            clear e2 e
            have hcd := ho2.cell (List.getElem?_eq_getElem hky)
            have hfr := ho2.free k
            obtain ⟨z, hz⟩ : ∃ z, z = ys[k] := ⟨_, rfl⟩
            rw [← hz] at hcd
            have kr1 : wr.cell? ⟨gb, go_ + i * 2 + 1, none⟩ = some (.slice (some ⟨gd, 0, none⟩) pd.length cp) := (hTx.out.cell (p := ⟨gb, _, none⟩) hgb (HNOF.out (i + 1))).trans HQ1.out
            have hcd2 : wr.cell? ⟨gd, k, none⟩ = some (.int .u8 (z.toNat : Int)) := hcd
            have hxor := xor255 z
            have hset := ho2.set k (UInt8.ofNat (255 - z.toNat))
            have hbv : bv (UInt8.ofNat (255 - z.toNat)) = .int .u8 ((255 - z.toNat : Nat) : Int) := by unfold bv; rw [UInt8.toNat_ofNat', Nat.mod_eq_of_lt (by omega)]
            rw [hbv] at hset
            rw [hyl.out] at hset
            have HSET := Lib.hid hset
            have hz256 := z.toNat_lt
            have hsub : ((255 - z.toNat : Nat) : Int) = 255 - (z.toNat : Int) := by omega
            rw [hsub] at hxor HSET
            have HTY := Lib.hid (fun u => hTx.out.setCell (p := ⟨gd, k, none⟩) (fun _ => hself.out gd rfl) u)
            have hdk : decide (k < pd.length) = true := decide_eq_true hkl
            clear hcd hset hbv ho2 hz hsub g1 g2 g3
            go_wp2_with fail
            go_roundw
            case rel => exact ⟨k + 1, ys.set k (UInt8.ofNat (255 - z.toNat)), by omega, by go_num, Lib.hid (by rw [List.length_set]; exact hyl.out), HSET, Lib.hid (HTY.out _)⟩
            case measure => simp [intOf]; omega
          · obtain rfl : k = pd.length := by omega
            go_wp2_with fail
            go_roundw
            case rel => exact ⟨i + 1, by omega, by go_num, hTx⟩
            case measure => simp [intOf]; omega
      · obtain rfl : i = L.length := by omega
        have hal := (HAL.out.below (HB24.out.trans (HB7.out.mono HB24.out.size))).keep (w' := wr) (fun b o hb => hT.out.cell (p := ⟨b, o, none⟩) (by show b < _; have := HB24.out.size; have := HB7.out.size; omega) (fun ho => by have := (HLOW.out _ b ho).1; omega))
        have hds := (HD4.out.below (HB7.out.mono (Nat.le_trans hB HB4.out.size))).keep (w' := wr) (fun b o hb => hT.out.cell (p := ⟨b, o, none⟩) (by show b < _; have := HB4.out.size; have := HB7.out.size; omega) (fun ho => by have := (HLOW.out _ b ho).1; have := HB2.out.size; omega))
        have HA9 := Lib.hid hal
        have HD9 := Lib.hid hds
        have HB9 := Lib.hid ((HB4.out.trans (HB7.out.mono HB4.out.size)).trans (hT.out.below_of (by have := HB4.out.size; have := HB7.out.size; omega) (fun k hk ho => by have := (HLOW.out _ k ho).1; have := HB2.out.size; omega)))
        clear hal hds
        go_wp2_with fail
        refine (kept_any _ _ _ _ cs wr HA9.out HD9.out (by omega)).mono ?_
        rintro e w9 ⟨rfl, hb9, _⟩
        have HB10 := Lib.hid (HB9.out.trans (hb9.mono HB9.out.size))
        clear hb9
        go_wp2_with fail
        go_ret
        exact ⟨rfl, HB10.out⟩
end Go.Proofs.Ytpfobbhoahnebaa

/-
  The reference's Same; script.Program; PayWitness. Conditions: sizes within the reach.
-/
namespace Go.Proofs.Ytpfobbhoahnebaa
open Go.RowKit

theorem parts_at {L M : List (Value × List UInt8)} (h : L.map (·.2) = M.map (·.2)) {i : Nat} (h1 : i < L.length) (h2 : i < M.length) : L[i].2 = M[i].2 := by
  have : (L.map (·.2))[i]'(by simp; exact h1) = (M.map (·.2))[i]'(by simp; exact h2) := by simp only [h]
  rw [List.getElem_map, List.getElem_map] at this
  exact this

set_option maxRecDepth 100000 in
set_option maxHeartbeats 3200000 in
theorem same_yes (B B' : Nat) (x y : Value) (L M : List (Value × List UInt8)) (w : World) (hx : BagR w B x L) (hy : BagR w B' y M) (h : L.map (·.2) = M.map (·.2)) :
    Calls Try.prog 28 #[x, y] w fun e w' => e = .returned (.bool true) ∧ Below w.heap.size w w' := by
  have hlen := hx.len
  have hML : M.length = L.length := by have := congrArg List.length h; simpa using this.symm
  obtain ⟨A, c, rfl⟩ := hx.form
  obtain ⟨A2, c2, rfl⟩ := hy.form
  have HX := Lib.hid hx
  have HY := Lib.hid hy
  have HH := Lib.hid h
  have HML := Lib.hid hML
  rw [hML]
  clear hx hy h hML
  go_enter Try.func28, Try.ntmps28
  go_wp2_with fail
  go_loopw [5] (fun s wr => ∃ i : Nat, i ≤ L.length ∧ s = .int .i64 (i : Int) ∧ ∃ k, wr = w.drewN k) (fun s _ => L.length - (intOf s).toNat)
  case atStart => exact ⟨0, Nat.zero_le _, rfl, 0, rfl⟩
  case round =>
    obtain ⟨i, hi, rfl, k, rfl⟩ := hrel
    by_cases hlt : i < L.length
    · have hlt2 : i < M.length := by rw [HML.out]; exact hlt
      obtain ⟨⟨A', c', e0, _, _, h4⟩, h5⟩ := HX.out
      obtain ⟨e1, e2, e3⟩ := Value.slice.inj e0
      subst e1 e3
      clear e2
      obtain ⟨b, o, rfl, hb, hc⟩ := h4 (by rintro rfl; simp at hlt)
      obtain ⟨⟨A', c', e0', _, _, h6⟩, h7⟩ := HY.out
      obtain ⟨e1, e2, e3⟩ := Value.slice.inj e0'
      subst e1 e3
      clear e2
      obtain ⟨b2, o2, rfl, hb2, hc2⟩ := h6 (by rintro rfl; simp at hlt2)
      have q0 := hc i _ (List.getElem?_eq_getElem hlt)
      have q1 := hc2 i _ (List.getElem?_eq_getElem hlt2)
      have y0 := h5 _ (List.getElem_mem hlt)
      have y1 := h7 _ (List.getElem_mem hlt2)
      have he := parts_at HH.out hlt hlt2
      obtain ⟨Ap, cp, hp⟩ := y0.form
      obtain ⟨Aq, cq, hq⟩ := y1.form
      rw [← he] at y1 hq
      obtain ⟨W, hW⟩ : ∃ W, W = w.drewN k := ⟨_, rfl⟩
      have HEQ := Lib.hid (fun n => (equal_yes _ _ _ _ L[i].2 L[i].2 (W.drewN n) (byt_drewN (by rw [hW]; exact byt_drewN y0 k) n) (byt_drewN (by rw [hW]; exact byt_drewN y1 k) n) rfl).mono (R' := fun e w' => e = .returned (.bool true) ∧ w' = W.drewN n) (fun e w' ⟨h1, h2⟩ => ⟨h1, h2.symm⟩))
      rw [hp, hq] at HEQ
      rw [hp] at q0
      rw [hq] at q1
      obtain ⟨m, hm⟩ : ∃ m, m = L[i].2.length := ⟨_, rfl⟩
      rw [← hm] at HEQ q0 q1
      have k0 : W.cell? ⟨b, o + i, none⟩ = some (.slice Ap m cp) := by rw [hW]; exact q0
      have k1 : W.cell? ⟨b2, o2 + i, none⟩ = some (.slice Aq m cq) := by rw [hW]; exact q1
      have HW := Lib.hid hW
      rw [← hW]
      clear hc hc2 h4 h5 h6 h7 e0 e0' q0 q1 y0 y1 he hp hq hm hW
      go_wp2_with fail
      go_quiet ((go_at_call 17; exact Calls.quiet_of_same (HEQ.out _)))
      go_wp2_with fail
      go_roundw
      case rel => exact ⟨i + 1, by omega, by go_num, _, by rw [HW.out]; first | rfl | exact World.drewN_drewN _ _ _⟩
      case measure => simp [intOf]; omega
    · go_wp2_with fail
      go_ret
      exact ⟨rfl, ⟨rfl, rfl, rfl, Nat.le_refl _, fun _ _ => rfl⟩⟩

/-- The version and the push of a witness program. -/
def progB (xs : List UInt8) : Option (Int × List UInt8) :=
  match xs with
  | a :: b :: ys => if ys.length < 2 ∨ 40 < ys.length ∨ b.toNat ≠ ys.length ∨ smallB a < 0 then none else some (smallB a, ys)
  | _ => none
def ProgV (w : World) (xs : List UInt8) (e : Ending) (w' : World) : Prop :=
  match progB xs with
  | none => e = .returned (.tuple #[.int .i64 0, .slice none 0 0, .bool false]) ∧ Below w.heap.size w w'
  | some p => ∃ v, e = .returned (.tuple #[.int .i64 p.1, v, .bool true]) ∧ OwnB w' w.heap.size v p.2 ∧ Below w.heap.size w w'
theorem smallB_bd (c : UInt8) : -1 ≤ smallB c ∧ smallB c ≤ 16 := by
  have := c.toNat_lt
  unfold smallB
  split
  · omega
  split <;> omega

set_option maxRecDepth 100000 in
set_option maxHeartbeats 3200000 in
theorem prog_no (B : Nat) (x : Value) (a b : UInt8) (ys : List UInt8) (w : World) (hx : Byt w B x (a :: b :: ys)) (h : b.toNat ≠ ys.length) (h2 : 2 ≤ ys.length) (h40 : ys.length ≤ 40) :
    Calls Try.prog 29 #[x] w fun e w' => e = .returned (.tuple #[.int .i64 0, .slice none 0 0, .bool false]) ∧ w = w' := by
  obtain ⟨A, c, rfl, h1, hm, _, h4⟩ := hx
  obtain ⟨gb, o, rfl, hb, hc⟩ := h4 (by simp)
  have hcell : w.cell? ⟨gb, o + 1, none⟩ = some (.int .u8 (b.toNat : Int)) := hc 1 b rfl
  obtain ⟨n, hn⟩ : ∃ n, n = ys.length := ⟨_, rfl⟩
  have e : (a :: b :: ys).length = n + 2 := by simp [hn]
  rw [e] at h1 ⊢
  rw [← hn] at h h2 h40
  unfold maxLen at hm
  have d1 : decide ((n : Int) + 2 < 4) = false := decide_eq_false (by omega)
  have d2 : decide ((42 : Int) < (n : Int) + 2) = false := decide_eq_false (by omega)
  have d3 : ((b.toNat : Int) != (n : Int)) = true := by simp only [bne_iff_ne, ne_eq]; omega
  have hb256 := b.toNat_lt
  clear hc h4 e hn h
  go_enter Try.func29, Try.ntmps29
  go_wp2_with fail
  go_ret3
  exact ⟨rfl, rfl⟩
end Go.Proofs.Ytpfobbhoahnebaa
