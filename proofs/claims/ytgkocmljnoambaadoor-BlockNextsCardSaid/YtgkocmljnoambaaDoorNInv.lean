/-
  block.invert: 2^256 divided by a number, bit by bit. Conditions: the number is 2 to 2^255.
-/
import Derived.Test.YtgkocmljnoambaaDoorNSubt
import Derived.OrdersHeld
namespace Go.Proofs.YtgkocmljnoambaaDoor
open Go.RowKit

theorem op_store_irow {op : Oper} {a : Act} {w : World} {K : Act → World → Prop} {Q : Exit → Act → World → Prop} (ty : TypeId) (x y : Operand) (ho : op.op = .store ty x y)
    {g : Nat} {t : TypeId} {k : IntKind} {xs ys : List Int} (hx : a.eval x = .pointer (some ⟨g, 0, none⟩)) (hy : a.eval y = .agg (ys.map (Value.int k)).toArray) (h : IRow w g t k xs) (hi : (Tryd.prog.info? ty).map (·.size) = some ys.length) (hl : xs.length = ys.length)
    (hn : K (a.put op.dst undef) (w.setRow g (ys.map (Value.int k)).toArray)) : op.wp Tryd.prog a w K Q := by
  unfold Oper.wp execOp
  simp only [ho, hx, hy, storeAt_irow h hi hl, Sem.run_bind, Sem.run_pure, Result.andThen_ok]
  exact hn

/-- What the loop of invert keeps. -/
structure InvAt (w : World) (G d q r : Nat) (wr : World) : Prop where
  rd : IRow wr w.heap.size 24 .u8 (num d)
  rz : IRow wr (w.heap.size + 1) 24 .u8 (num 0)
  rg : IRow wr G 24 .u8 (num q)
  rr : IRow wr (G + 1) 24 .u8 (num r)
  bel : Below w.heap.size w wr
theorem InvAt.drew {w wr : World} {G d q r : Nat} (h : InvAt w G d q r wr) : InvAt w G d q r wr.drew := ⟨h.rd.drew, h.rz.drew, h.rg.drew, h.rr.drew, below_drewN h.bel 1⟩
theorem InvAt.below {w wr w' : World} {G d q r : Nat} (h : InvAt w G d q r wr) (hb : Below wr.heap.size wr w') : InvAt w G d q r w' :=
  ⟨h.rd.below hb h.rd.lt, h.rz.below hb h.rz.lt, h.rg.below hb h.rg.lt, h.rr.below hb h.rr.lt, h.bel.trans (hb.mono h.bel.size)⟩
theorem InvAt.setG {w wr : World} {G d q r : Nat} (h : InvAt w G d q r wr) (hG : w.heap.size + 2 ≤ G) (x : Nat) : InvAt w G d x r (wr.setRow G (numA x)) :=
  ⟨h.rd.setRow (by omega) _, h.rz.setRow (by omega) _, setRow_irow h.rg, h.rr.setRow (by omega) _, below_setRow h.bel (by omega) _⟩
theorem InvAt.setR {w wr : World} {G d q r : Nat} (h : InvAt w G d q r wr) (hG : w.heap.size + 2 ≤ G) (x : Nat) : InvAt w G d q x (wr.setRow (G + 1) (numA x)) :=
  ⟨h.rd.setRow (by omega) _, h.rz.setRow (by omega) _, h.rg.setRow (by omega) _, setRow_irow h.rr, below_setRow h.bel (by omega) _⟩
theorem pow_div_next {d k : Nat} (hd : 0 < d) :
    2 ^ (k + 1) / d = 2 * (2 ^ k / d) + (if d ≤ 2 * (2 ^ k % d) then 1 else 0) ∧ 2 ^ (k + 1) % d = 2 * (2 ^ k % d) - (if d ≤ 2 * (2 ^ k % d) then d else 0) := by
  have hr := Nat.mod_lt (2 ^ k) hd
  have e : 2 ^ (k + 1) = d * (2 * (2 ^ k / d)) + 2 * (2 ^ k % d) := by
    have h1 := Nat.div_add_mod (2 ^ k) d
    have h2 : d * (2 * (2 ^ k / d)) = 2 * (d * (2 ^ k / d)) := Nat.mul_left_comm ..
    rw [Nat.pow_succ]
    omega
  rw [e, Nat.mul_add_div hd, Nat.mul_add_mod]
  generalize 2 ^ k % d = r at hr ⊢
  by_cases h : d ≤ 2 * r
  · rw [if_pos h, if_pos h]
    have h3 : 2 * r = d * 1 + (2 * r - d) := by omega
    have h4 : 2 * r / d = 1 := by rw [h3, Nat.mul_add_div hd, Nat.div_eq_of_lt (by omega)]
    have h5 : 2 * r % d = 2 * r - d := by
      rw [h3, Nat.mul_add_mod, Nat.mod_eq_of_lt (by omega)]
      omega
    exact ⟨by rw [h4], h5⟩
  · have h4 : 2 * r / d = 0 := Nat.div_eq_of_lt (by omega)
    have h5 : 2 * r % d = 2 * r := Nat.mod_eq_of_lt (by omega)
    rw [if_neg h, if_neg h, h4, h5]
    exact ⟨rfl, rfl⟩
theorem two_top : 2 ^ 256 = top := by unfold top; rw [show (256 : Nat) ^ 32 = (2 ^ 8) ^ 32 from rfl, ← Nat.pow_mul]

def findRegion (n : Nat) : Code → Option Code
  | .seq a b => match findRegion n a with
    | some c => some c
    | none => findRegion n b
  | .region k ops b => if k = n then some (.region k ops b) else none
  | .block _ c => findRegion n c
  | .loop c => findRegion n c
  | .scope c => findRegion n c
  | .cond _ a b => match findRegion n a with
    | some c => some c
    | none => findRegion n b
  | _ => none
noncomputable def regOf (n : Nat) (f : Func) : Code := (f.body.bind (findRegion n)).getD .skip

def oI4_0 : Oper := { dst := some 9, op := Go.Op.load 24 (Go.Operand.tmp 3), type := 24, pos := "work.go:83", after := #[], guard := none }
def oI4_1 : Oper := { dst := some 10, op := Go.Op.load 24 (Go.Operand.tmp 3), type := 24, pos := "work.go:83", after := #[], guard := none }
def oI4_2 : Oper := { dst := some 11, op := Go.Op.call { callee := Go.Callee.value (Go.Operand.func 15), args := #[Go.Operand.tmp 9, Go.Operand.tmp 10], argTypes := #[24, 24] }, type := 24, pos := "work.go:83", after := #[{ on := 0, ground := Go.Ground.data }, { on := 1, ground := Go.Ground.data }], guard := none }
def oI4_3 : Oper := { dst := some 12, op := Go.Op.load 24 (Go.Operand.tmp 4), type := 24, pos := "work.go:83", after := #[], guard := none }
def oI4_4 : Oper := { dst := some 13, op := Go.Op.load 24 (Go.Operand.tmp 4), type := 24, pos := "work.go:83", after := #[], guard := none }
def oI4_5 : Oper := { dst := some 14, op := Go.Op.call { callee := Go.Callee.value (Go.Operand.func 15), args := #[Go.Operand.tmp 12, Go.Operand.tmp 13], argTypes := #[24, 24] }, type := 24, pos := "work.go:83", after := #[{ on := 3, ground := Go.Ground.data }, { on := 4, ground := Go.Ground.data }, { on := 2, ground := Go.Ground.chain }], guard := none }
def oI4_6 : Oper := { dst := none, op := Go.Op.store 24 (Go.Operand.tmp 3) (Go.Operand.tmp 11), type := 0, pos := "work.go:83", after := #[{ on := 2, ground := Go.Ground.data }, { on := 5, ground := Go.Ground.chain }, { on := 0, ground := Go.Ground.phase }, { on := 1, ground := Go.Ground.phase }, { on := 2, ground := Go.Ground.phase }, { on := 3, ground := Go.Ground.textOnly Go.Departure.lateStores }, { on := 4, ground := Go.Ground.textOnly Go.Departure.lateStores }, { on := 5, ground := Go.Ground.textOnly Go.Departure.lateStoresUnsure }], guard := none }
def oI4_7 : Oper := { dst := none, op := Go.Op.store 24 (Go.Operand.tmp 4) (Go.Operand.tmp 14), type := 0, pos := "work.go:83", after := #[{ on := 5, ground := Go.Ground.data }, { on := 6, ground := Go.Ground.chain }, { on := 0, ground := Go.Ground.phase }, { on := 1, ground := Go.Ground.phase }, { on := 2, ground := Go.Ground.phase }, { on := 3, ground := Go.Ground.phase }, { on := 4, ground := Go.Ground.phase }, { on := 5, ground := Go.Ground.phase }, { on := 6, ground := Go.Ground.phase }], guard := none }

set_option maxRecDepth 1000000 in
set_option maxHeartbeats 25600000 in
theorem inv4_any {Q : Exit → Act → World → Prop} (G d q r q2 r2 : Nat) (w wc : World) (hG : w.heap.size + 2 ≤ G) (hI : InvAt w G d q r wc) (c1 : ∀ W, Calls Tryd.prog 15 #[.agg (numA q), .agg (numA q)] W fun e w' => e = .returned (.agg (numA q2)) ∧ Below W.heap.size W w') (c2 : ∀ W, Calls Tryd.prog 15 #[.agg (numA r), .agg (numA r)] W fun e w' => e = .returned (.agg (numA r2)) ∧ Below W.heap.size W w') (u0 u2 u5 u6 u7 u8 u9 u10 u11 u12 u13 u14 u15 u16 u17 u18 u19 u20 u21 u22 u23 u24 u25 u26 : Value)
    (hQ : ∀ (v9 v10 v11 v12 v13 v14 : Value) (w' : World), InvAt w G d q2 r2 w' → Q .normal ⟨#[u0, .pointer (some ⟨w.heap.size, 0, none⟩), u2, .pointer (some ⟨G, 0, none⟩), .pointer (some ⟨G + 1, 0, none⟩), u5, u6, u7, u8, v9, v10, v11, v12, v13, v14, u15, u16, u17, u18, u19, u20, u21, u22, u23, u24, u25, u26], []⟩ w') :
    Code.wp Tryd.prog (regOf 4 Tryd.f26) Q ⟨#[u0, .pointer (some ⟨w.heap.size, 0, none⟩), u2, .pointer (some ⟨G, 0, none⟩), .pointer (some ⟨G + 1, 0, none⟩), u5, u6, u7, u8, u9, u10, u11, u12, u13, u14, u15, u16, u17, u18, u19, u20, u21, u22, u23, u24, u25, u26], []⟩ wc := by
  conv => arg 2; whnf
  have HQ := Lib.hid hQ
  have HI := Lib.hid hI.drew
  have HG := Lib.hid hG
  have HA1 := Lib.hid c1
  have HA2 := Lib.hid c2
  clear c1 c2
  clear hQ hI hG
  refine wp_region_held_drew (S := AnyW) (by kernel_rfl) ?_ (fun hHeld => ?_)
  · exact anyW _
  refine wpAnyH_ready (rs := [0, 1, 3, 4]) (by kernel_rfl) (by simp) ?_
  refine AllReadyH.cons (o := oI4_0) rfl (fun K hK => ?_) (AllReadyH.cons (o := oI4_1) rfl (fun K hK => ?_) (AllReadyH.cons (o := oI4_3) rfl (fun K hK => ?_) (AllReadyH.cons (o := oI4_4) rfl (fun K hK => ?_) (AllReadyH.nil))))
  · as_aux_lemma =>
    dsimp only [oI4_0]
    simp only [Region.wanted, if_true]
    refine wp_load_mid 24 (.tmp 3) rfl G 0 rfl ((num q).map (Value.int .u8)) _ HI.out.rg.range Tryd.underlying24 rfl (by rw [List.length_map]; exact size_numN q) ?_
    refine hK.out _ _ ?_ (fun hHeld => ?_)
    · exact anyW _
    clear hK K
    try simp only [Act.put, List.setIfInBounds_toArray, List.set_cons_zero, List.set_cons_succ]
    refine wpAnyH_ready (rs := [1, 3, 4]) (by kernel_rfl) (by simp) ?_
    refine AllReadyH.cons (o := oI4_1) rfl (fun K hK => ?_) (AllReadyH.cons (o := oI4_3) rfl (fun K hK => ?_) (AllReadyH.cons (o := oI4_4) rfl (fun K hK => ?_) (AllReadyH.nil)))
    · as_aux_lemma =>
      dsimp only [oI4_1]
      simp only [Region.wanted, if_true]
      refine wp_load_mid 24 (.tmp 3) rfl G 0 rfl ((num q).map (Value.int .u8)) _ HI.out.rg.range Tryd.underlying24 rfl (by rw [List.length_map]; exact size_numN q) ?_
      refine hK.out _ _ ?_ (fun hHeld => ?_)
      · exact anyW _
      clear hK K
      try simp only [Act.put, List.setIfInBounds_toArray, List.set_cons_zero, List.set_cons_succ]
      refine wpAnyH_ready (rs := [2, 3, 4]) (by kernel_rfl) (by simp) ?_
      refine AllReadyH.cons (o := oI4_2) rfl (fun K hK => ?_) (AllReadyH.cons (o := oI4_3) rfl (fun K hK => ?_) (AllReadyH.cons (o := oI4_4) rfl (fun K hK => ?_) (AllReadyH.nil)))
      · as_aux_lemma =>
        dsimp only [oI4_2]
        go_simp
        refine (HA1.out _).mono ?_
        rintro e w4 ⟨rfl, hb4⟩
        have HI := Lib.hid (HI.out.below hb4)
        clear hb4
        go_simp
        refine hK.out _ _ ?_ (fun hHeld => ?_)
        · exact anyW _
        clear hK K
        try simp only [Act.put, List.setIfInBounds_toArray, List.set_cons_zero, List.set_cons_succ]
        refine wpAnyH_ready (rs := [3, 4]) (by kernel_rfl) (by simp) ?_
        refine AllReadyH.cons (o := oI4_3) rfl (fun K hK => ?_) (AllReadyH.cons (o := oI4_4) rfl (fun K hK => ?_) (AllReadyH.nil))
        · as_aux_lemma =>
          dsimp only [oI4_3]
          simp only [Region.wanted, if_true]
          refine wp_load_mid 24 (.tmp 4) rfl (G + 1) 0 rfl ((num r).map (Value.int .u8)) _ HI.out.rr.range Tryd.underlying24 rfl (by rw [List.length_map]; exact size_numN r) ?_
          refine hK.out _ _ ?_ (fun hHeld => ?_)
          · exact anyW _
          clear hK K
          try simp only [Act.put, List.setIfInBounds_toArray, List.set_cons_zero, List.set_cons_succ]
          refine wpAnyH_ready (rs := [4]) (by kernel_rfl) (by simp) ?_
          refine AllReadyH.cons (o := oI4_4) rfl (fun K hK => ?_) (AllReadyH.nil)
          dsimp only [oI4_4]
          simp only [Region.wanted, if_true]
          refine wp_load_mid 24 (.tmp 4) rfl (G + 1) 0 rfl ((num r).map (Value.int .u8)) _ HI.out.rr.range Tryd.underlying24 rfl (by rw [List.length_map]; exact size_numN r) ?_
          refine hK.out _ _ ?_ (fun hHeld => ?_)
          · exact anyW _
          clear hK K
          try simp only [Act.put, List.setIfInBounds_toArray, List.set_cons_zero, List.set_cons_succ]
          refine wpAnyH_ready (rs := [5]) (by kernel_rfl) (by simp) ?_
          refine AllReadyH.cons (o := oI4_5) rfl (fun K hK => ?_) (AllReadyH.nil)
          dsimp only [oI4_5]
          go_simp
          refine (HA2.out _).mono ?_
          rintro e w4 ⟨rfl, hb4⟩
          have HI := Lib.hid (HI.out.below hb4)
          clear hb4
          go_simp
          refine hK.out _ _ ?_ (fun hHeld => ?_)
          · exact anyW _
          clear hK K
          try simp only [Act.put, List.setIfInBounds_toArray, List.set_cons_zero, List.set_cons_succ]
          refine wpAnyH_ready (rs := [6]) (by kernel_rfl) (by simp) ?_
          refine AllReadyH.cons (o := oI4_6) rfl (fun K hK => ?_) (AllReadyH.nil)
          dsimp only [oI4_6]
          simp only [Region.wanted, if_true]
          refine op_store_irow 24 (.tmp 3) (.tmp 11) rfl (g := G) (t := 24) (k := .u8) (xs := num q) (ys := num q2) rfl rfl HI.out.rg (size_numN q2) (same_length _ _) ?_
          have HI := Lib.hid (HI.out.setG HG.out q2)
          refine hK.out _ _ ?_ (fun hHeld => ?_)
          · exact anyW _
          clear hK K
          try simp only [Act.put]
          refine wpAnyH_ready (rs := [7]) (by kernel_rfl) (by simp) ?_
          refine AllReadyH.cons (o := oI4_7) rfl (fun K hK => ?_) (AllReadyH.nil)
          dsimp only [oI4_7]
          simp only [Region.wanted, if_true]
          refine op_store_irow 24 (.tmp 4) (.tmp 14) rfl (g := G + 1) (t := 24) (k := .u8) (xs := num r) (ys := num r2) rfl rfl HI.out.rr (size_numN r2) (same_length _ _) ?_
          have HI := Lib.hid (HI.out.setR HG.out r2)
          refine hK.out _ _ ?_ (fun hHeld => ?_)
          · exact anyW _
          clear hK K
          try simp only [Act.put]
          refine wpAnyH_done (by kernel_rfl) ?_ _
          exact HQ.out _ _ _ _ _ _ _ HI.out
        · as_aux_lemma =>
          dsimp only [oI4_4]
          simp only [Region.wanted, if_true]
          refine wp_load_mid 24 (.tmp 4) rfl (G + 1) 0 rfl ((num r).map (Value.int .u8)) _ HI.out.rr.range Tryd.underlying24 rfl (by rw [List.length_map]; exact size_numN r) ?_
          refine hK.out _ _ ?_ (fun hHeld => ?_)
          · exact anyW _
          clear hK K
          try simp only [Act.put, List.setIfInBounds_toArray, List.set_cons_zero, List.set_cons_succ]
          refine wpAnyH_ready (rs := [3]) (by kernel_rfl) (by simp) ?_
          refine AllReadyH.cons (o := oI4_3) rfl (fun K hK => ?_) (AllReadyH.nil)
          dsimp only [oI4_3]
          simp only [Region.wanted, if_true]
          refine wp_load_mid 24 (.tmp 4) rfl (G + 1) 0 rfl ((num r).map (Value.int .u8)) _ HI.out.rr.range Tryd.underlying24 rfl (by rw [List.length_map]; exact size_numN r) ?_
          refine hK.out _ _ ?_ (fun hHeld => ?_)
          · exact anyW _
          clear hK K
          try simp only [Act.put, List.setIfInBounds_toArray, List.set_cons_zero, List.set_cons_succ]
          refine wpAnyH_ready (rs := [5]) (by kernel_rfl) (by simp) ?_
          refine AllReadyH.cons (o := oI4_5) rfl (fun K hK => ?_) (AllReadyH.nil)
          dsimp only [oI4_5]
          go_simp
          refine (HA2.out _).mono ?_
          rintro e w4 ⟨rfl, hb4⟩
          have HI := Lib.hid (HI.out.below hb4)
          clear hb4
          go_simp
          refine hK.out _ _ ?_ (fun hHeld => ?_)
          · exact anyW _
          clear hK K
          try simp only [Act.put, List.setIfInBounds_toArray, List.set_cons_zero, List.set_cons_succ]
          refine wpAnyH_ready (rs := [6]) (by kernel_rfl) (by simp) ?_
          refine AllReadyH.cons (o := oI4_6) rfl (fun K hK => ?_) (AllReadyH.nil)
          dsimp only [oI4_6]
          simp only [Region.wanted, if_true]
          refine op_store_irow 24 (.tmp 3) (.tmp 11) rfl (g := G) (t := 24) (k := .u8) (xs := num q) (ys := num q2) rfl rfl HI.out.rg (size_numN q2) (same_length _ _) ?_
          have HI := Lib.hid (HI.out.setG HG.out q2)
          refine hK.out _ _ ?_ (fun hHeld => ?_)
          · exact anyW _
          clear hK K
          try simp only [Act.put]
          refine wpAnyH_ready (rs := [7]) (by kernel_rfl) (by simp) ?_
          refine AllReadyH.cons (o := oI4_7) rfl (fun K hK => ?_) (AllReadyH.nil)
          dsimp only [oI4_7]
          simp only [Region.wanted, if_true]
          refine op_store_irow 24 (.tmp 4) (.tmp 14) rfl (g := G + 1) (t := 24) (k := .u8) (xs := num r) (ys := num r2) rfl rfl HI.out.rr (size_numN r2) (same_length _ _) ?_
          have HI := Lib.hid (HI.out.setR HG.out r2)
          refine hK.out _ _ ?_ (fun hHeld => ?_)
          · exact anyW _
          clear hK K
          try simp only [Act.put]
          refine wpAnyH_done (by kernel_rfl) ?_ _
          exact HQ.out _ _ _ _ _ _ _ HI.out
      · as_aux_lemma =>
        dsimp only [oI4_3]
        simp only [Region.wanted, if_true]
        refine wp_load_mid 24 (.tmp 4) rfl (G + 1) 0 rfl ((num r).map (Value.int .u8)) _ HI.out.rr.range Tryd.underlying24 rfl (by rw [List.length_map]; exact size_numN r) ?_
        refine hK.out _ _ ?_ (fun hHeld => ?_)
        · exact anyW _
        clear hK K
        try simp only [Act.put, List.setIfInBounds_toArray, List.set_cons_zero, List.set_cons_succ]
        refine wpAnyH_ready (rs := [2, 4]) (by kernel_rfl) (by simp) ?_
        refine AllReadyH.cons (o := oI4_2) rfl (fun K hK => ?_) (AllReadyH.cons (o := oI4_4) rfl (fun K hK => ?_) (AllReadyH.nil))
        · as_aux_lemma =>
          dsimp only [oI4_2]
          go_simp
          refine (HA1.out _).mono ?_
          rintro e w4 ⟨rfl, hb4⟩
          have HI := Lib.hid (HI.out.below hb4)
          clear hb4
          go_simp
          refine hK.out _ _ ?_ (fun hHeld => ?_)
          · exact anyW _
          clear hK K
          try simp only [Act.put, List.setIfInBounds_toArray, List.set_cons_zero, List.set_cons_succ]
          refine wpAnyH_ready (rs := [4]) (by kernel_rfl) (by simp) ?_
          refine AllReadyH.cons (o := oI4_4) rfl (fun K hK => ?_) (AllReadyH.nil)
          dsimp only [oI4_4]
          simp only [Region.wanted, if_true]
          refine wp_load_mid 24 (.tmp 4) rfl (G + 1) 0 rfl ((num r).map (Value.int .u8)) _ HI.out.rr.range Tryd.underlying24 rfl (by rw [List.length_map]; exact size_numN r) ?_
          refine hK.out _ _ ?_ (fun hHeld => ?_)
          · exact anyW _
          clear hK K
          try simp only [Act.put, List.setIfInBounds_toArray, List.set_cons_zero, List.set_cons_succ]
          refine wpAnyH_ready (rs := [5]) (by kernel_rfl) (by simp) ?_
          refine AllReadyH.cons (o := oI4_5) rfl (fun K hK => ?_) (AllReadyH.nil)
          dsimp only [oI4_5]
          go_simp
          refine (HA2.out _).mono ?_
          rintro e w4 ⟨rfl, hb4⟩
          have HI := Lib.hid (HI.out.below hb4)
          clear hb4
          go_simp
          refine hK.out _ _ ?_ (fun hHeld => ?_)
          · exact anyW _
          clear hK K
          try simp only [Act.put, List.setIfInBounds_toArray, List.set_cons_zero, List.set_cons_succ]
          refine wpAnyH_ready (rs := [6]) (by kernel_rfl) (by simp) ?_
          refine AllReadyH.cons (o := oI4_6) rfl (fun K hK => ?_) (AllReadyH.nil)
          dsimp only [oI4_6]
          simp only [Region.wanted, if_true]
          refine op_store_irow 24 (.tmp 3) (.tmp 11) rfl (g := G) (t := 24) (k := .u8) (xs := num q) (ys := num q2) rfl rfl HI.out.rg (size_numN q2) (same_length _ _) ?_
          have HI := Lib.hid (HI.out.setG HG.out q2)
          refine hK.out _ _ ?_ (fun hHeld => ?_)
          · exact anyW _
          clear hK K
          try simp only [Act.put]
          refine wpAnyH_ready (rs := [7]) (by kernel_rfl) (by simp) ?_
          refine AllReadyH.cons (o := oI4_7) rfl (fun K hK => ?_) (AllReadyH.nil)
          dsimp only [oI4_7]
          simp only [Region.wanted, if_true]
          refine op_store_irow 24 (.tmp 4) (.tmp 14) rfl (g := G + 1) (t := 24) (k := .u8) (xs := num r) (ys := num r2) rfl rfl HI.out.rr (size_numN r2) (same_length _ _) ?_
          have HI := Lib.hid (HI.out.setR HG.out r2)
          refine hK.out _ _ ?_ (fun hHeld => ?_)
          · exact anyW _
          clear hK K
          try simp only [Act.put]
          refine wpAnyH_done (by kernel_rfl) ?_ _
          exact HQ.out _ _ _ _ _ _ _ HI.out
        · as_aux_lemma =>
          dsimp only [oI4_4]
          simp only [Region.wanted, if_true]
          refine wp_load_mid 24 (.tmp 4) rfl (G + 1) 0 rfl ((num r).map (Value.int .u8)) _ HI.out.rr.range Tryd.underlying24 rfl (by rw [List.length_map]; exact size_numN r) ?_
          refine hK.out _ _ ?_ (fun hHeld => ?_)
          · exact anyW _
          clear hK K
          try simp only [Act.put, List.setIfInBounds_toArray, List.set_cons_zero, List.set_cons_succ]
          refine wpAnyH_ready (rs := [2]) (by kernel_rfl) (by simp) ?_
          refine AllReadyH.cons (o := oI4_2) rfl (fun K hK => ?_) (AllReadyH.nil)
          dsimp only [oI4_2]
          go_simp
          refine (HA1.out _).mono ?_
          rintro e w4 ⟨rfl, hb4⟩
          have HI := Lib.hid (HI.out.below hb4)
          clear hb4
          go_simp
          refine hK.out _ _ ?_ (fun hHeld => ?_)
          · exact anyW _
          clear hK K
          try simp only [Act.put, List.setIfInBounds_toArray, List.set_cons_zero, List.set_cons_succ]
          refine wpAnyH_ready (rs := [5]) (by kernel_rfl) (by simp) ?_
          refine AllReadyH.cons (o := oI4_5) rfl (fun K hK => ?_) (AllReadyH.nil)
          dsimp only [oI4_5]
          go_simp
          refine (HA2.out _).mono ?_
          rintro e w4 ⟨rfl, hb4⟩
          have HI := Lib.hid (HI.out.below hb4)
          clear hb4
          go_simp
          refine hK.out _ _ ?_ (fun hHeld => ?_)
          · exact anyW _
          clear hK K
          try simp only [Act.put, List.setIfInBounds_toArray, List.set_cons_zero, List.set_cons_succ]
          refine wpAnyH_ready (rs := [6]) (by kernel_rfl) (by simp) ?_
          refine AllReadyH.cons (o := oI4_6) rfl (fun K hK => ?_) (AllReadyH.nil)
          dsimp only [oI4_6]
          simp only [Region.wanted, if_true]
          refine op_store_irow 24 (.tmp 3) (.tmp 11) rfl (g := G) (t := 24) (k := .u8) (xs := num q) (ys := num q2) rfl rfl HI.out.rg (size_numN q2) (same_length _ _) ?_
          have HI := Lib.hid (HI.out.setG HG.out q2)
          refine hK.out _ _ ?_ (fun hHeld => ?_)
          · exact anyW _
          clear hK K
          try simp only [Act.put]
          refine wpAnyH_ready (rs := [7]) (by kernel_rfl) (by simp) ?_
          refine AllReadyH.cons (o := oI4_7) rfl (fun K hK => ?_) (AllReadyH.nil)
          dsimp only [oI4_7]
          simp only [Region.wanted, if_true]
          refine op_store_irow 24 (.tmp 4) (.tmp 14) rfl (g := G + 1) (t := 24) (k := .u8) (xs := num r) (ys := num r2) rfl rfl HI.out.rr (size_numN r2) (same_length _ _) ?_
          have HI := Lib.hid (HI.out.setR HG.out r2)
          refine hK.out _ _ ?_ (fun hHeld => ?_)
          · exact anyW _
          clear hK K
          try simp only [Act.put]
          refine wpAnyH_done (by kernel_rfl) ?_ _
          exact HQ.out _ _ _ _ _ _ _ HI.out
      · as_aux_lemma =>
        dsimp only [oI4_4]
        simp only [Region.wanted, if_true]
        refine wp_load_mid 24 (.tmp 4) rfl (G + 1) 0 rfl ((num r).map (Value.int .u8)) _ HI.out.rr.range Tryd.underlying24 rfl (by rw [List.length_map]; exact size_numN r) ?_
        refine hK.out _ _ ?_ (fun hHeld => ?_)
        · exact anyW _
        clear hK K
        try simp only [Act.put, List.setIfInBounds_toArray, List.set_cons_zero, List.set_cons_succ]
        refine wpAnyH_ready (rs := [2, 3]) (by kernel_rfl) (by simp) ?_
        refine AllReadyH.cons (o := oI4_2) rfl (fun K hK => ?_) (AllReadyH.cons (o := oI4_3) rfl (fun K hK => ?_) (AllReadyH.nil))
        · as_aux_lemma =>
          dsimp only [oI4_2]
          go_simp
          refine (HA1.out _).mono ?_
          rintro e w4 ⟨rfl, hb4⟩
          have HI := Lib.hid (HI.out.below hb4)
          clear hb4
          go_simp
          refine hK.out _ _ ?_ (fun hHeld => ?_)
          · exact anyW _
          clear hK K
          try simp only [Act.put, List.setIfInBounds_toArray, List.set_cons_zero, List.set_cons_succ]
          refine wpAnyH_ready (rs := [3]) (by kernel_rfl) (by simp) ?_
          refine AllReadyH.cons (o := oI4_3) rfl (fun K hK => ?_) (AllReadyH.nil)
          dsimp only [oI4_3]
          simp only [Region.wanted, if_true]
          refine wp_load_mid 24 (.tmp 4) rfl (G + 1) 0 rfl ((num r).map (Value.int .u8)) _ HI.out.rr.range Tryd.underlying24 rfl (by rw [List.length_map]; exact size_numN r) ?_
          refine hK.out _ _ ?_ (fun hHeld => ?_)
          · exact anyW _
          clear hK K
          try simp only [Act.put, List.setIfInBounds_toArray, List.set_cons_zero, List.set_cons_succ]
          refine wpAnyH_ready (rs := [5]) (by kernel_rfl) (by simp) ?_
          refine AllReadyH.cons (o := oI4_5) rfl (fun K hK => ?_) (AllReadyH.nil)
          dsimp only [oI4_5]
          go_simp
          refine (HA2.out _).mono ?_
          rintro e w4 ⟨rfl, hb4⟩
          have HI := Lib.hid (HI.out.below hb4)
          clear hb4
          go_simp
          refine hK.out _ _ ?_ (fun hHeld => ?_)
          · exact anyW _
          clear hK K
          try simp only [Act.put, List.setIfInBounds_toArray, List.set_cons_zero, List.set_cons_succ]
          refine wpAnyH_ready (rs := [6]) (by kernel_rfl) (by simp) ?_
          refine AllReadyH.cons (o := oI4_6) rfl (fun K hK => ?_) (AllReadyH.nil)
          dsimp only [oI4_6]
          simp only [Region.wanted, if_true]
          refine op_store_irow 24 (.tmp 3) (.tmp 11) rfl (g := G) (t := 24) (k := .u8) (xs := num q) (ys := num q2) rfl rfl HI.out.rg (size_numN q2) (same_length _ _) ?_
          have HI := Lib.hid (HI.out.setG HG.out q2)
          refine hK.out _ _ ?_ (fun hHeld => ?_)
          · exact anyW _
          clear hK K
          try simp only [Act.put]
          refine wpAnyH_ready (rs := [7]) (by kernel_rfl) (by simp) ?_
          refine AllReadyH.cons (o := oI4_7) rfl (fun K hK => ?_) (AllReadyH.nil)
          dsimp only [oI4_7]
          simp only [Region.wanted, if_true]
          refine op_store_irow 24 (.tmp 4) (.tmp 14) rfl (g := G + 1) (t := 24) (k := .u8) (xs := num r) (ys := num r2) rfl rfl HI.out.rr (size_numN r2) (same_length _ _) ?_
          have HI := Lib.hid (HI.out.setR HG.out r2)
          refine hK.out _ _ ?_ (fun hHeld => ?_)
          · exact anyW _
          clear hK K
          try simp only [Act.put]
          refine wpAnyH_done (by kernel_rfl) ?_ _
          exact HQ.out _ _ _ _ _ _ _ HI.out
        · as_aux_lemma =>
          dsimp only [oI4_3]
          simp only [Region.wanted, if_true]
          refine wp_load_mid 24 (.tmp 4) rfl (G + 1) 0 rfl ((num r).map (Value.int .u8)) _ HI.out.rr.range Tryd.underlying24 rfl (by rw [List.length_map]; exact size_numN r) ?_
          refine hK.out _ _ ?_ (fun hHeld => ?_)
          · exact anyW _
          clear hK K
          try simp only [Act.put, List.setIfInBounds_toArray, List.set_cons_zero, List.set_cons_succ]
          refine wpAnyH_ready (rs := [2]) (by kernel_rfl) (by simp) ?_
          refine AllReadyH.cons (o := oI4_2) rfl (fun K hK => ?_) (AllReadyH.nil)
          dsimp only [oI4_2]
          go_simp
          refine (HA1.out _).mono ?_
          rintro e w4 ⟨rfl, hb4⟩
          have HI := Lib.hid (HI.out.below hb4)
          clear hb4
          go_simp
          refine hK.out _ _ ?_ (fun hHeld => ?_)
          · exact anyW _
          clear hK K
          try simp only [Act.put, List.setIfInBounds_toArray, List.set_cons_zero, List.set_cons_succ]
          refine wpAnyH_ready (rs := [5]) (by kernel_rfl) (by simp) ?_
          refine AllReadyH.cons (o := oI4_5) rfl (fun K hK => ?_) (AllReadyH.nil)
          dsimp only [oI4_5]
          go_simp
          refine (HA2.out _).mono ?_
          rintro e w4 ⟨rfl, hb4⟩
          have HI := Lib.hid (HI.out.below hb4)
          clear hb4
          go_simp
          refine hK.out _ _ ?_ (fun hHeld => ?_)
          · exact anyW _
          clear hK K
          try simp only [Act.put, List.setIfInBounds_toArray, List.set_cons_zero, List.set_cons_succ]
          refine wpAnyH_ready (rs := [6]) (by kernel_rfl) (by simp) ?_
          refine AllReadyH.cons (o := oI4_6) rfl (fun K hK => ?_) (AllReadyH.nil)
          dsimp only [oI4_6]
          simp only [Region.wanted, if_true]
          refine op_store_irow 24 (.tmp 3) (.tmp 11) rfl (g := G) (t := 24) (k := .u8) (xs := num q) (ys := num q2) rfl rfl HI.out.rg (size_numN q2) (same_length _ _) ?_
          have HI := Lib.hid (HI.out.setG HG.out q2)
          refine hK.out _ _ ?_ (fun hHeld => ?_)
          · exact anyW _
          clear hK K
          try simp only [Act.put]
          refine wpAnyH_ready (rs := [7]) (by kernel_rfl) (by simp) ?_
          refine AllReadyH.cons (o := oI4_7) rfl (fun K hK => ?_) (AllReadyH.nil)
          dsimp only [oI4_7]
          simp only [Region.wanted, if_true]
          refine op_store_irow 24 (.tmp 4) (.tmp 14) rfl (g := G + 1) (t := 24) (k := .u8) (xs := num r) (ys := num r2) rfl rfl HI.out.rr (size_numN r2) (same_length _ _) ?_
          have HI := Lib.hid (HI.out.setR HG.out r2)
          refine hK.out _ _ ?_ (fun hHeld => ?_)
          · exact anyW _
          clear hK K
          try simp only [Act.put]
          refine wpAnyH_done (by kernel_rfl) ?_ _
          exact HQ.out _ _ _ _ _ _ _ HI.out
    · as_aux_lemma =>
      dsimp only [oI4_3]
      simp only [Region.wanted, if_true]
      refine wp_load_mid 24 (.tmp 4) rfl (G + 1) 0 rfl ((num r).map (Value.int .u8)) _ HI.out.rr.range Tryd.underlying24 rfl (by rw [List.length_map]; exact size_numN r) ?_
      refine hK.out _ _ ?_ (fun hHeld => ?_)
      · exact anyW _
      clear hK K
      try simp only [Act.put, List.setIfInBounds_toArray, List.set_cons_zero, List.set_cons_succ]
      refine wpAnyH_ready (rs := [1, 4]) (by kernel_rfl) (by simp) ?_
      refine AllReadyH.cons (o := oI4_1) rfl (fun K hK => ?_) (AllReadyH.cons (o := oI4_4) rfl (fun K hK => ?_) (AllReadyH.nil))
      · as_aux_lemma =>
        dsimp only [oI4_1]
        simp only [Region.wanted, if_true]
        refine wp_load_mid 24 (.tmp 3) rfl G 0 rfl ((num q).map (Value.int .u8)) _ HI.out.rg.range Tryd.underlying24 rfl (by rw [List.length_map]; exact size_numN q) ?_
        refine hK.out _ _ ?_ (fun hHeld => ?_)
        · exact anyW _
        clear hK K
        try simp only [Act.put, List.setIfInBounds_toArray, List.set_cons_zero, List.set_cons_succ]
        refine wpAnyH_ready (rs := [2, 4]) (by kernel_rfl) (by simp) ?_
        refine AllReadyH.cons (o := oI4_2) rfl (fun K hK => ?_) (AllReadyH.cons (o := oI4_4) rfl (fun K hK => ?_) (AllReadyH.nil))
        · as_aux_lemma =>
          dsimp only [oI4_2]
          go_simp
          refine (HA1.out _).mono ?_
          rintro e w4 ⟨rfl, hb4⟩
          have HI := Lib.hid (HI.out.below hb4)
          clear hb4
          go_simp
          refine hK.out _ _ ?_ (fun hHeld => ?_)
          · exact anyW _
          clear hK K
          try simp only [Act.put, List.setIfInBounds_toArray, List.set_cons_zero, List.set_cons_succ]
          refine wpAnyH_ready (rs := [4]) (by kernel_rfl) (by simp) ?_
          refine AllReadyH.cons (o := oI4_4) rfl (fun K hK => ?_) (AllReadyH.nil)
          dsimp only [oI4_4]
          simp only [Region.wanted, if_true]
          refine wp_load_mid 24 (.tmp 4) rfl (G + 1) 0 rfl ((num r).map (Value.int .u8)) _ HI.out.rr.range Tryd.underlying24 rfl (by rw [List.length_map]; exact size_numN r) ?_
          refine hK.out _ _ ?_ (fun hHeld => ?_)
          · exact anyW _
          clear hK K
          try simp only [Act.put, List.setIfInBounds_toArray, List.set_cons_zero, List.set_cons_succ]
          refine wpAnyH_ready (rs := [5]) (by kernel_rfl) (by simp) ?_
          refine AllReadyH.cons (o := oI4_5) rfl (fun K hK => ?_) (AllReadyH.nil)
          dsimp only [oI4_5]
          go_simp
          refine (HA2.out _).mono ?_
          rintro e w4 ⟨rfl, hb4⟩
          have HI := Lib.hid (HI.out.below hb4)
          clear hb4
          go_simp
          refine hK.out _ _ ?_ (fun hHeld => ?_)
          · exact anyW _
          clear hK K
          try simp only [Act.put, List.setIfInBounds_toArray, List.set_cons_zero, List.set_cons_succ]
          refine wpAnyH_ready (rs := [6]) (by kernel_rfl) (by simp) ?_
          refine AllReadyH.cons (o := oI4_6) rfl (fun K hK => ?_) (AllReadyH.nil)
          dsimp only [oI4_6]
          simp only [Region.wanted, if_true]
          refine op_store_irow 24 (.tmp 3) (.tmp 11) rfl (g := G) (t := 24) (k := .u8) (xs := num q) (ys := num q2) rfl rfl HI.out.rg (size_numN q2) (same_length _ _) ?_
          have HI := Lib.hid (HI.out.setG HG.out q2)
          refine hK.out _ _ ?_ (fun hHeld => ?_)
          · exact anyW _
          clear hK K
          try simp only [Act.put]
          refine wpAnyH_ready (rs := [7]) (by kernel_rfl) (by simp) ?_
          refine AllReadyH.cons (o := oI4_7) rfl (fun K hK => ?_) (AllReadyH.nil)
          dsimp only [oI4_7]
          simp only [Region.wanted, if_true]
          refine op_store_irow 24 (.tmp 4) (.tmp 14) rfl (g := G + 1) (t := 24) (k := .u8) (xs := num r) (ys := num r2) rfl rfl HI.out.rr (size_numN r2) (same_length _ _) ?_
          have HI := Lib.hid (HI.out.setR HG.out r2)
          refine hK.out _ _ ?_ (fun hHeld => ?_)
          · exact anyW _
          clear hK K
          try simp only [Act.put]
          refine wpAnyH_done (by kernel_rfl) ?_ _
          exact HQ.out _ _ _ _ _ _ _ HI.out
        · as_aux_lemma =>
          dsimp only [oI4_4]
          simp only [Region.wanted, if_true]
          refine wp_load_mid 24 (.tmp 4) rfl (G + 1) 0 rfl ((num r).map (Value.int .u8)) _ HI.out.rr.range Tryd.underlying24 rfl (by rw [List.length_map]; exact size_numN r) ?_
          refine hK.out _ _ ?_ (fun hHeld => ?_)
          · exact anyW _
          clear hK K
          try simp only [Act.put, List.setIfInBounds_toArray, List.set_cons_zero, List.set_cons_succ]
          refine wpAnyH_ready (rs := [2]) (by kernel_rfl) (by simp) ?_
          refine AllReadyH.cons (o := oI4_2) rfl (fun K hK => ?_) (AllReadyH.nil)
          dsimp only [oI4_2]
          go_simp
          refine (HA1.out _).mono ?_
          rintro e w4 ⟨rfl, hb4⟩
          have HI := Lib.hid (HI.out.below hb4)
          clear hb4
          go_simp
          refine hK.out _ _ ?_ (fun hHeld => ?_)
          · exact anyW _
          clear hK K
          try simp only [Act.put, List.setIfInBounds_toArray, List.set_cons_zero, List.set_cons_succ]
          refine wpAnyH_ready (rs := [5]) (by kernel_rfl) (by simp) ?_
          refine AllReadyH.cons (o := oI4_5) rfl (fun K hK => ?_) (AllReadyH.nil)
          dsimp only [oI4_5]
          go_simp
          refine (HA2.out _).mono ?_
          rintro e w4 ⟨rfl, hb4⟩
          have HI := Lib.hid (HI.out.below hb4)
          clear hb4
          go_simp
          refine hK.out _ _ ?_ (fun hHeld => ?_)
          · exact anyW _
          clear hK K
          try simp only [Act.put, List.setIfInBounds_toArray, List.set_cons_zero, List.set_cons_succ]
          refine wpAnyH_ready (rs := [6]) (by kernel_rfl) (by simp) ?_
          refine AllReadyH.cons (o := oI4_6) rfl (fun K hK => ?_) (AllReadyH.nil)
          dsimp only [oI4_6]
          simp only [Region.wanted, if_true]
          refine op_store_irow 24 (.tmp 3) (.tmp 11) rfl (g := G) (t := 24) (k := .u8) (xs := num q) (ys := num q2) rfl rfl HI.out.rg (size_numN q2) (same_length _ _) ?_
          have HI := Lib.hid (HI.out.setG HG.out q2)
          refine hK.out _ _ ?_ (fun hHeld => ?_)
          · exact anyW _
          clear hK K
          try simp only [Act.put]
          refine wpAnyH_ready (rs := [7]) (by kernel_rfl) (by simp) ?_
          refine AllReadyH.cons (o := oI4_7) rfl (fun K hK => ?_) (AllReadyH.nil)
          dsimp only [oI4_7]
          simp only [Region.wanted, if_true]
          refine op_store_irow 24 (.tmp 4) (.tmp 14) rfl (g := G + 1) (t := 24) (k := .u8) (xs := num r) (ys := num r2) rfl rfl HI.out.rr (size_numN r2) (same_length _ _) ?_
          have HI := Lib.hid (HI.out.setR HG.out r2)
          refine hK.out _ _ ?_ (fun hHeld => ?_)
          · exact anyW _
          clear hK K
          try simp only [Act.put]
          refine wpAnyH_done (by kernel_rfl) ?_ _
          exact HQ.out _ _ _ _ _ _ _ HI.out
      · as_aux_lemma =>
        dsimp only [oI4_4]
        simp only [Region.wanted, if_true]
        refine wp_load_mid 24 (.tmp 4) rfl (G + 1) 0 rfl ((num r).map (Value.int .u8)) _ HI.out.rr.range Tryd.underlying24 rfl (by rw [List.length_map]; exact size_numN r) ?_
        refine hK.out _ _ ?_ (fun hHeld => ?_)
        · exact anyW _
        clear hK K
        try simp only [Act.put, List.setIfInBounds_toArray, List.set_cons_zero, List.set_cons_succ]
        refine wpAnyH_ready (rs := [1]) (by kernel_rfl) (by simp) ?_
        refine AllReadyH.cons (o := oI4_1) rfl (fun K hK => ?_) (AllReadyH.nil)
        dsimp only [oI4_1]
        simp only [Region.wanted, if_true]
        refine wp_load_mid 24 (.tmp 3) rfl G 0 rfl ((num q).map (Value.int .u8)) _ HI.out.rg.range Tryd.underlying24 rfl (by rw [List.length_map]; exact size_numN q) ?_
        refine hK.out _ _ ?_ (fun hHeld => ?_)
        · exact anyW _
        clear hK K
        try simp only [Act.put, List.setIfInBounds_toArray, List.set_cons_zero, List.set_cons_succ]
        refine wpAnyH_ready (rs := [2]) (by kernel_rfl) (by simp) ?_
        refine AllReadyH.cons (o := oI4_2) rfl (fun K hK => ?_) (AllReadyH.nil)
        dsimp only [oI4_2]
        go_simp
        refine (HA1.out _).mono ?_
        rintro e w4 ⟨rfl, hb4⟩
        have HI := Lib.hid (HI.out.below hb4)
        clear hb4
        go_simp
        refine hK.out _ _ ?_ (fun hHeld => ?_)
        · exact anyW _
        clear hK K
        try simp only [Act.put, List.setIfInBounds_toArray, List.set_cons_zero, List.set_cons_succ]
        refine wpAnyH_ready (rs := [5]) (by kernel_rfl) (by simp) ?_
        refine AllReadyH.cons (o := oI4_5) rfl (fun K hK => ?_) (AllReadyH.nil)
        dsimp only [oI4_5]
        go_simp
        refine (HA2.out _).mono ?_
        rintro e w4 ⟨rfl, hb4⟩
        have HI := Lib.hid (HI.out.below hb4)
        clear hb4
        go_simp
        refine hK.out _ _ ?_ (fun hHeld => ?_)
        · exact anyW _
        clear hK K
        try simp only [Act.put, List.setIfInBounds_toArray, List.set_cons_zero, List.set_cons_succ]
        refine wpAnyH_ready (rs := [6]) (by kernel_rfl) (by simp) ?_
        refine AllReadyH.cons (o := oI4_6) rfl (fun K hK => ?_) (AllReadyH.nil)
        dsimp only [oI4_6]
        simp only [Region.wanted, if_true]
        refine op_store_irow 24 (.tmp 3) (.tmp 11) rfl (g := G) (t := 24) (k := .u8) (xs := num q) (ys := num q2) rfl rfl HI.out.rg (size_numN q2) (same_length _ _) ?_
        have HI := Lib.hid (HI.out.setG HG.out q2)
        refine hK.out _ _ ?_ (fun hHeld => ?_)
        · exact anyW _
        clear hK K
        try simp only [Act.put]
        refine wpAnyH_ready (rs := [7]) (by kernel_rfl) (by simp) ?_
        refine AllReadyH.cons (o := oI4_7) rfl (fun K hK => ?_) (AllReadyH.nil)
        dsimp only [oI4_7]
        simp only [Region.wanted, if_true]
        refine op_store_irow 24 (.tmp 4) (.tmp 14) rfl (g := G + 1) (t := 24) (k := .u8) (xs := num r) (ys := num r2) rfl rfl HI.out.rr (size_numN r2) (same_length _ _) ?_
        have HI := Lib.hid (HI.out.setR HG.out r2)
        refine hK.out _ _ ?_ (fun hHeld => ?_)
        · exact anyW _
        clear hK K
        try simp only [Act.put]
        refine wpAnyH_done (by kernel_rfl) ?_ _
        exact HQ.out _ _ _ _ _ _ _ HI.out
    · as_aux_lemma =>
      dsimp only [oI4_4]
      simp only [Region.wanted, if_true]
      refine wp_load_mid 24 (.tmp 4) rfl (G + 1) 0 rfl ((num r).map (Value.int .u8)) _ HI.out.rr.range Tryd.underlying24 rfl (by rw [List.length_map]; exact size_numN r) ?_
      refine hK.out _ _ ?_ (fun hHeld => ?_)
      · exact anyW _
      clear hK K
      try simp only [Act.put, List.setIfInBounds_toArray, List.set_cons_zero, List.set_cons_succ]
      refine wpAnyH_ready (rs := [1, 3]) (by kernel_rfl) (by simp) ?_
      refine AllReadyH.cons (o := oI4_1) rfl (fun K hK => ?_) (AllReadyH.cons (o := oI4_3) rfl (fun K hK => ?_) (AllReadyH.nil))
      · as_aux_lemma =>
        dsimp only [oI4_1]
        simp only [Region.wanted, if_true]
        refine wp_load_mid 24 (.tmp 3) rfl G 0 rfl ((num q).map (Value.int .u8)) _ HI.out.rg.range Tryd.underlying24 rfl (by rw [List.length_map]; exact size_numN q) ?_
        refine hK.out _ _ ?_ (fun hHeld => ?_)
        · exact anyW _
        clear hK K
        try simp only [Act.put, List.setIfInBounds_toArray, List.set_cons_zero, List.set_cons_succ]
        refine wpAnyH_ready (rs := [2, 3]) (by kernel_rfl) (by simp) ?_
        refine AllReadyH.cons (o := oI4_2) rfl (fun K hK => ?_) (AllReadyH.cons (o := oI4_3) rfl (fun K hK => ?_) (AllReadyH.nil))
        · as_aux_lemma =>
          dsimp only [oI4_2]
          go_simp
          refine (HA1.out _).mono ?_
          rintro e w4 ⟨rfl, hb4⟩
          have HI := Lib.hid (HI.out.below hb4)
          clear hb4
          go_simp
          refine hK.out _ _ ?_ (fun hHeld => ?_)
          · exact anyW _
          clear hK K
          try simp only [Act.put, List.setIfInBounds_toArray, List.set_cons_zero, List.set_cons_succ]
          refine wpAnyH_ready (rs := [3]) (by kernel_rfl) (by simp) ?_
          refine AllReadyH.cons (o := oI4_3) rfl (fun K hK => ?_) (AllReadyH.nil)
          dsimp only [oI4_3]
          simp only [Region.wanted, if_true]
          refine wp_load_mid 24 (.tmp 4) rfl (G + 1) 0 rfl ((num r).map (Value.int .u8)) _ HI.out.rr.range Tryd.underlying24 rfl (by rw [List.length_map]; exact size_numN r) ?_
          refine hK.out _ _ ?_ (fun hHeld => ?_)
          · exact anyW _
          clear hK K
          try simp only [Act.put, List.setIfInBounds_toArray, List.set_cons_zero, List.set_cons_succ]
          refine wpAnyH_ready (rs := [5]) (by kernel_rfl) (by simp) ?_
          refine AllReadyH.cons (o := oI4_5) rfl (fun K hK => ?_) (AllReadyH.nil)
          dsimp only [oI4_5]
          go_simp
          refine (HA2.out _).mono ?_
          rintro e w4 ⟨rfl, hb4⟩
          have HI := Lib.hid (HI.out.below hb4)
          clear hb4
          go_simp
          refine hK.out _ _ ?_ (fun hHeld => ?_)
          · exact anyW _
          clear hK K
          try simp only [Act.put, List.setIfInBounds_toArray, List.set_cons_zero, List.set_cons_succ]
          refine wpAnyH_ready (rs := [6]) (by kernel_rfl) (by simp) ?_
          refine AllReadyH.cons (o := oI4_6) rfl (fun K hK => ?_) (AllReadyH.nil)
          dsimp only [oI4_6]
          simp only [Region.wanted, if_true]
          refine op_store_irow 24 (.tmp 3) (.tmp 11) rfl (g := G) (t := 24) (k := .u8) (xs := num q) (ys := num q2) rfl rfl HI.out.rg (size_numN q2) (same_length _ _) ?_
          have HI := Lib.hid (HI.out.setG HG.out q2)
          refine hK.out _ _ ?_ (fun hHeld => ?_)
          · exact anyW _
          clear hK K
          try simp only [Act.put]
          refine wpAnyH_ready (rs := [7]) (by kernel_rfl) (by simp) ?_
          refine AllReadyH.cons (o := oI4_7) rfl (fun K hK => ?_) (AllReadyH.nil)
          dsimp only [oI4_7]
          simp only [Region.wanted, if_true]
          refine op_store_irow 24 (.tmp 4) (.tmp 14) rfl (g := G + 1) (t := 24) (k := .u8) (xs := num r) (ys := num r2) rfl rfl HI.out.rr (size_numN r2) (same_length _ _) ?_
          have HI := Lib.hid (HI.out.setR HG.out r2)
          refine hK.out _ _ ?_ (fun hHeld => ?_)
          · exact anyW _
          clear hK K
          try simp only [Act.put]
          refine wpAnyH_done (by kernel_rfl) ?_ _
          exact HQ.out _ _ _ _ _ _ _ HI.out
        · as_aux_lemma =>
          dsimp only [oI4_3]
          simp only [Region.wanted, if_true]
          refine wp_load_mid 24 (.tmp 4) rfl (G + 1) 0 rfl ((num r).map (Value.int .u8)) _ HI.out.rr.range Tryd.underlying24 rfl (by rw [List.length_map]; exact size_numN r) ?_
          refine hK.out _ _ ?_ (fun hHeld => ?_)
          · exact anyW _
          clear hK K
          try simp only [Act.put, List.setIfInBounds_toArray, List.set_cons_zero, List.set_cons_succ]
          refine wpAnyH_ready (rs := [2]) (by kernel_rfl) (by simp) ?_
          refine AllReadyH.cons (o := oI4_2) rfl (fun K hK => ?_) (AllReadyH.nil)
          dsimp only [oI4_2]
          go_simp
          refine (HA1.out _).mono ?_
          rintro e w4 ⟨rfl, hb4⟩
          have HI := Lib.hid (HI.out.below hb4)
          clear hb4
          go_simp
          refine hK.out _ _ ?_ (fun hHeld => ?_)
          · exact anyW _
          clear hK K
          try simp only [Act.put, List.setIfInBounds_toArray, List.set_cons_zero, List.set_cons_succ]
          refine wpAnyH_ready (rs := [5]) (by kernel_rfl) (by simp) ?_
          refine AllReadyH.cons (o := oI4_5) rfl (fun K hK => ?_) (AllReadyH.nil)
          dsimp only [oI4_5]
          go_simp
          refine (HA2.out _).mono ?_
          rintro e w4 ⟨rfl, hb4⟩
          have HI := Lib.hid (HI.out.below hb4)
          clear hb4
          go_simp
          refine hK.out _ _ ?_ (fun hHeld => ?_)
          · exact anyW _
          clear hK K
          try simp only [Act.put, List.setIfInBounds_toArray, List.set_cons_zero, List.set_cons_succ]
          refine wpAnyH_ready (rs := [6]) (by kernel_rfl) (by simp) ?_
          refine AllReadyH.cons (o := oI4_6) rfl (fun K hK => ?_) (AllReadyH.nil)
          dsimp only [oI4_6]
          simp only [Region.wanted, if_true]
          refine op_store_irow 24 (.tmp 3) (.tmp 11) rfl (g := G) (t := 24) (k := .u8) (xs := num q) (ys := num q2) rfl rfl HI.out.rg (size_numN q2) (same_length _ _) ?_
          have HI := Lib.hid (HI.out.setG HG.out q2)
          refine hK.out _ _ ?_ (fun hHeld => ?_)
          · exact anyW _
          clear hK K
          try simp only [Act.put]
          refine wpAnyH_ready (rs := [7]) (by kernel_rfl) (by simp) ?_
          refine AllReadyH.cons (o := oI4_7) rfl (fun K hK => ?_) (AllReadyH.nil)
          dsimp only [oI4_7]
          simp only [Region.wanted, if_true]
          refine op_store_irow 24 (.tmp 4) (.tmp 14) rfl (g := G + 1) (t := 24) (k := .u8) (xs := num r) (ys := num r2) rfl rfl HI.out.rr (size_numN r2) (same_length _ _) ?_
          have HI := Lib.hid (HI.out.setR HG.out r2)
          refine hK.out _ _ ?_ (fun hHeld => ?_)
          · exact anyW _
          clear hK K
          try simp only [Act.put]
          refine wpAnyH_done (by kernel_rfl) ?_ _
          exact HQ.out _ _ _ _ _ _ _ HI.out
      · as_aux_lemma =>
        dsimp only [oI4_3]
        simp only [Region.wanted, if_true]
        refine wp_load_mid 24 (.tmp 4) rfl (G + 1) 0 rfl ((num r).map (Value.int .u8)) _ HI.out.rr.range Tryd.underlying24 rfl (by rw [List.length_map]; exact size_numN r) ?_
        refine hK.out _ _ ?_ (fun hHeld => ?_)
        · exact anyW _
        clear hK K
        try simp only [Act.put, List.setIfInBounds_toArray, List.set_cons_zero, List.set_cons_succ]
        refine wpAnyH_ready (rs := [1]) (by kernel_rfl) (by simp) ?_
        refine AllReadyH.cons (o := oI4_1) rfl (fun K hK => ?_) (AllReadyH.nil)
        dsimp only [oI4_1]
        simp only [Region.wanted, if_true]
        refine wp_load_mid 24 (.tmp 3) rfl G 0 rfl ((num q).map (Value.int .u8)) _ HI.out.rg.range Tryd.underlying24 rfl (by rw [List.length_map]; exact size_numN q) ?_
        refine hK.out _ _ ?_ (fun hHeld => ?_)
        · exact anyW _
        clear hK K
        try simp only [Act.put, List.setIfInBounds_toArray, List.set_cons_zero, List.set_cons_succ]
        refine wpAnyH_ready (rs := [2]) (by kernel_rfl) (by simp) ?_
        refine AllReadyH.cons (o := oI4_2) rfl (fun K hK => ?_) (AllReadyH.nil)
        dsimp only [oI4_2]
        go_simp
        refine (HA1.out _).mono ?_
        rintro e w4 ⟨rfl, hb4⟩
        have HI := Lib.hid (HI.out.below hb4)
        clear hb4
        go_simp
        refine hK.out _ _ ?_ (fun hHeld => ?_)
        · exact anyW _
        clear hK K
        try simp only [Act.put, List.setIfInBounds_toArray, List.set_cons_zero, List.set_cons_succ]
        refine wpAnyH_ready (rs := [5]) (by kernel_rfl) (by simp) ?_
        refine AllReadyH.cons (o := oI4_5) rfl (fun K hK => ?_) (AllReadyH.nil)
        dsimp only [oI4_5]
        go_simp
        refine (HA2.out _).mono ?_
        rintro e w4 ⟨rfl, hb4⟩
        have HI := Lib.hid (HI.out.below hb4)
        clear hb4
        go_simp
        refine hK.out _ _ ?_ (fun hHeld => ?_)
        · exact anyW _
        clear hK K
        try simp only [Act.put, List.setIfInBounds_toArray, List.set_cons_zero, List.set_cons_succ]
        refine wpAnyH_ready (rs := [6]) (by kernel_rfl) (by simp) ?_
        refine AllReadyH.cons (o := oI4_6) rfl (fun K hK => ?_) (AllReadyH.nil)
        dsimp only [oI4_6]
        simp only [Region.wanted, if_true]
        refine op_store_irow 24 (.tmp 3) (.tmp 11) rfl (g := G) (t := 24) (k := .u8) (xs := num q) (ys := num q2) rfl rfl HI.out.rg (size_numN q2) (same_length _ _) ?_
        have HI := Lib.hid (HI.out.setG HG.out q2)
        refine hK.out _ _ ?_ (fun hHeld => ?_)
        · exact anyW _
        clear hK K
        try simp only [Act.put]
        refine wpAnyH_ready (rs := [7]) (by kernel_rfl) (by simp) ?_
        refine AllReadyH.cons (o := oI4_7) rfl (fun K hK => ?_) (AllReadyH.nil)
        dsimp only [oI4_7]
        simp only [Region.wanted, if_true]
        refine op_store_irow 24 (.tmp 4) (.tmp 14) rfl (g := G + 1) (t := 24) (k := .u8) (xs := num r) (ys := num r2) rfl rfl HI.out.rr (size_numN r2) (same_length _ _) ?_
        have HI := Lib.hid (HI.out.setR HG.out r2)
        refine hK.out _ _ ?_ (fun hHeld => ?_)
        · exact anyW _
        clear hK K
        try simp only [Act.put]
        refine wpAnyH_done (by kernel_rfl) ?_ _
        exact HQ.out _ _ _ _ _ _ _ HI.out
  · as_aux_lemma =>
    dsimp only [oI4_1]
    simp only [Region.wanted, if_true]
    refine wp_load_mid 24 (.tmp 3) rfl G 0 rfl ((num q).map (Value.int .u8)) _ HI.out.rg.range Tryd.underlying24 rfl (by rw [List.length_map]; exact size_numN q) ?_
    refine hK.out _ _ ?_ (fun hHeld => ?_)
    · exact anyW _
    clear hK K
    try simp only [Act.put, List.setIfInBounds_toArray, List.set_cons_zero, List.set_cons_succ]
    refine wpAnyH_ready (rs := [0, 3, 4]) (by kernel_rfl) (by simp) ?_
    refine AllReadyH.cons (o := oI4_0) rfl (fun K hK => ?_) (AllReadyH.cons (o := oI4_3) rfl (fun K hK => ?_) (AllReadyH.cons (o := oI4_4) rfl (fun K hK => ?_) (AllReadyH.nil)))
    · as_aux_lemma =>
      dsimp only [oI4_0]
      simp only [Region.wanted, if_true]
      refine wp_load_mid 24 (.tmp 3) rfl G 0 rfl ((num q).map (Value.int .u8)) _ HI.out.rg.range Tryd.underlying24 rfl (by rw [List.length_map]; exact size_numN q) ?_
      refine hK.out _ _ ?_ (fun hHeld => ?_)
      · exact anyW _
      clear hK K
      try simp only [Act.put, List.setIfInBounds_toArray, List.set_cons_zero, List.set_cons_succ]
      refine wpAnyH_ready (rs := [2, 3, 4]) (by kernel_rfl) (by simp) ?_
      refine AllReadyH.cons (o := oI4_2) rfl (fun K hK => ?_) (AllReadyH.cons (o := oI4_3) rfl (fun K hK => ?_) (AllReadyH.cons (o := oI4_4) rfl (fun K hK => ?_) (AllReadyH.nil)))
      · as_aux_lemma =>
        dsimp only [oI4_2]
        go_simp
        refine (HA1.out _).mono ?_
        rintro e w4 ⟨rfl, hb4⟩
        have HI := Lib.hid (HI.out.below hb4)
        clear hb4
        go_simp
        refine hK.out _ _ ?_ (fun hHeld => ?_)
        · exact anyW _
        clear hK K
        try simp only [Act.put, List.setIfInBounds_toArray, List.set_cons_zero, List.set_cons_succ]
        refine wpAnyH_ready (rs := [3, 4]) (by kernel_rfl) (by simp) ?_
        refine AllReadyH.cons (o := oI4_3) rfl (fun K hK => ?_) (AllReadyH.cons (o := oI4_4) rfl (fun K hK => ?_) (AllReadyH.nil))
        · as_aux_lemma =>
          dsimp only [oI4_3]
          simp only [Region.wanted, if_true]
          refine wp_load_mid 24 (.tmp 4) rfl (G + 1) 0 rfl ((num r).map (Value.int .u8)) _ HI.out.rr.range Tryd.underlying24 rfl (by rw [List.length_map]; exact size_numN r) ?_
          refine hK.out _ _ ?_ (fun hHeld => ?_)
          · exact anyW _
          clear hK K
          try simp only [Act.put, List.setIfInBounds_toArray, List.set_cons_zero, List.set_cons_succ]
          refine wpAnyH_ready (rs := [4]) (by kernel_rfl) (by simp) ?_
          refine AllReadyH.cons (o := oI4_4) rfl (fun K hK => ?_) (AllReadyH.nil)
          dsimp only [oI4_4]
          simp only [Region.wanted, if_true]
          refine wp_load_mid 24 (.tmp 4) rfl (G + 1) 0 rfl ((num r).map (Value.int .u8)) _ HI.out.rr.range Tryd.underlying24 rfl (by rw [List.length_map]; exact size_numN r) ?_
          refine hK.out _ _ ?_ (fun hHeld => ?_)
          · exact anyW _
          clear hK K
          try simp only [Act.put, List.setIfInBounds_toArray, List.set_cons_zero, List.set_cons_succ]
          refine wpAnyH_ready (rs := [5]) (by kernel_rfl) (by simp) ?_
          refine AllReadyH.cons (o := oI4_5) rfl (fun K hK => ?_) (AllReadyH.nil)
          dsimp only [oI4_5]
          go_simp
          refine (HA2.out _).mono ?_
          rintro e w4 ⟨rfl, hb4⟩
          have HI := Lib.hid (HI.out.below hb4)
          clear hb4
          go_simp
          refine hK.out _ _ ?_ (fun hHeld => ?_)
          · exact anyW _
          clear hK K
          try simp only [Act.put, List.setIfInBounds_toArray, List.set_cons_zero, List.set_cons_succ]
          refine wpAnyH_ready (rs := [6]) (by kernel_rfl) (by simp) ?_
          refine AllReadyH.cons (o := oI4_6) rfl (fun K hK => ?_) (AllReadyH.nil)
          dsimp only [oI4_6]
          simp only [Region.wanted, if_true]
          refine op_store_irow 24 (.tmp 3) (.tmp 11) rfl (g := G) (t := 24) (k := .u8) (xs := num q) (ys := num q2) rfl rfl HI.out.rg (size_numN q2) (same_length _ _) ?_
          have HI := Lib.hid (HI.out.setG HG.out q2)
          refine hK.out _ _ ?_ (fun hHeld => ?_)
          · exact anyW _
          clear hK K
          try simp only [Act.put]
          refine wpAnyH_ready (rs := [7]) (by kernel_rfl) (by simp) ?_
          refine AllReadyH.cons (o := oI4_7) rfl (fun K hK => ?_) (AllReadyH.nil)
          dsimp only [oI4_7]
          simp only [Region.wanted, if_true]
          refine op_store_irow 24 (.tmp 4) (.tmp 14) rfl (g := G + 1) (t := 24) (k := .u8) (xs := num r) (ys := num r2) rfl rfl HI.out.rr (size_numN r2) (same_length _ _) ?_
          have HI := Lib.hid (HI.out.setR HG.out r2)
          refine hK.out _ _ ?_ (fun hHeld => ?_)
          · exact anyW _
          clear hK K
          try simp only [Act.put]
          refine wpAnyH_done (by kernel_rfl) ?_ _
          exact HQ.out _ _ _ _ _ _ _ HI.out
        · as_aux_lemma =>
          dsimp only [oI4_4]
          simp only [Region.wanted, if_true]
          refine wp_load_mid 24 (.tmp 4) rfl (G + 1) 0 rfl ((num r).map (Value.int .u8)) _ HI.out.rr.range Tryd.underlying24 rfl (by rw [List.length_map]; exact size_numN r) ?_
          refine hK.out _ _ ?_ (fun hHeld => ?_)
          · exact anyW _
          clear hK K
          try simp only [Act.put, List.setIfInBounds_toArray, List.set_cons_zero, List.set_cons_succ]
          refine wpAnyH_ready (rs := [3]) (by kernel_rfl) (by simp) ?_
          refine AllReadyH.cons (o := oI4_3) rfl (fun K hK => ?_) (AllReadyH.nil)
          dsimp only [oI4_3]
          simp only [Region.wanted, if_true]
          refine wp_load_mid 24 (.tmp 4) rfl (G + 1) 0 rfl ((num r).map (Value.int .u8)) _ HI.out.rr.range Tryd.underlying24 rfl (by rw [List.length_map]; exact size_numN r) ?_
          refine hK.out _ _ ?_ (fun hHeld => ?_)
          · exact anyW _
          clear hK K
          try simp only [Act.put, List.setIfInBounds_toArray, List.set_cons_zero, List.set_cons_succ]
          refine wpAnyH_ready (rs := [5]) (by kernel_rfl) (by simp) ?_
          refine AllReadyH.cons (o := oI4_5) rfl (fun K hK => ?_) (AllReadyH.nil)
          dsimp only [oI4_5]
          go_simp
          refine (HA2.out _).mono ?_
          rintro e w4 ⟨rfl, hb4⟩
          have HI := Lib.hid (HI.out.below hb4)
          clear hb4
          go_simp
          refine hK.out _ _ ?_ (fun hHeld => ?_)
          · exact anyW _
          clear hK K
          try simp only [Act.put, List.setIfInBounds_toArray, List.set_cons_zero, List.set_cons_succ]
          refine wpAnyH_ready (rs := [6]) (by kernel_rfl) (by simp) ?_
          refine AllReadyH.cons (o := oI4_6) rfl (fun K hK => ?_) (AllReadyH.nil)
          dsimp only [oI4_6]
          simp only [Region.wanted, if_true]
          refine op_store_irow 24 (.tmp 3) (.tmp 11) rfl (g := G) (t := 24) (k := .u8) (xs := num q) (ys := num q2) rfl rfl HI.out.rg (size_numN q2) (same_length _ _) ?_
          have HI := Lib.hid (HI.out.setG HG.out q2)
          refine hK.out _ _ ?_ (fun hHeld => ?_)
          · exact anyW _
          clear hK K
          try simp only [Act.put]
          refine wpAnyH_ready (rs := [7]) (by kernel_rfl) (by simp) ?_
          refine AllReadyH.cons (o := oI4_7) rfl (fun K hK => ?_) (AllReadyH.nil)
          dsimp only [oI4_7]
          simp only [Region.wanted, if_true]
          refine op_store_irow 24 (.tmp 4) (.tmp 14) rfl (g := G + 1) (t := 24) (k := .u8) (xs := num r) (ys := num r2) rfl rfl HI.out.rr (size_numN r2) (same_length _ _) ?_
          have HI := Lib.hid (HI.out.setR HG.out r2)
          refine hK.out _ _ ?_ (fun hHeld => ?_)
          · exact anyW _
          clear hK K
          try simp only [Act.put]
          refine wpAnyH_done (by kernel_rfl) ?_ _
          exact HQ.out _ _ _ _ _ _ _ HI.out
      · as_aux_lemma =>
        dsimp only [oI4_3]
        simp only [Region.wanted, if_true]
        refine wp_load_mid 24 (.tmp 4) rfl (G + 1) 0 rfl ((num r).map (Value.int .u8)) _ HI.out.rr.range Tryd.underlying24 rfl (by rw [List.length_map]; exact size_numN r) ?_
        refine hK.out _ _ ?_ (fun hHeld => ?_)
        · exact anyW _
        clear hK K
        try simp only [Act.put, List.setIfInBounds_toArray, List.set_cons_zero, List.set_cons_succ]
        refine wpAnyH_ready (rs := [2, 4]) (by kernel_rfl) (by simp) ?_
        refine AllReadyH.cons (o := oI4_2) rfl (fun K hK => ?_) (AllReadyH.cons (o := oI4_4) rfl (fun K hK => ?_) (AllReadyH.nil))
        · as_aux_lemma =>
          dsimp only [oI4_2]
          go_simp
          refine (HA1.out _).mono ?_
          rintro e w4 ⟨rfl, hb4⟩
          have HI := Lib.hid (HI.out.below hb4)
          clear hb4
          go_simp
          refine hK.out _ _ ?_ (fun hHeld => ?_)
          · exact anyW _
          clear hK K
          try simp only [Act.put, List.setIfInBounds_toArray, List.set_cons_zero, List.set_cons_succ]
          refine wpAnyH_ready (rs := [4]) (by kernel_rfl) (by simp) ?_
          refine AllReadyH.cons (o := oI4_4) rfl (fun K hK => ?_) (AllReadyH.nil)
          dsimp only [oI4_4]
          simp only [Region.wanted, if_true]
          refine wp_load_mid 24 (.tmp 4) rfl (G + 1) 0 rfl ((num r).map (Value.int .u8)) _ HI.out.rr.range Tryd.underlying24 rfl (by rw [List.length_map]; exact size_numN r) ?_
          refine hK.out _ _ ?_ (fun hHeld => ?_)
          · exact anyW _
          clear hK K
          try simp only [Act.put, List.setIfInBounds_toArray, List.set_cons_zero, List.set_cons_succ]
          refine wpAnyH_ready (rs := [5]) (by kernel_rfl) (by simp) ?_
          refine AllReadyH.cons (o := oI4_5) rfl (fun K hK => ?_) (AllReadyH.nil)
          dsimp only [oI4_5]
          go_simp
          refine (HA2.out _).mono ?_
          rintro e w4 ⟨rfl, hb4⟩
          have HI := Lib.hid (HI.out.below hb4)
          clear hb4
          go_simp
          refine hK.out _ _ ?_ (fun hHeld => ?_)
          · exact anyW _
          clear hK K
          try simp only [Act.put, List.setIfInBounds_toArray, List.set_cons_zero, List.set_cons_succ]
          refine wpAnyH_ready (rs := [6]) (by kernel_rfl) (by simp) ?_
          refine AllReadyH.cons (o := oI4_6) rfl (fun K hK => ?_) (AllReadyH.nil)
          dsimp only [oI4_6]
          simp only [Region.wanted, if_true]
          refine op_store_irow 24 (.tmp 3) (.tmp 11) rfl (g := G) (t := 24) (k := .u8) (xs := num q) (ys := num q2) rfl rfl HI.out.rg (size_numN q2) (same_length _ _) ?_
          have HI := Lib.hid (HI.out.setG HG.out q2)
          refine hK.out _ _ ?_ (fun hHeld => ?_)
          · exact anyW _
          clear hK K
          try simp only [Act.put]
          refine wpAnyH_ready (rs := [7]) (by kernel_rfl) (by simp) ?_
          refine AllReadyH.cons (o := oI4_7) rfl (fun K hK => ?_) (AllReadyH.nil)
          dsimp only [oI4_7]
          simp only [Region.wanted, if_true]
          refine op_store_irow 24 (.tmp 4) (.tmp 14) rfl (g := G + 1) (t := 24) (k := .u8) (xs := num r) (ys := num r2) rfl rfl HI.out.rr (size_numN r2) (same_length _ _) ?_
          have HI := Lib.hid (HI.out.setR HG.out r2)
          refine hK.out _ _ ?_ (fun hHeld => ?_)
          · exact anyW _
          clear hK K
          try simp only [Act.put]
          refine wpAnyH_done (by kernel_rfl) ?_ _
          exact HQ.out _ _ _ _ _ _ _ HI.out
        · as_aux_lemma =>
          dsimp only [oI4_4]
          simp only [Region.wanted, if_true]
          refine wp_load_mid 24 (.tmp 4) rfl (G + 1) 0 rfl ((num r).map (Value.int .u8)) _ HI.out.rr.range Tryd.underlying24 rfl (by rw [List.length_map]; exact size_numN r) ?_
          refine hK.out _ _ ?_ (fun hHeld => ?_)
          · exact anyW _
          clear hK K
          try simp only [Act.put, List.setIfInBounds_toArray, List.set_cons_zero, List.set_cons_succ]
          refine wpAnyH_ready (rs := [2]) (by kernel_rfl) (by simp) ?_
          refine AllReadyH.cons (o := oI4_2) rfl (fun K hK => ?_) (AllReadyH.nil)
          dsimp only [oI4_2]
          go_simp
          refine (HA1.out _).mono ?_
          rintro e w4 ⟨rfl, hb4⟩
          have HI := Lib.hid (HI.out.below hb4)
          clear hb4
          go_simp
          refine hK.out _ _ ?_ (fun hHeld => ?_)
          · exact anyW _
          clear hK K
          try simp only [Act.put, List.setIfInBounds_toArray, List.set_cons_zero, List.set_cons_succ]
          refine wpAnyH_ready (rs := [5]) (by kernel_rfl) (by simp) ?_
          refine AllReadyH.cons (o := oI4_5) rfl (fun K hK => ?_) (AllReadyH.nil)
          dsimp only [oI4_5]
          go_simp
          refine (HA2.out _).mono ?_
          rintro e w4 ⟨rfl, hb4⟩
          have HI := Lib.hid (HI.out.below hb4)
          clear hb4
          go_simp
          refine hK.out _ _ ?_ (fun hHeld => ?_)
          · exact anyW _
          clear hK K
          try simp only [Act.put, List.setIfInBounds_toArray, List.set_cons_zero, List.set_cons_succ]
          refine wpAnyH_ready (rs := [6]) (by kernel_rfl) (by simp) ?_
          refine AllReadyH.cons (o := oI4_6) rfl (fun K hK => ?_) (AllReadyH.nil)
          dsimp only [oI4_6]
          simp only [Region.wanted, if_true]
          refine op_store_irow 24 (.tmp 3) (.tmp 11) rfl (g := G) (t := 24) (k := .u8) (xs := num q) (ys := num q2) rfl rfl HI.out.rg (size_numN q2) (same_length _ _) ?_
          have HI := Lib.hid (HI.out.setG HG.out q2)
          refine hK.out _ _ ?_ (fun hHeld => ?_)
          · exact anyW _
          clear hK K
          try simp only [Act.put]
          refine wpAnyH_ready (rs := [7]) (by kernel_rfl) (by simp) ?_
          refine AllReadyH.cons (o := oI4_7) rfl (fun K hK => ?_) (AllReadyH.nil)
          dsimp only [oI4_7]
          simp only [Region.wanted, if_true]
          refine op_store_irow 24 (.tmp 4) (.tmp 14) rfl (g := G + 1) (t := 24) (k := .u8) (xs := num r) (ys := num r2) rfl rfl HI.out.rr (size_numN r2) (same_length _ _) ?_
          have HI := Lib.hid (HI.out.setR HG.out r2)
          refine hK.out _ _ ?_ (fun hHeld => ?_)
          · exact anyW _
          clear hK K
          try simp only [Act.put]
          refine wpAnyH_done (by kernel_rfl) ?_ _
          exact HQ.out _ _ _ _ _ _ _ HI.out
      · as_aux_lemma =>
        dsimp only [oI4_4]
        simp only [Region.wanted, if_true]
        refine wp_load_mid 24 (.tmp 4) rfl (G + 1) 0 rfl ((num r).map (Value.int .u8)) _ HI.out.rr.range Tryd.underlying24 rfl (by rw [List.length_map]; exact size_numN r) ?_
        refine hK.out _ _ ?_ (fun hHeld => ?_)
        · exact anyW _
        clear hK K
        try simp only [Act.put, List.setIfInBounds_toArray, List.set_cons_zero, List.set_cons_succ]
        refine wpAnyH_ready (rs := [2, 3]) (by kernel_rfl) (by simp) ?_
        refine AllReadyH.cons (o := oI4_2) rfl (fun K hK => ?_) (AllReadyH.cons (o := oI4_3) rfl (fun K hK => ?_) (AllReadyH.nil))
        · as_aux_lemma =>
          dsimp only [oI4_2]
          go_simp
          refine (HA1.out _).mono ?_
          rintro e w4 ⟨rfl, hb4⟩
          have HI := Lib.hid (HI.out.below hb4)
          clear hb4
          go_simp
          refine hK.out _ _ ?_ (fun hHeld => ?_)
          · exact anyW _
          clear hK K
          try simp only [Act.put, List.setIfInBounds_toArray, List.set_cons_zero, List.set_cons_succ]
          refine wpAnyH_ready (rs := [3]) (by kernel_rfl) (by simp) ?_
          refine AllReadyH.cons (o := oI4_3) rfl (fun K hK => ?_) (AllReadyH.nil)
          dsimp only [oI4_3]
          simp only [Region.wanted, if_true]
          refine wp_load_mid 24 (.tmp 4) rfl (G + 1) 0 rfl ((num r).map (Value.int .u8)) _ HI.out.rr.range Tryd.underlying24 rfl (by rw [List.length_map]; exact size_numN r) ?_
          refine hK.out _ _ ?_ (fun hHeld => ?_)
          · exact anyW _
          clear hK K
          try simp only [Act.put, List.setIfInBounds_toArray, List.set_cons_zero, List.set_cons_succ]
          refine wpAnyH_ready (rs := [5]) (by kernel_rfl) (by simp) ?_
          refine AllReadyH.cons (o := oI4_5) rfl (fun K hK => ?_) (AllReadyH.nil)
          dsimp only [oI4_5]
          go_simp
          refine (HA2.out _).mono ?_
          rintro e w4 ⟨rfl, hb4⟩
          have HI := Lib.hid (HI.out.below hb4)
          clear hb4
          go_simp
          refine hK.out _ _ ?_ (fun hHeld => ?_)
          · exact anyW _
          clear hK K
          try simp only [Act.put, List.setIfInBounds_toArray, List.set_cons_zero, List.set_cons_succ]
          refine wpAnyH_ready (rs := [6]) (by kernel_rfl) (by simp) ?_
          refine AllReadyH.cons (o := oI4_6) rfl (fun K hK => ?_) (AllReadyH.nil)
          dsimp only [oI4_6]
          simp only [Region.wanted, if_true]
          refine op_store_irow 24 (.tmp 3) (.tmp 11) rfl (g := G) (t := 24) (k := .u8) (xs := num q) (ys := num q2) rfl rfl HI.out.rg (size_numN q2) (same_length _ _) ?_
          have HI := Lib.hid (HI.out.setG HG.out q2)
          refine hK.out _ _ ?_ (fun hHeld => ?_)
          · exact anyW _
          clear hK K
          try simp only [Act.put]
          refine wpAnyH_ready (rs := [7]) (by kernel_rfl) (by simp) ?_
          refine AllReadyH.cons (o := oI4_7) rfl (fun K hK => ?_) (AllReadyH.nil)
          dsimp only [oI4_7]
          simp only [Region.wanted, if_true]
          refine op_store_irow 24 (.tmp 4) (.tmp 14) rfl (g := G + 1) (t := 24) (k := .u8) (xs := num r) (ys := num r2) rfl rfl HI.out.rr (size_numN r2) (same_length _ _) ?_
          have HI := Lib.hid (HI.out.setR HG.out r2)
          refine hK.out _ _ ?_ (fun hHeld => ?_)
          · exact anyW _
          clear hK K
          try simp only [Act.put]
          refine wpAnyH_done (by kernel_rfl) ?_ _
          exact HQ.out _ _ _ _ _ _ _ HI.out
        · as_aux_lemma =>
          dsimp only [oI4_3]
          simp only [Region.wanted, if_true]
          refine wp_load_mid 24 (.tmp 4) rfl (G + 1) 0 rfl ((num r).map (Value.int .u8)) _ HI.out.rr.range Tryd.underlying24 rfl (by rw [List.length_map]; exact size_numN r) ?_
          refine hK.out _ _ ?_ (fun hHeld => ?_)
          · exact anyW _
          clear hK K
          try simp only [Act.put, List.setIfInBounds_toArray, List.set_cons_zero, List.set_cons_succ]
          refine wpAnyH_ready (rs := [2]) (by kernel_rfl) (by simp) ?_
          refine AllReadyH.cons (o := oI4_2) rfl (fun K hK => ?_) (AllReadyH.nil)
          dsimp only [oI4_2]
          go_simp
          refine (HA1.out _).mono ?_
          rintro e w4 ⟨rfl, hb4⟩
          have HI := Lib.hid (HI.out.below hb4)
          clear hb4
          go_simp
          refine hK.out _ _ ?_ (fun hHeld => ?_)
          · exact anyW _
          clear hK K
          try simp only [Act.put, List.setIfInBounds_toArray, List.set_cons_zero, List.set_cons_succ]
          refine wpAnyH_ready (rs := [5]) (by kernel_rfl) (by simp) ?_
          refine AllReadyH.cons (o := oI4_5) rfl (fun K hK => ?_) (AllReadyH.nil)
          dsimp only [oI4_5]
          go_simp
          refine (HA2.out _).mono ?_
          rintro e w4 ⟨rfl, hb4⟩
          have HI := Lib.hid (HI.out.below hb4)
          clear hb4
          go_simp
          refine hK.out _ _ ?_ (fun hHeld => ?_)
          · exact anyW _
          clear hK K
          try simp only [Act.put, List.setIfInBounds_toArray, List.set_cons_zero, List.set_cons_succ]
          refine wpAnyH_ready (rs := [6]) (by kernel_rfl) (by simp) ?_
          refine AllReadyH.cons (o := oI4_6) rfl (fun K hK => ?_) (AllReadyH.nil)
          dsimp only [oI4_6]
          simp only [Region.wanted, if_true]
          refine op_store_irow 24 (.tmp 3) (.tmp 11) rfl (g := G) (t := 24) (k := .u8) (xs := num q) (ys := num q2) rfl rfl HI.out.rg (size_numN q2) (same_length _ _) ?_
          have HI := Lib.hid (HI.out.setG HG.out q2)
          refine hK.out _ _ ?_ (fun hHeld => ?_)
          · exact anyW _
          clear hK K
          try simp only [Act.put]
          refine wpAnyH_ready (rs := [7]) (by kernel_rfl) (by simp) ?_
          refine AllReadyH.cons (o := oI4_7) rfl (fun K hK => ?_) (AllReadyH.nil)
          dsimp only [oI4_7]
          simp only [Region.wanted, if_true]
          refine op_store_irow 24 (.tmp 4) (.tmp 14) rfl (g := G + 1) (t := 24) (k := .u8) (xs := num r) (ys := num r2) rfl rfl HI.out.rr (size_numN r2) (same_length _ _) ?_
          have HI := Lib.hid (HI.out.setR HG.out r2)
          refine hK.out _ _ ?_ (fun hHeld => ?_)
          · exact anyW _
          clear hK K
          try simp only [Act.put]
          refine wpAnyH_done (by kernel_rfl) ?_ _
          exact HQ.out _ _ _ _ _ _ _ HI.out
    · as_aux_lemma =>
      dsimp only [oI4_3]
      simp only [Region.wanted, if_true]
      refine wp_load_mid 24 (.tmp 4) rfl (G + 1) 0 rfl ((num r).map (Value.int .u8)) _ HI.out.rr.range Tryd.underlying24 rfl (by rw [List.length_map]; exact size_numN r) ?_
      refine hK.out _ _ ?_ (fun hHeld => ?_)
      · exact anyW _
      clear hK K
      try simp only [Act.put, List.setIfInBounds_toArray, List.set_cons_zero, List.set_cons_succ]
      refine wpAnyH_ready (rs := [0, 4]) (by kernel_rfl) (by simp) ?_
      refine AllReadyH.cons (o := oI4_0) rfl (fun K hK => ?_) (AllReadyH.cons (o := oI4_4) rfl (fun K hK => ?_) (AllReadyH.nil))
      · as_aux_lemma =>
        dsimp only [oI4_0]
        simp only [Region.wanted, if_true]
        refine wp_load_mid 24 (.tmp 3) rfl G 0 rfl ((num q).map (Value.int .u8)) _ HI.out.rg.range Tryd.underlying24 rfl (by rw [List.length_map]; exact size_numN q) ?_
        refine hK.out _ _ ?_ (fun hHeld => ?_)
        · exact anyW _
        clear hK K
        try simp only [Act.put, List.setIfInBounds_toArray, List.set_cons_zero, List.set_cons_succ]
        refine wpAnyH_ready (rs := [2, 4]) (by kernel_rfl) (by simp) ?_
        refine AllReadyH.cons (o := oI4_2) rfl (fun K hK => ?_) (AllReadyH.cons (o := oI4_4) rfl (fun K hK => ?_) (AllReadyH.nil))
        · as_aux_lemma =>
          dsimp only [oI4_2]
          go_simp
          refine (HA1.out _).mono ?_
          rintro e w4 ⟨rfl, hb4⟩
          have HI := Lib.hid (HI.out.below hb4)
          clear hb4
          go_simp
          refine hK.out _ _ ?_ (fun hHeld => ?_)
          · exact anyW _
          clear hK K
          try simp only [Act.put, List.setIfInBounds_toArray, List.set_cons_zero, List.set_cons_succ]
          refine wpAnyH_ready (rs := [4]) (by kernel_rfl) (by simp) ?_
          refine AllReadyH.cons (o := oI4_4) rfl (fun K hK => ?_) (AllReadyH.nil)
          dsimp only [oI4_4]
          simp only [Region.wanted, if_true]
          refine wp_load_mid 24 (.tmp 4) rfl (G + 1) 0 rfl ((num r).map (Value.int .u8)) _ HI.out.rr.range Tryd.underlying24 rfl (by rw [List.length_map]; exact size_numN r) ?_
          refine hK.out _ _ ?_ (fun hHeld => ?_)
          · exact anyW _
          clear hK K
          try simp only [Act.put, List.setIfInBounds_toArray, List.set_cons_zero, List.set_cons_succ]
          refine wpAnyH_ready (rs := [5]) (by kernel_rfl) (by simp) ?_
          refine AllReadyH.cons (o := oI4_5) rfl (fun K hK => ?_) (AllReadyH.nil)
          dsimp only [oI4_5]
          go_simp
          refine (HA2.out _).mono ?_
          rintro e w4 ⟨rfl, hb4⟩
          have HI := Lib.hid (HI.out.below hb4)
          clear hb4
          go_simp
          refine hK.out _ _ ?_ (fun hHeld => ?_)
          · exact anyW _
          clear hK K
          try simp only [Act.put, List.setIfInBounds_toArray, List.set_cons_zero, List.set_cons_succ]
          refine wpAnyH_ready (rs := [6]) (by kernel_rfl) (by simp) ?_
          refine AllReadyH.cons (o := oI4_6) rfl (fun K hK => ?_) (AllReadyH.nil)
          dsimp only [oI4_6]
          simp only [Region.wanted, if_true]
          refine op_store_irow 24 (.tmp 3) (.tmp 11) rfl (g := G) (t := 24) (k := .u8) (xs := num q) (ys := num q2) rfl rfl HI.out.rg (size_numN q2) (same_length _ _) ?_
          have HI := Lib.hid (HI.out.setG HG.out q2)
          refine hK.out _ _ ?_ (fun hHeld => ?_)
          · exact anyW _
          clear hK K
          try simp only [Act.put]
          refine wpAnyH_ready (rs := [7]) (by kernel_rfl) (by simp) ?_
          refine AllReadyH.cons (o := oI4_7) rfl (fun K hK => ?_) (AllReadyH.nil)
          dsimp only [oI4_7]
          simp only [Region.wanted, if_true]
          refine op_store_irow 24 (.tmp 4) (.tmp 14) rfl (g := G + 1) (t := 24) (k := .u8) (xs := num r) (ys := num r2) rfl rfl HI.out.rr (size_numN r2) (same_length _ _) ?_
          have HI := Lib.hid (HI.out.setR HG.out r2)
          refine hK.out _ _ ?_ (fun hHeld => ?_)
          · exact anyW _
          clear hK K
          try simp only [Act.put]
          refine wpAnyH_done (by kernel_rfl) ?_ _
          exact HQ.out _ _ _ _ _ _ _ HI.out
        · as_aux_lemma =>
          dsimp only [oI4_4]
          simp only [Region.wanted, if_true]
          refine wp_load_mid 24 (.tmp 4) rfl (G + 1) 0 rfl ((num r).map (Value.int .u8)) _ HI.out.rr.range Tryd.underlying24 rfl (by rw [List.length_map]; exact size_numN r) ?_
          refine hK.out _ _ ?_ (fun hHeld => ?_)
          · exact anyW _
          clear hK K
          try simp only [Act.put, List.setIfInBounds_toArray, List.set_cons_zero, List.set_cons_succ]
          refine wpAnyH_ready (rs := [2]) (by kernel_rfl) (by simp) ?_
          refine AllReadyH.cons (o := oI4_2) rfl (fun K hK => ?_) (AllReadyH.nil)
          dsimp only [oI4_2]
          go_simp
          refine (HA1.out _).mono ?_
          rintro e w4 ⟨rfl, hb4⟩
          have HI := Lib.hid (HI.out.below hb4)
          clear hb4
          go_simp
          refine hK.out _ _ ?_ (fun hHeld => ?_)
          · exact anyW _
          clear hK K
          try simp only [Act.put, List.setIfInBounds_toArray, List.set_cons_zero, List.set_cons_succ]
          refine wpAnyH_ready (rs := [5]) (by kernel_rfl) (by simp) ?_
          refine AllReadyH.cons (o := oI4_5) rfl (fun K hK => ?_) (AllReadyH.nil)
          dsimp only [oI4_5]
          go_simp
          refine (HA2.out _).mono ?_
          rintro e w4 ⟨rfl, hb4⟩
          have HI := Lib.hid (HI.out.below hb4)
          clear hb4
          go_simp
          refine hK.out _ _ ?_ (fun hHeld => ?_)
          · exact anyW _
          clear hK K
          try simp only [Act.put, List.setIfInBounds_toArray, List.set_cons_zero, List.set_cons_succ]
          refine wpAnyH_ready (rs := [6]) (by kernel_rfl) (by simp) ?_
          refine AllReadyH.cons (o := oI4_6) rfl (fun K hK => ?_) (AllReadyH.nil)
          dsimp only [oI4_6]
          simp only [Region.wanted, if_true]
          refine op_store_irow 24 (.tmp 3) (.tmp 11) rfl (g := G) (t := 24) (k := .u8) (xs := num q) (ys := num q2) rfl rfl HI.out.rg (size_numN q2) (same_length _ _) ?_
          have HI := Lib.hid (HI.out.setG HG.out q2)
          refine hK.out _ _ ?_ (fun hHeld => ?_)
          · exact anyW _
          clear hK K
          try simp only [Act.put]
          refine wpAnyH_ready (rs := [7]) (by kernel_rfl) (by simp) ?_
          refine AllReadyH.cons (o := oI4_7) rfl (fun K hK => ?_) (AllReadyH.nil)
          dsimp only [oI4_7]
          simp only [Region.wanted, if_true]
          refine op_store_irow 24 (.tmp 4) (.tmp 14) rfl (g := G + 1) (t := 24) (k := .u8) (xs := num r) (ys := num r2) rfl rfl HI.out.rr (size_numN r2) (same_length _ _) ?_
          have HI := Lib.hid (HI.out.setR HG.out r2)
          refine hK.out _ _ ?_ (fun hHeld => ?_)
          · exact anyW _
          clear hK K
          try simp only [Act.put]
          refine wpAnyH_done (by kernel_rfl) ?_ _
          exact HQ.out _ _ _ _ _ _ _ HI.out
      · as_aux_lemma =>
        dsimp only [oI4_4]
        simp only [Region.wanted, if_true]
        refine wp_load_mid 24 (.tmp 4) rfl (G + 1) 0 rfl ((num r).map (Value.int .u8)) _ HI.out.rr.range Tryd.underlying24 rfl (by rw [List.length_map]; exact size_numN r) ?_
        refine hK.out _ _ ?_ (fun hHeld => ?_)
        · exact anyW _
        clear hK K
        try simp only [Act.put, List.setIfInBounds_toArray, List.set_cons_zero, List.set_cons_succ]
        refine wpAnyH_ready (rs := [0]) (by kernel_rfl) (by simp) ?_
        refine AllReadyH.cons (o := oI4_0) rfl (fun K hK => ?_) (AllReadyH.nil)
        dsimp only [oI4_0]
        simp only [Region.wanted, if_true]
        refine wp_load_mid 24 (.tmp 3) rfl G 0 rfl ((num q).map (Value.int .u8)) _ HI.out.rg.range Tryd.underlying24 rfl (by rw [List.length_map]; exact size_numN q) ?_
        refine hK.out _ _ ?_ (fun hHeld => ?_)
        · exact anyW _
        clear hK K
        try simp only [Act.put, List.setIfInBounds_toArray, List.set_cons_zero, List.set_cons_succ]
        refine wpAnyH_ready (rs := [2]) (by kernel_rfl) (by simp) ?_
        refine AllReadyH.cons (o := oI4_2) rfl (fun K hK => ?_) (AllReadyH.nil)
        dsimp only [oI4_2]
        go_simp
        refine (HA1.out _).mono ?_
        rintro e w4 ⟨rfl, hb4⟩
        have HI := Lib.hid (HI.out.below hb4)
        clear hb4
        go_simp
        refine hK.out _ _ ?_ (fun hHeld => ?_)
        · exact anyW _
        clear hK K
        try simp only [Act.put, List.setIfInBounds_toArray, List.set_cons_zero, List.set_cons_succ]
        refine wpAnyH_ready (rs := [5]) (by kernel_rfl) (by simp) ?_
        refine AllReadyH.cons (o := oI4_5) rfl (fun K hK => ?_) (AllReadyH.nil)
        dsimp only [oI4_5]
        go_simp
        refine (HA2.out _).mono ?_
        rintro e w4 ⟨rfl, hb4⟩
        have HI := Lib.hid (HI.out.below hb4)
        clear hb4
        go_simp
        refine hK.out _ _ ?_ (fun hHeld => ?_)
        · exact anyW _
        clear hK K
        try simp only [Act.put, List.setIfInBounds_toArray, List.set_cons_zero, List.set_cons_succ]
        refine wpAnyH_ready (rs := [6]) (by kernel_rfl) (by simp) ?_
        refine AllReadyH.cons (o := oI4_6) rfl (fun K hK => ?_) (AllReadyH.nil)
        dsimp only [oI4_6]
        simp only [Region.wanted, if_true]
        refine op_store_irow 24 (.tmp 3) (.tmp 11) rfl (g := G) (t := 24) (k := .u8) (xs := num q) (ys := num q2) rfl rfl HI.out.rg (size_numN q2) (same_length _ _) ?_
        have HI := Lib.hid (HI.out.setG HG.out q2)
        refine hK.out _ _ ?_ (fun hHeld => ?_)
        · exact anyW _
        clear hK K
        try simp only [Act.put]
        refine wpAnyH_ready (rs := [7]) (by kernel_rfl) (by simp) ?_
        refine AllReadyH.cons (o := oI4_7) rfl (fun K hK => ?_) (AllReadyH.nil)
        dsimp only [oI4_7]
        simp only [Region.wanted, if_true]
        refine op_store_irow 24 (.tmp 4) (.tmp 14) rfl (g := G + 1) (t := 24) (k := .u8) (xs := num r) (ys := num r2) rfl rfl HI.out.rr (size_numN r2) (same_length _ _) ?_
        have HI := Lib.hid (HI.out.setR HG.out r2)
        refine hK.out _ _ ?_ (fun hHeld => ?_)
        · exact anyW _
        clear hK K
        try simp only [Act.put]
        refine wpAnyH_done (by kernel_rfl) ?_ _
        exact HQ.out _ _ _ _ _ _ _ HI.out
    · as_aux_lemma =>
      dsimp only [oI4_4]
      simp only [Region.wanted, if_true]
      refine wp_load_mid 24 (.tmp 4) rfl (G + 1) 0 rfl ((num r).map (Value.int .u8)) _ HI.out.rr.range Tryd.underlying24 rfl (by rw [List.length_map]; exact size_numN r) ?_
      refine hK.out _ _ ?_ (fun hHeld => ?_)
      · exact anyW _
      clear hK K
      try simp only [Act.put, List.setIfInBounds_toArray, List.set_cons_zero, List.set_cons_succ]
      refine wpAnyH_ready (rs := [0, 3]) (by kernel_rfl) (by simp) ?_
      refine AllReadyH.cons (o := oI4_0) rfl (fun K hK => ?_) (AllReadyH.cons (o := oI4_3) rfl (fun K hK => ?_) (AllReadyH.nil))
      · as_aux_lemma =>
        dsimp only [oI4_0]
        simp only [Region.wanted, if_true]
        refine wp_load_mid 24 (.tmp 3) rfl G 0 rfl ((num q).map (Value.int .u8)) _ HI.out.rg.range Tryd.underlying24 rfl (by rw [List.length_map]; exact size_numN q) ?_
        refine hK.out _ _ ?_ (fun hHeld => ?_)
        · exact anyW _
        clear hK K
        try simp only [Act.put, List.setIfInBounds_toArray, List.set_cons_zero, List.set_cons_succ]
        refine wpAnyH_ready (rs := [2, 3]) (by kernel_rfl) (by simp) ?_
        refine AllReadyH.cons (o := oI4_2) rfl (fun K hK => ?_) (AllReadyH.cons (o := oI4_3) rfl (fun K hK => ?_) (AllReadyH.nil))
        · as_aux_lemma =>
          dsimp only [oI4_2]
          go_simp
          refine (HA1.out _).mono ?_
          rintro e w4 ⟨rfl, hb4⟩
          have HI := Lib.hid (HI.out.below hb4)
          clear hb4
          go_simp
          refine hK.out _ _ ?_ (fun hHeld => ?_)
          · exact anyW _
          clear hK K
          try simp only [Act.put, List.setIfInBounds_toArray, List.set_cons_zero, List.set_cons_succ]
          refine wpAnyH_ready (rs := [3]) (by kernel_rfl) (by simp) ?_
          refine AllReadyH.cons (o := oI4_3) rfl (fun K hK => ?_) (AllReadyH.nil)
          dsimp only [oI4_3]
          simp only [Region.wanted, if_true]
          refine wp_load_mid 24 (.tmp 4) rfl (G + 1) 0 rfl ((num r).map (Value.int .u8)) _ HI.out.rr.range Tryd.underlying24 rfl (by rw [List.length_map]; exact size_numN r) ?_
          refine hK.out _ _ ?_ (fun hHeld => ?_)
          · exact anyW _
          clear hK K
          try simp only [Act.put, List.setIfInBounds_toArray, List.set_cons_zero, List.set_cons_succ]
          refine wpAnyH_ready (rs := [5]) (by kernel_rfl) (by simp) ?_
          refine AllReadyH.cons (o := oI4_5) rfl (fun K hK => ?_) (AllReadyH.nil)
          dsimp only [oI4_5]
          go_simp
          refine (HA2.out _).mono ?_
          rintro e w4 ⟨rfl, hb4⟩
          have HI := Lib.hid (HI.out.below hb4)
          clear hb4
          go_simp
          refine hK.out _ _ ?_ (fun hHeld => ?_)
          · exact anyW _
          clear hK K
          try simp only [Act.put, List.setIfInBounds_toArray, List.set_cons_zero, List.set_cons_succ]
          refine wpAnyH_ready (rs := [6]) (by kernel_rfl) (by simp) ?_
          refine AllReadyH.cons (o := oI4_6) rfl (fun K hK => ?_) (AllReadyH.nil)
          dsimp only [oI4_6]
          simp only [Region.wanted, if_true]
          refine op_store_irow 24 (.tmp 3) (.tmp 11) rfl (g := G) (t := 24) (k := .u8) (xs := num q) (ys := num q2) rfl rfl HI.out.rg (size_numN q2) (same_length _ _) ?_
          have HI := Lib.hid (HI.out.setG HG.out q2)
          refine hK.out _ _ ?_ (fun hHeld => ?_)
          · exact anyW _
          clear hK K
          try simp only [Act.put]
          refine wpAnyH_ready (rs := [7]) (by kernel_rfl) (by simp) ?_
          refine AllReadyH.cons (o := oI4_7) rfl (fun K hK => ?_) (AllReadyH.nil)
          dsimp only [oI4_7]
          simp only [Region.wanted, if_true]
          refine op_store_irow 24 (.tmp 4) (.tmp 14) rfl (g := G + 1) (t := 24) (k := .u8) (xs := num r) (ys := num r2) rfl rfl HI.out.rr (size_numN r2) (same_length _ _) ?_
          have HI := Lib.hid (HI.out.setR HG.out r2)
          refine hK.out _ _ ?_ (fun hHeld => ?_)
          · exact anyW _
          clear hK K
          try simp only [Act.put]
          refine wpAnyH_done (by kernel_rfl) ?_ _
          exact HQ.out _ _ _ _ _ _ _ HI.out
        · as_aux_lemma =>
          dsimp only [oI4_3]
          simp only [Region.wanted, if_true]
          refine wp_load_mid 24 (.tmp 4) rfl (G + 1) 0 rfl ((num r).map (Value.int .u8)) _ HI.out.rr.range Tryd.underlying24 rfl (by rw [List.length_map]; exact size_numN r) ?_
          refine hK.out _ _ ?_ (fun hHeld => ?_)
          · exact anyW _
          clear hK K
          try simp only [Act.put, List.setIfInBounds_toArray, List.set_cons_zero, List.set_cons_succ]
          refine wpAnyH_ready (rs := [2]) (by kernel_rfl) (by simp) ?_
          refine AllReadyH.cons (o := oI4_2) rfl (fun K hK => ?_) (AllReadyH.nil)
          dsimp only [oI4_2]
          go_simp
          refine (HA1.out _).mono ?_
          rintro e w4 ⟨rfl, hb4⟩
          have HI := Lib.hid (HI.out.below hb4)
          clear hb4
          go_simp
          refine hK.out _ _ ?_ (fun hHeld => ?_)
          · exact anyW _
          clear hK K
          try simp only [Act.put, List.setIfInBounds_toArray, List.set_cons_zero, List.set_cons_succ]
          refine wpAnyH_ready (rs := [5]) (by kernel_rfl) (by simp) ?_
          refine AllReadyH.cons (o := oI4_5) rfl (fun K hK => ?_) (AllReadyH.nil)
          dsimp only [oI4_5]
          go_simp
          refine (HA2.out _).mono ?_
          rintro e w4 ⟨rfl, hb4⟩
          have HI := Lib.hid (HI.out.below hb4)
          clear hb4
          go_simp
          refine hK.out _ _ ?_ (fun hHeld => ?_)
          · exact anyW _
          clear hK K
          try simp only [Act.put, List.setIfInBounds_toArray, List.set_cons_zero, List.set_cons_succ]
          refine wpAnyH_ready (rs := [6]) (by kernel_rfl) (by simp) ?_
          refine AllReadyH.cons (o := oI4_6) rfl (fun K hK => ?_) (AllReadyH.nil)
          dsimp only [oI4_6]
          simp only [Region.wanted, if_true]
          refine op_store_irow 24 (.tmp 3) (.tmp 11) rfl (g := G) (t := 24) (k := .u8) (xs := num q) (ys := num q2) rfl rfl HI.out.rg (size_numN q2) (same_length _ _) ?_
          have HI := Lib.hid (HI.out.setG HG.out q2)
          refine hK.out _ _ ?_ (fun hHeld => ?_)
          · exact anyW _
          clear hK K
          try simp only [Act.put]
          refine wpAnyH_ready (rs := [7]) (by kernel_rfl) (by simp) ?_
          refine AllReadyH.cons (o := oI4_7) rfl (fun K hK => ?_) (AllReadyH.nil)
          dsimp only [oI4_7]
          simp only [Region.wanted, if_true]
          refine op_store_irow 24 (.tmp 4) (.tmp 14) rfl (g := G + 1) (t := 24) (k := .u8) (xs := num r) (ys := num r2) rfl rfl HI.out.rr (size_numN r2) (same_length _ _) ?_
          have HI := Lib.hid (HI.out.setR HG.out r2)
          refine hK.out _ _ ?_ (fun hHeld => ?_)
          · exact anyW _
          clear hK K
          try simp only [Act.put]
          refine wpAnyH_done (by kernel_rfl) ?_ _
          exact HQ.out _ _ _ _ _ _ _ HI.out
      · as_aux_lemma =>
        dsimp only [oI4_3]
        simp only [Region.wanted, if_true]
        refine wp_load_mid 24 (.tmp 4) rfl (G + 1) 0 rfl ((num r).map (Value.int .u8)) _ HI.out.rr.range Tryd.underlying24 rfl (by rw [List.length_map]; exact size_numN r) ?_
        refine hK.out _ _ ?_ (fun hHeld => ?_)
        · exact anyW _
        clear hK K
        try simp only [Act.put, List.setIfInBounds_toArray, List.set_cons_zero, List.set_cons_succ]
        refine wpAnyH_ready (rs := [0]) (by kernel_rfl) (by simp) ?_
        refine AllReadyH.cons (o := oI4_0) rfl (fun K hK => ?_) (AllReadyH.nil)
        dsimp only [oI4_0]
        simp only [Region.wanted, if_true]
        refine wp_load_mid 24 (.tmp 3) rfl G 0 rfl ((num q).map (Value.int .u8)) _ HI.out.rg.range Tryd.underlying24 rfl (by rw [List.length_map]; exact size_numN q) ?_
        refine hK.out _ _ ?_ (fun hHeld => ?_)
        · exact anyW _
        clear hK K
        try simp only [Act.put, List.setIfInBounds_toArray, List.set_cons_zero, List.set_cons_succ]
        refine wpAnyH_ready (rs := [2]) (by kernel_rfl) (by simp) ?_
        refine AllReadyH.cons (o := oI4_2) rfl (fun K hK => ?_) (AllReadyH.nil)
        dsimp only [oI4_2]
        go_simp
        refine (HA1.out _).mono ?_
        rintro e w4 ⟨rfl, hb4⟩
        have HI := Lib.hid (HI.out.below hb4)
        clear hb4
        go_simp
        refine hK.out _ _ ?_ (fun hHeld => ?_)
        · exact anyW _
        clear hK K
        try simp only [Act.put, List.setIfInBounds_toArray, List.set_cons_zero, List.set_cons_succ]
        refine wpAnyH_ready (rs := [5]) (by kernel_rfl) (by simp) ?_
        refine AllReadyH.cons (o := oI4_5) rfl (fun K hK => ?_) (AllReadyH.nil)
        dsimp only [oI4_5]
        go_simp
        refine (HA2.out _).mono ?_
        rintro e w4 ⟨rfl, hb4⟩
        have HI := Lib.hid (HI.out.below hb4)
        clear hb4
        go_simp
        refine hK.out _ _ ?_ (fun hHeld => ?_)
        · exact anyW _
        clear hK K
        try simp only [Act.put, List.setIfInBounds_toArray, List.set_cons_zero, List.set_cons_succ]
        refine wpAnyH_ready (rs := [6]) (by kernel_rfl) (by simp) ?_
        refine AllReadyH.cons (o := oI4_6) rfl (fun K hK => ?_) (AllReadyH.nil)
        dsimp only [oI4_6]
        simp only [Region.wanted, if_true]
        refine op_store_irow 24 (.tmp 3) (.tmp 11) rfl (g := G) (t := 24) (k := .u8) (xs := num q) (ys := num q2) rfl rfl HI.out.rg (size_numN q2) (same_length _ _) ?_
        have HI := Lib.hid (HI.out.setG HG.out q2)
        refine hK.out _ _ ?_ (fun hHeld => ?_)
        · exact anyW _
        clear hK K
        try simp only [Act.put]
        refine wpAnyH_ready (rs := [7]) (by kernel_rfl) (by simp) ?_
        refine AllReadyH.cons (o := oI4_7) rfl (fun K hK => ?_) (AllReadyH.nil)
        dsimp only [oI4_7]
        simp only [Region.wanted, if_true]
        refine op_store_irow 24 (.tmp 4) (.tmp 14) rfl (g := G + 1) (t := 24) (k := .u8) (xs := num r) (ys := num r2) rfl rfl HI.out.rr (size_numN r2) (same_length _ _) ?_
        have HI := Lib.hid (HI.out.setR HG.out r2)
        refine hK.out _ _ ?_ (fun hHeld => ?_)
        · exact anyW _
        clear hK K
        try simp only [Act.put]
        refine wpAnyH_done (by kernel_rfl) ?_ _
        exact HQ.out _ _ _ _ _ _ _ HI.out
  · as_aux_lemma =>
    dsimp only [oI4_3]
    simp only [Region.wanted, if_true]
    refine wp_load_mid 24 (.tmp 4) rfl (G + 1) 0 rfl ((num r).map (Value.int .u8)) _ HI.out.rr.range Tryd.underlying24 rfl (by rw [List.length_map]; exact size_numN r) ?_
    refine hK.out _ _ ?_ (fun hHeld => ?_)
    · exact anyW _
    clear hK K
    try simp only [Act.put, List.setIfInBounds_toArray, List.set_cons_zero, List.set_cons_succ]
    refine wpAnyH_ready (rs := [0, 1, 4]) (by kernel_rfl) (by simp) ?_
    refine AllReadyH.cons (o := oI4_0) rfl (fun K hK => ?_) (AllReadyH.cons (o := oI4_1) rfl (fun K hK => ?_) (AllReadyH.cons (o := oI4_4) rfl (fun K hK => ?_) (AllReadyH.nil)))
    · as_aux_lemma =>
      dsimp only [oI4_0]
      simp only [Region.wanted, if_true]
      refine wp_load_mid 24 (.tmp 3) rfl G 0 rfl ((num q).map (Value.int .u8)) _ HI.out.rg.range Tryd.underlying24 rfl (by rw [List.length_map]; exact size_numN q) ?_
      refine hK.out _ _ ?_ (fun hHeld => ?_)
      · exact anyW _
      clear hK K
      try simp only [Act.put, List.setIfInBounds_toArray, List.set_cons_zero, List.set_cons_succ]
      refine wpAnyH_ready (rs := [1, 4]) (by kernel_rfl) (by simp) ?_
      refine AllReadyH.cons (o := oI4_1) rfl (fun K hK => ?_) (AllReadyH.cons (o := oI4_4) rfl (fun K hK => ?_) (AllReadyH.nil))
      · as_aux_lemma =>
        dsimp only [oI4_1]
        simp only [Region.wanted, if_true]
        refine wp_load_mid 24 (.tmp 3) rfl G 0 rfl ((num q).map (Value.int .u8)) _ HI.out.rg.range Tryd.underlying24 rfl (by rw [List.length_map]; exact size_numN q) ?_
        refine hK.out _ _ ?_ (fun hHeld => ?_)
        · exact anyW _
        clear hK K
        try simp only [Act.put, List.setIfInBounds_toArray, List.set_cons_zero, List.set_cons_succ]
        refine wpAnyH_ready (rs := [2, 4]) (by kernel_rfl) (by simp) ?_
        refine AllReadyH.cons (o := oI4_2) rfl (fun K hK => ?_) (AllReadyH.cons (o := oI4_4) rfl (fun K hK => ?_) (AllReadyH.nil))
        · as_aux_lemma =>
          dsimp only [oI4_2]
          go_simp
          refine (HA1.out _).mono ?_
          rintro e w4 ⟨rfl, hb4⟩
          have HI := Lib.hid (HI.out.below hb4)
          clear hb4
          go_simp
          refine hK.out _ _ ?_ (fun hHeld => ?_)
          · exact anyW _
          clear hK K
          try simp only [Act.put, List.setIfInBounds_toArray, List.set_cons_zero, List.set_cons_succ]
          refine wpAnyH_ready (rs := [4]) (by kernel_rfl) (by simp) ?_
          refine AllReadyH.cons (o := oI4_4) rfl (fun K hK => ?_) (AllReadyH.nil)
          dsimp only [oI4_4]
          simp only [Region.wanted, if_true]
          refine wp_load_mid 24 (.tmp 4) rfl (G + 1) 0 rfl ((num r).map (Value.int .u8)) _ HI.out.rr.range Tryd.underlying24 rfl (by rw [List.length_map]; exact size_numN r) ?_
          refine hK.out _ _ ?_ (fun hHeld => ?_)
          · exact anyW _
          clear hK K
          try simp only [Act.put, List.setIfInBounds_toArray, List.set_cons_zero, List.set_cons_succ]
          refine wpAnyH_ready (rs := [5]) (by kernel_rfl) (by simp) ?_
          refine AllReadyH.cons (o := oI4_5) rfl (fun K hK => ?_) (AllReadyH.nil)
          dsimp only [oI4_5]
          go_simp
          refine (HA2.out _).mono ?_
          rintro e w4 ⟨rfl, hb4⟩
          have HI := Lib.hid (HI.out.below hb4)
          clear hb4
          go_simp
          refine hK.out _ _ ?_ (fun hHeld => ?_)
          · exact anyW _
          clear hK K
          try simp only [Act.put, List.setIfInBounds_toArray, List.set_cons_zero, List.set_cons_succ]
          refine wpAnyH_ready (rs := [6]) (by kernel_rfl) (by simp) ?_
          refine AllReadyH.cons (o := oI4_6) rfl (fun K hK => ?_) (AllReadyH.nil)
          dsimp only [oI4_6]
          simp only [Region.wanted, if_true]
          refine op_store_irow 24 (.tmp 3) (.tmp 11) rfl (g := G) (t := 24) (k := .u8) (xs := num q) (ys := num q2) rfl rfl HI.out.rg (size_numN q2) (same_length _ _) ?_
          have HI := Lib.hid (HI.out.setG HG.out q2)
          refine hK.out _ _ ?_ (fun hHeld => ?_)
          · exact anyW _
          clear hK K
          try simp only [Act.put]
          refine wpAnyH_ready (rs := [7]) (by kernel_rfl) (by simp) ?_
          refine AllReadyH.cons (o := oI4_7) rfl (fun K hK => ?_) (AllReadyH.nil)
          dsimp only [oI4_7]
          simp only [Region.wanted, if_true]
          refine op_store_irow 24 (.tmp 4) (.tmp 14) rfl (g := G + 1) (t := 24) (k := .u8) (xs := num r) (ys := num r2) rfl rfl HI.out.rr (size_numN r2) (same_length _ _) ?_
          have HI := Lib.hid (HI.out.setR HG.out r2)
          refine hK.out _ _ ?_ (fun hHeld => ?_)
          · exact anyW _
          clear hK K
          try simp only [Act.put]
          refine wpAnyH_done (by kernel_rfl) ?_ _
          exact HQ.out _ _ _ _ _ _ _ HI.out
        · as_aux_lemma =>
          dsimp only [oI4_4]
          simp only [Region.wanted, if_true]
          refine wp_load_mid 24 (.tmp 4) rfl (G + 1) 0 rfl ((num r).map (Value.int .u8)) _ HI.out.rr.range Tryd.underlying24 rfl (by rw [List.length_map]; exact size_numN r) ?_
          refine hK.out _ _ ?_ (fun hHeld => ?_)
          · exact anyW _
          clear hK K
          try simp only [Act.put, List.setIfInBounds_toArray, List.set_cons_zero, List.set_cons_succ]
          refine wpAnyH_ready (rs := [2]) (by kernel_rfl) (by simp) ?_
          refine AllReadyH.cons (o := oI4_2) rfl (fun K hK => ?_) (AllReadyH.nil)
          dsimp only [oI4_2]
          go_simp
          refine (HA1.out _).mono ?_
          rintro e w4 ⟨rfl, hb4⟩
          have HI := Lib.hid (HI.out.below hb4)
          clear hb4
          go_simp
          refine hK.out _ _ ?_ (fun hHeld => ?_)
          · exact anyW _
          clear hK K
          try simp only [Act.put, List.setIfInBounds_toArray, List.set_cons_zero, List.set_cons_succ]
          refine wpAnyH_ready (rs := [5]) (by kernel_rfl) (by simp) ?_
          refine AllReadyH.cons (o := oI4_5) rfl (fun K hK => ?_) (AllReadyH.nil)
          dsimp only [oI4_5]
          go_simp
          refine (HA2.out _).mono ?_
          rintro e w4 ⟨rfl, hb4⟩
          have HI := Lib.hid (HI.out.below hb4)
          clear hb4
          go_simp
          refine hK.out _ _ ?_ (fun hHeld => ?_)
          · exact anyW _
          clear hK K
          try simp only [Act.put, List.setIfInBounds_toArray, List.set_cons_zero, List.set_cons_succ]
          refine wpAnyH_ready (rs := [6]) (by kernel_rfl) (by simp) ?_
          refine AllReadyH.cons (o := oI4_6) rfl (fun K hK => ?_) (AllReadyH.nil)
          dsimp only [oI4_6]
          simp only [Region.wanted, if_true]
          refine op_store_irow 24 (.tmp 3) (.tmp 11) rfl (g := G) (t := 24) (k := .u8) (xs := num q) (ys := num q2) rfl rfl HI.out.rg (size_numN q2) (same_length _ _) ?_
          have HI := Lib.hid (HI.out.setG HG.out q2)
          refine hK.out _ _ ?_ (fun hHeld => ?_)
          · exact anyW _
          clear hK K
          try simp only [Act.put]
          refine wpAnyH_ready (rs := [7]) (by kernel_rfl) (by simp) ?_
          refine AllReadyH.cons (o := oI4_7) rfl (fun K hK => ?_) (AllReadyH.nil)
          dsimp only [oI4_7]
          simp only [Region.wanted, if_true]
          refine op_store_irow 24 (.tmp 4) (.tmp 14) rfl (g := G + 1) (t := 24) (k := .u8) (xs := num r) (ys := num r2) rfl rfl HI.out.rr (size_numN r2) (same_length _ _) ?_
          have HI := Lib.hid (HI.out.setR HG.out r2)
          refine hK.out _ _ ?_ (fun hHeld => ?_)
          · exact anyW _
          clear hK K
          try simp only [Act.put]
          refine wpAnyH_done (by kernel_rfl) ?_ _
          exact HQ.out _ _ _ _ _ _ _ HI.out
      · as_aux_lemma =>
        dsimp only [oI4_4]
        simp only [Region.wanted, if_true]
        refine wp_load_mid 24 (.tmp 4) rfl (G + 1) 0 rfl ((num r).map (Value.int .u8)) _ HI.out.rr.range Tryd.underlying24 rfl (by rw [List.length_map]; exact size_numN r) ?_
        refine hK.out _ _ ?_ (fun hHeld => ?_)
        · exact anyW _
        clear hK K
        try simp only [Act.put, List.setIfInBounds_toArray, List.set_cons_zero, List.set_cons_succ]
        refine wpAnyH_ready (rs := [1]) (by kernel_rfl) (by simp) ?_
        refine AllReadyH.cons (o := oI4_1) rfl (fun K hK => ?_) (AllReadyH.nil)
        dsimp only [oI4_1]
        simp only [Region.wanted, if_true]
        refine wp_load_mid 24 (.tmp 3) rfl G 0 rfl ((num q).map (Value.int .u8)) _ HI.out.rg.range Tryd.underlying24 rfl (by rw [List.length_map]; exact size_numN q) ?_
        refine hK.out _ _ ?_ (fun hHeld => ?_)
        · exact anyW _
        clear hK K
        try simp only [Act.put, List.setIfInBounds_toArray, List.set_cons_zero, List.set_cons_succ]
        refine wpAnyH_ready (rs := [2]) (by kernel_rfl) (by simp) ?_
        refine AllReadyH.cons (o := oI4_2) rfl (fun K hK => ?_) (AllReadyH.nil)
        dsimp only [oI4_2]
        go_simp
        refine (HA1.out _).mono ?_
        rintro e w4 ⟨rfl, hb4⟩
        have HI := Lib.hid (HI.out.below hb4)
        clear hb4
        go_simp
        refine hK.out _ _ ?_ (fun hHeld => ?_)
        · exact anyW _
        clear hK K
        try simp only [Act.put, List.setIfInBounds_toArray, List.set_cons_zero, List.set_cons_succ]
        refine wpAnyH_ready (rs := [5]) (by kernel_rfl) (by simp) ?_
        refine AllReadyH.cons (o := oI4_5) rfl (fun K hK => ?_) (AllReadyH.nil)
        dsimp only [oI4_5]
        go_simp
        refine (HA2.out _).mono ?_
        rintro e w4 ⟨rfl, hb4⟩
        have HI := Lib.hid (HI.out.below hb4)
        clear hb4
        go_simp
        refine hK.out _ _ ?_ (fun hHeld => ?_)
        · exact anyW _
        clear hK K
        try simp only [Act.put, List.setIfInBounds_toArray, List.set_cons_zero, List.set_cons_succ]
        refine wpAnyH_ready (rs := [6]) (by kernel_rfl) (by simp) ?_
        refine AllReadyH.cons (o := oI4_6) rfl (fun K hK => ?_) (AllReadyH.nil)
        dsimp only [oI4_6]
        simp only [Region.wanted, if_true]
        refine op_store_irow 24 (.tmp 3) (.tmp 11) rfl (g := G) (t := 24) (k := .u8) (xs := num q) (ys := num q2) rfl rfl HI.out.rg (size_numN q2) (same_length _ _) ?_
        have HI := Lib.hid (HI.out.setG HG.out q2)
        refine hK.out _ _ ?_ (fun hHeld => ?_)
        · exact anyW _
        clear hK K
        try simp only [Act.put]
        refine wpAnyH_ready (rs := [7]) (by kernel_rfl) (by simp) ?_
        refine AllReadyH.cons (o := oI4_7) rfl (fun K hK => ?_) (AllReadyH.nil)
        dsimp only [oI4_7]
        simp only [Region.wanted, if_true]
        refine op_store_irow 24 (.tmp 4) (.tmp 14) rfl (g := G + 1) (t := 24) (k := .u8) (xs := num r) (ys := num r2) rfl rfl HI.out.rr (size_numN r2) (same_length _ _) ?_
        have HI := Lib.hid (HI.out.setR HG.out r2)
        refine hK.out _ _ ?_ (fun hHeld => ?_)
        · exact anyW _
        clear hK K
        try simp only [Act.put]
        refine wpAnyH_done (by kernel_rfl) ?_ _
        exact HQ.out _ _ _ _ _ _ _ HI.out
    · as_aux_lemma =>
      dsimp only [oI4_1]
      simp only [Region.wanted, if_true]
      refine wp_load_mid 24 (.tmp 3) rfl G 0 rfl ((num q).map (Value.int .u8)) _ HI.out.rg.range Tryd.underlying24 rfl (by rw [List.length_map]; exact size_numN q) ?_
      refine hK.out _ _ ?_ (fun hHeld => ?_)
      · exact anyW _
      clear hK K
      try simp only [Act.put, List.setIfInBounds_toArray, List.set_cons_zero, List.set_cons_succ]
      refine wpAnyH_ready (rs := [0, 4]) (by kernel_rfl) (by simp) ?_
      refine AllReadyH.cons (o := oI4_0) rfl (fun K hK => ?_) (AllReadyH.cons (o := oI4_4) rfl (fun K hK => ?_) (AllReadyH.nil))
      · as_aux_lemma =>
        dsimp only [oI4_0]
        simp only [Region.wanted, if_true]
        refine wp_load_mid 24 (.tmp 3) rfl G 0 rfl ((num q).map (Value.int .u8)) _ HI.out.rg.range Tryd.underlying24 rfl (by rw [List.length_map]; exact size_numN q) ?_
        refine hK.out _ _ ?_ (fun hHeld => ?_)
        · exact anyW _
        clear hK K
        try simp only [Act.put, List.setIfInBounds_toArray, List.set_cons_zero, List.set_cons_succ]
        refine wpAnyH_ready (rs := [2, 4]) (by kernel_rfl) (by simp) ?_
        refine AllReadyH.cons (o := oI4_2) rfl (fun K hK => ?_) (AllReadyH.cons (o := oI4_4) rfl (fun K hK => ?_) (AllReadyH.nil))
        · as_aux_lemma =>
          dsimp only [oI4_2]
          go_simp
          refine (HA1.out _).mono ?_
          rintro e w4 ⟨rfl, hb4⟩
          have HI := Lib.hid (HI.out.below hb4)
          clear hb4
          go_simp
          refine hK.out _ _ ?_ (fun hHeld => ?_)
          · exact anyW _
          clear hK K
          try simp only [Act.put, List.setIfInBounds_toArray, List.set_cons_zero, List.set_cons_succ]
          refine wpAnyH_ready (rs := [4]) (by kernel_rfl) (by simp) ?_
          refine AllReadyH.cons (o := oI4_4) rfl (fun K hK => ?_) (AllReadyH.nil)
          dsimp only [oI4_4]
          simp only [Region.wanted, if_true]
          refine wp_load_mid 24 (.tmp 4) rfl (G + 1) 0 rfl ((num r).map (Value.int .u8)) _ HI.out.rr.range Tryd.underlying24 rfl (by rw [List.length_map]; exact size_numN r) ?_
          refine hK.out _ _ ?_ (fun hHeld => ?_)
          · exact anyW _
          clear hK K
          try simp only [Act.put, List.setIfInBounds_toArray, List.set_cons_zero, List.set_cons_succ]
          refine wpAnyH_ready (rs := [5]) (by kernel_rfl) (by simp) ?_
          refine AllReadyH.cons (o := oI4_5) rfl (fun K hK => ?_) (AllReadyH.nil)
          dsimp only [oI4_5]
          go_simp
          refine (HA2.out _).mono ?_
          rintro e w4 ⟨rfl, hb4⟩
          have HI := Lib.hid (HI.out.below hb4)
          clear hb4
          go_simp
          refine hK.out _ _ ?_ (fun hHeld => ?_)
          · exact anyW _
          clear hK K
          try simp only [Act.put, List.setIfInBounds_toArray, List.set_cons_zero, List.set_cons_succ]
          refine wpAnyH_ready (rs := [6]) (by kernel_rfl) (by simp) ?_
          refine AllReadyH.cons (o := oI4_6) rfl (fun K hK => ?_) (AllReadyH.nil)
          dsimp only [oI4_6]
          simp only [Region.wanted, if_true]
          refine op_store_irow 24 (.tmp 3) (.tmp 11) rfl (g := G) (t := 24) (k := .u8) (xs := num q) (ys := num q2) rfl rfl HI.out.rg (size_numN q2) (same_length _ _) ?_
          have HI := Lib.hid (HI.out.setG HG.out q2)
          refine hK.out _ _ ?_ (fun hHeld => ?_)
          · exact anyW _
          clear hK K
          try simp only [Act.put]
          refine wpAnyH_ready (rs := [7]) (by kernel_rfl) (by simp) ?_
          refine AllReadyH.cons (o := oI4_7) rfl (fun K hK => ?_) (AllReadyH.nil)
          dsimp only [oI4_7]
          simp only [Region.wanted, if_true]
          refine op_store_irow 24 (.tmp 4) (.tmp 14) rfl (g := G + 1) (t := 24) (k := .u8) (xs := num r) (ys := num r2) rfl rfl HI.out.rr (size_numN r2) (same_length _ _) ?_
          have HI := Lib.hid (HI.out.setR HG.out r2)
          refine hK.out _ _ ?_ (fun hHeld => ?_)
          · exact anyW _
          clear hK K
          try simp only [Act.put]
          refine wpAnyH_done (by kernel_rfl) ?_ _
          exact HQ.out _ _ _ _ _ _ _ HI.out
        · as_aux_lemma =>
          dsimp only [oI4_4]
          simp only [Region.wanted, if_true]
          refine wp_load_mid 24 (.tmp 4) rfl (G + 1) 0 rfl ((num r).map (Value.int .u8)) _ HI.out.rr.range Tryd.underlying24 rfl (by rw [List.length_map]; exact size_numN r) ?_
          refine hK.out _ _ ?_ (fun hHeld => ?_)
          · exact anyW _
          clear hK K
          try simp only [Act.put, List.setIfInBounds_toArray, List.set_cons_zero, List.set_cons_succ]
          refine wpAnyH_ready (rs := [2]) (by kernel_rfl) (by simp) ?_
          refine AllReadyH.cons (o := oI4_2) rfl (fun K hK => ?_) (AllReadyH.nil)
          dsimp only [oI4_2]
          go_simp
          refine (HA1.out _).mono ?_
          rintro e w4 ⟨rfl, hb4⟩
          have HI := Lib.hid (HI.out.below hb4)
          clear hb4
          go_simp
          refine hK.out _ _ ?_ (fun hHeld => ?_)
          · exact anyW _
          clear hK K
          try simp only [Act.put, List.setIfInBounds_toArray, List.set_cons_zero, List.set_cons_succ]
          refine wpAnyH_ready (rs := [5]) (by kernel_rfl) (by simp) ?_
          refine AllReadyH.cons (o := oI4_5) rfl (fun K hK => ?_) (AllReadyH.nil)
          dsimp only [oI4_5]
          go_simp
          refine (HA2.out _).mono ?_
          rintro e w4 ⟨rfl, hb4⟩
          have HI := Lib.hid (HI.out.below hb4)
          clear hb4
          go_simp
          refine hK.out _ _ ?_ (fun hHeld => ?_)
          · exact anyW _
          clear hK K
          try simp only [Act.put, List.setIfInBounds_toArray, List.set_cons_zero, List.set_cons_succ]
          refine wpAnyH_ready (rs := [6]) (by kernel_rfl) (by simp) ?_
          refine AllReadyH.cons (o := oI4_6) rfl (fun K hK => ?_) (AllReadyH.nil)
          dsimp only [oI4_6]
          simp only [Region.wanted, if_true]
          refine op_store_irow 24 (.tmp 3) (.tmp 11) rfl (g := G) (t := 24) (k := .u8) (xs := num q) (ys := num q2) rfl rfl HI.out.rg (size_numN q2) (same_length _ _) ?_
          have HI := Lib.hid (HI.out.setG HG.out q2)
          refine hK.out _ _ ?_ (fun hHeld => ?_)
          · exact anyW _
          clear hK K
          try simp only [Act.put]
          refine wpAnyH_ready (rs := [7]) (by kernel_rfl) (by simp) ?_
          refine AllReadyH.cons (o := oI4_7) rfl (fun K hK => ?_) (AllReadyH.nil)
          dsimp only [oI4_7]
          simp only [Region.wanted, if_true]
          refine op_store_irow 24 (.tmp 4) (.tmp 14) rfl (g := G + 1) (t := 24) (k := .u8) (xs := num r) (ys := num r2) rfl rfl HI.out.rr (size_numN r2) (same_length _ _) ?_
          have HI := Lib.hid (HI.out.setR HG.out r2)
          refine hK.out _ _ ?_ (fun hHeld => ?_)
          · exact anyW _
          clear hK K
          try simp only [Act.put]
          refine wpAnyH_done (by kernel_rfl) ?_ _
          exact HQ.out _ _ _ _ _ _ _ HI.out
      · as_aux_lemma =>
        dsimp only [oI4_4]
        simp only [Region.wanted, if_true]
        refine wp_load_mid 24 (.tmp 4) rfl (G + 1) 0 rfl ((num r).map (Value.int .u8)) _ HI.out.rr.range Tryd.underlying24 rfl (by rw [List.length_map]; exact size_numN r) ?_
        refine hK.out _ _ ?_ (fun hHeld => ?_)
        · exact anyW _
        clear hK K
        try simp only [Act.put, List.setIfInBounds_toArray, List.set_cons_zero, List.set_cons_succ]
        refine wpAnyH_ready (rs := [0]) (by kernel_rfl) (by simp) ?_
        refine AllReadyH.cons (o := oI4_0) rfl (fun K hK => ?_) (AllReadyH.nil)
        dsimp only [oI4_0]
        simp only [Region.wanted, if_true]
        refine wp_load_mid 24 (.tmp 3) rfl G 0 rfl ((num q).map (Value.int .u8)) _ HI.out.rg.range Tryd.underlying24 rfl (by rw [List.length_map]; exact size_numN q) ?_
        refine hK.out _ _ ?_ (fun hHeld => ?_)
        · exact anyW _
        clear hK K
        try simp only [Act.put, List.setIfInBounds_toArray, List.set_cons_zero, List.set_cons_succ]
        refine wpAnyH_ready (rs := [2]) (by kernel_rfl) (by simp) ?_
        refine AllReadyH.cons (o := oI4_2) rfl (fun K hK => ?_) (AllReadyH.nil)
        dsimp only [oI4_2]
        go_simp
        refine (HA1.out _).mono ?_
        rintro e w4 ⟨rfl, hb4⟩
        have HI := Lib.hid (HI.out.below hb4)
        clear hb4
        go_simp
        refine hK.out _ _ ?_ (fun hHeld => ?_)
        · exact anyW _
        clear hK K
        try simp only [Act.put, List.setIfInBounds_toArray, List.set_cons_zero, List.set_cons_succ]
        refine wpAnyH_ready (rs := [5]) (by kernel_rfl) (by simp) ?_
        refine AllReadyH.cons (o := oI4_5) rfl (fun K hK => ?_) (AllReadyH.nil)
        dsimp only [oI4_5]
        go_simp
        refine (HA2.out _).mono ?_
        rintro e w4 ⟨rfl, hb4⟩
        have HI := Lib.hid (HI.out.below hb4)
        clear hb4
        go_simp
        refine hK.out _ _ ?_ (fun hHeld => ?_)
        · exact anyW _
        clear hK K
        try simp only [Act.put, List.setIfInBounds_toArray, List.set_cons_zero, List.set_cons_succ]
        refine wpAnyH_ready (rs := [6]) (by kernel_rfl) (by simp) ?_
        refine AllReadyH.cons (o := oI4_6) rfl (fun K hK => ?_) (AllReadyH.nil)
        dsimp only [oI4_6]
        simp only [Region.wanted, if_true]
        refine op_store_irow 24 (.tmp 3) (.tmp 11) rfl (g := G) (t := 24) (k := .u8) (xs := num q) (ys := num q2) rfl rfl HI.out.rg (size_numN q2) (same_length _ _) ?_
        have HI := Lib.hid (HI.out.setG HG.out q2)
        refine hK.out _ _ ?_ (fun hHeld => ?_)
        · exact anyW _
        clear hK K
        try simp only [Act.put]
        refine wpAnyH_ready (rs := [7]) (by kernel_rfl) (by simp) ?_
        refine AllReadyH.cons (o := oI4_7) rfl (fun K hK => ?_) (AllReadyH.nil)
        dsimp only [oI4_7]
        simp only [Region.wanted, if_true]
        refine op_store_irow 24 (.tmp 4) (.tmp 14) rfl (g := G + 1) (t := 24) (k := .u8) (xs := num r) (ys := num r2) rfl rfl HI.out.rr (size_numN r2) (same_length _ _) ?_
        have HI := Lib.hid (HI.out.setR HG.out r2)
        refine hK.out _ _ ?_ (fun hHeld => ?_)
        · exact anyW _
        clear hK K
        try simp only [Act.put]
        refine wpAnyH_done (by kernel_rfl) ?_ _
        exact HQ.out _ _ _ _ _ _ _ HI.out
    · as_aux_lemma =>
      dsimp only [oI4_4]
      simp only [Region.wanted, if_true]
      refine wp_load_mid 24 (.tmp 4) rfl (G + 1) 0 rfl ((num r).map (Value.int .u8)) _ HI.out.rr.range Tryd.underlying24 rfl (by rw [List.length_map]; exact size_numN r) ?_
      refine hK.out _ _ ?_ (fun hHeld => ?_)
      · exact anyW _
      clear hK K
      try simp only [Act.put, List.setIfInBounds_toArray, List.set_cons_zero, List.set_cons_succ]
      refine wpAnyH_ready (rs := [0, 1]) (by kernel_rfl) (by simp) ?_
      refine AllReadyH.cons (o := oI4_0) rfl (fun K hK => ?_) (AllReadyH.cons (o := oI4_1) rfl (fun K hK => ?_) (AllReadyH.nil))
      · as_aux_lemma =>
        dsimp only [oI4_0]
        simp only [Region.wanted, if_true]
        refine wp_load_mid 24 (.tmp 3) rfl G 0 rfl ((num q).map (Value.int .u8)) _ HI.out.rg.range Tryd.underlying24 rfl (by rw [List.length_map]; exact size_numN q) ?_
        refine hK.out _ _ ?_ (fun hHeld => ?_)
        · exact anyW _
        clear hK K
        try simp only [Act.put, List.setIfInBounds_toArray, List.set_cons_zero, List.set_cons_succ]
        refine wpAnyH_ready (rs := [1]) (by kernel_rfl) (by simp) ?_
        refine AllReadyH.cons (o := oI4_1) rfl (fun K hK => ?_) (AllReadyH.nil)
        dsimp only [oI4_1]
        simp only [Region.wanted, if_true]
        refine wp_load_mid 24 (.tmp 3) rfl G 0 rfl ((num q).map (Value.int .u8)) _ HI.out.rg.range Tryd.underlying24 rfl (by rw [List.length_map]; exact size_numN q) ?_
        refine hK.out _ _ ?_ (fun hHeld => ?_)
        · exact anyW _
        clear hK K
        try simp only [Act.put, List.setIfInBounds_toArray, List.set_cons_zero, List.set_cons_succ]
        refine wpAnyH_ready (rs := [2]) (by kernel_rfl) (by simp) ?_
        refine AllReadyH.cons (o := oI4_2) rfl (fun K hK => ?_) (AllReadyH.nil)
        dsimp only [oI4_2]
        go_simp
        refine (HA1.out _).mono ?_
        rintro e w4 ⟨rfl, hb4⟩
        have HI := Lib.hid (HI.out.below hb4)
        clear hb4
        go_simp
        refine hK.out _ _ ?_ (fun hHeld => ?_)
        · exact anyW _
        clear hK K
        try simp only [Act.put, List.setIfInBounds_toArray, List.set_cons_zero, List.set_cons_succ]
        refine wpAnyH_ready (rs := [5]) (by kernel_rfl) (by simp) ?_
        refine AllReadyH.cons (o := oI4_5) rfl (fun K hK => ?_) (AllReadyH.nil)
        dsimp only [oI4_5]
        go_simp
        refine (HA2.out _).mono ?_
        rintro e w4 ⟨rfl, hb4⟩
        have HI := Lib.hid (HI.out.below hb4)
        clear hb4
        go_simp
        refine hK.out _ _ ?_ (fun hHeld => ?_)
        · exact anyW _
        clear hK K
        try simp only [Act.put, List.setIfInBounds_toArray, List.set_cons_zero, List.set_cons_succ]
        refine wpAnyH_ready (rs := [6]) (by kernel_rfl) (by simp) ?_
        refine AllReadyH.cons (o := oI4_6) rfl (fun K hK => ?_) (AllReadyH.nil)
        dsimp only [oI4_6]
        simp only [Region.wanted, if_true]
        refine op_store_irow 24 (.tmp 3) (.tmp 11) rfl (g := G) (t := 24) (k := .u8) (xs := num q) (ys := num q2) rfl rfl HI.out.rg (size_numN q2) (same_length _ _) ?_
        have HI := Lib.hid (HI.out.setG HG.out q2)
        refine hK.out _ _ ?_ (fun hHeld => ?_)
        · exact anyW _
        clear hK K
        try simp only [Act.put]
        refine wpAnyH_ready (rs := [7]) (by kernel_rfl) (by simp) ?_
        refine AllReadyH.cons (o := oI4_7) rfl (fun K hK => ?_) (AllReadyH.nil)
        dsimp only [oI4_7]
        simp only [Region.wanted, if_true]
        refine op_store_irow 24 (.tmp 4) (.tmp 14) rfl (g := G + 1) (t := 24) (k := .u8) (xs := num r) (ys := num r2) rfl rfl HI.out.rr (size_numN r2) (same_length _ _) ?_
        have HI := Lib.hid (HI.out.setR HG.out r2)
        refine hK.out _ _ ?_ (fun hHeld => ?_)
        · exact anyW _
        clear hK K
        try simp only [Act.put]
        refine wpAnyH_done (by kernel_rfl) ?_ _
        exact HQ.out _ _ _ _ _ _ _ HI.out
      · as_aux_lemma =>
        dsimp only [oI4_1]
        simp only [Region.wanted, if_true]
        refine wp_load_mid 24 (.tmp 3) rfl G 0 rfl ((num q).map (Value.int .u8)) _ HI.out.rg.range Tryd.underlying24 rfl (by rw [List.length_map]; exact size_numN q) ?_
        refine hK.out _ _ ?_ (fun hHeld => ?_)
        · exact anyW _
        clear hK K
        try simp only [Act.put, List.setIfInBounds_toArray, List.set_cons_zero, List.set_cons_succ]
        refine wpAnyH_ready (rs := [0]) (by kernel_rfl) (by simp) ?_
        refine AllReadyH.cons (o := oI4_0) rfl (fun K hK => ?_) (AllReadyH.nil)
        dsimp only [oI4_0]
        simp only [Region.wanted, if_true]
        refine wp_load_mid 24 (.tmp 3) rfl G 0 rfl ((num q).map (Value.int .u8)) _ HI.out.rg.range Tryd.underlying24 rfl (by rw [List.length_map]; exact size_numN q) ?_
        refine hK.out _ _ ?_ (fun hHeld => ?_)
        · exact anyW _
        clear hK K
        try simp only [Act.put, List.setIfInBounds_toArray, List.set_cons_zero, List.set_cons_succ]
        refine wpAnyH_ready (rs := [2]) (by kernel_rfl) (by simp) ?_
        refine AllReadyH.cons (o := oI4_2) rfl (fun K hK => ?_) (AllReadyH.nil)
        dsimp only [oI4_2]
        go_simp
        refine (HA1.out _).mono ?_
        rintro e w4 ⟨rfl, hb4⟩
        have HI := Lib.hid (HI.out.below hb4)
        clear hb4
        go_simp
        refine hK.out _ _ ?_ (fun hHeld => ?_)
        · exact anyW _
        clear hK K
        try simp only [Act.put, List.setIfInBounds_toArray, List.set_cons_zero, List.set_cons_succ]
        refine wpAnyH_ready (rs := [5]) (by kernel_rfl) (by simp) ?_
        refine AllReadyH.cons (o := oI4_5) rfl (fun K hK => ?_) (AllReadyH.nil)
        dsimp only [oI4_5]
        go_simp
        refine (HA2.out _).mono ?_
        rintro e w4 ⟨rfl, hb4⟩
        have HI := Lib.hid (HI.out.below hb4)
        clear hb4
        go_simp
        refine hK.out _ _ ?_ (fun hHeld => ?_)
        · exact anyW _
        clear hK K
        try simp only [Act.put, List.setIfInBounds_toArray, List.set_cons_zero, List.set_cons_succ]
        refine wpAnyH_ready (rs := [6]) (by kernel_rfl) (by simp) ?_
        refine AllReadyH.cons (o := oI4_6) rfl (fun K hK => ?_) (AllReadyH.nil)
        dsimp only [oI4_6]
        simp only [Region.wanted, if_true]
        refine op_store_irow 24 (.tmp 3) (.tmp 11) rfl (g := G) (t := 24) (k := .u8) (xs := num q) (ys := num q2) rfl rfl HI.out.rg (size_numN q2) (same_length _ _) ?_
        have HI := Lib.hid (HI.out.setG HG.out q2)
        refine hK.out _ _ ?_ (fun hHeld => ?_)
        · exact anyW _
        clear hK K
        try simp only [Act.put]
        refine wpAnyH_ready (rs := [7]) (by kernel_rfl) (by simp) ?_
        refine AllReadyH.cons (o := oI4_7) rfl (fun K hK => ?_) (AllReadyH.nil)
        dsimp only [oI4_7]
        simp only [Region.wanted, if_true]
        refine op_store_irow 24 (.tmp 4) (.tmp 14) rfl (g := G + 1) (t := 24) (k := .u8) (xs := num r) (ys := num r2) rfl rfl HI.out.rr (size_numN r2) (same_length _ _) ?_
        have HI := Lib.hid (HI.out.setR HG.out r2)
        refine hK.out _ _ ?_ (fun hHeld => ?_)
        · exact anyW _
        clear hK K
        try simp only [Act.put]
        refine wpAnyH_done (by kernel_rfl) ?_ _
        exact HQ.out _ _ _ _ _ _ _ HI.out
  · as_aux_lemma =>
    dsimp only [oI4_4]
    simp only [Region.wanted, if_true]
    refine wp_load_mid 24 (.tmp 4) rfl (G + 1) 0 rfl ((num r).map (Value.int .u8)) _ HI.out.rr.range Tryd.underlying24 rfl (by rw [List.length_map]; exact size_numN r) ?_
    refine hK.out _ _ ?_ (fun hHeld => ?_)
    · exact anyW _
    clear hK K
    try simp only [Act.put, List.setIfInBounds_toArray, List.set_cons_zero, List.set_cons_succ]
    refine wpAnyH_ready (rs := [0, 1, 3]) (by kernel_rfl) (by simp) ?_
    refine AllReadyH.cons (o := oI4_0) rfl (fun K hK => ?_) (AllReadyH.cons (o := oI4_1) rfl (fun K hK => ?_) (AllReadyH.cons (o := oI4_3) rfl (fun K hK => ?_) (AllReadyH.nil)))
    · as_aux_lemma =>
      dsimp only [oI4_0]
      simp only [Region.wanted, if_true]
      refine wp_load_mid 24 (.tmp 3) rfl G 0 rfl ((num q).map (Value.int .u8)) _ HI.out.rg.range Tryd.underlying24 rfl (by rw [List.length_map]; exact size_numN q) ?_
      refine hK.out _ _ ?_ (fun hHeld => ?_)
      · exact anyW _
      clear hK K
      try simp only [Act.put, List.setIfInBounds_toArray, List.set_cons_zero, List.set_cons_succ]
      refine wpAnyH_ready (rs := [1, 3]) (by kernel_rfl) (by simp) ?_
      refine AllReadyH.cons (o := oI4_1) rfl (fun K hK => ?_) (AllReadyH.cons (o := oI4_3) rfl (fun K hK => ?_) (AllReadyH.nil))
      · as_aux_lemma =>
        dsimp only [oI4_1]
        simp only [Region.wanted, if_true]
        refine wp_load_mid 24 (.tmp 3) rfl G 0 rfl ((num q).map (Value.int .u8)) _ HI.out.rg.range Tryd.underlying24 rfl (by rw [List.length_map]; exact size_numN q) ?_
        refine hK.out _ _ ?_ (fun hHeld => ?_)
        · exact anyW _
        clear hK K
        try simp only [Act.put, List.setIfInBounds_toArray, List.set_cons_zero, List.set_cons_succ]
        refine wpAnyH_ready (rs := [2, 3]) (by kernel_rfl) (by simp) ?_
        refine AllReadyH.cons (o := oI4_2) rfl (fun K hK => ?_) (AllReadyH.cons (o := oI4_3) rfl (fun K hK => ?_) (AllReadyH.nil))
        · as_aux_lemma =>
          dsimp only [oI4_2]
          go_simp
          refine (HA1.out _).mono ?_
          rintro e w4 ⟨rfl, hb4⟩
          have HI := Lib.hid (HI.out.below hb4)
          clear hb4
          go_simp
          refine hK.out _ _ ?_ (fun hHeld => ?_)
          · exact anyW _
          clear hK K
          try simp only [Act.put, List.setIfInBounds_toArray, List.set_cons_zero, List.set_cons_succ]
          refine wpAnyH_ready (rs := [3]) (by kernel_rfl) (by simp) ?_
          refine AllReadyH.cons (o := oI4_3) rfl (fun K hK => ?_) (AllReadyH.nil)
          dsimp only [oI4_3]
          simp only [Region.wanted, if_true]
          refine wp_load_mid 24 (.tmp 4) rfl (G + 1) 0 rfl ((num r).map (Value.int .u8)) _ HI.out.rr.range Tryd.underlying24 rfl (by rw [List.length_map]; exact size_numN r) ?_
          refine hK.out _ _ ?_ (fun hHeld => ?_)
          · exact anyW _
          clear hK K
          try simp only [Act.put, List.setIfInBounds_toArray, List.set_cons_zero, List.set_cons_succ]
          refine wpAnyH_ready (rs := [5]) (by kernel_rfl) (by simp) ?_
          refine AllReadyH.cons (o := oI4_5) rfl (fun K hK => ?_) (AllReadyH.nil)
          dsimp only [oI4_5]
          go_simp
          refine (HA2.out _).mono ?_
          rintro e w4 ⟨rfl, hb4⟩
          have HI := Lib.hid (HI.out.below hb4)
          clear hb4
          go_simp
          refine hK.out _ _ ?_ (fun hHeld => ?_)
          · exact anyW _
          clear hK K
          try simp only [Act.put, List.setIfInBounds_toArray, List.set_cons_zero, List.set_cons_succ]
          refine wpAnyH_ready (rs := [6]) (by kernel_rfl) (by simp) ?_
          refine AllReadyH.cons (o := oI4_6) rfl (fun K hK => ?_) (AllReadyH.nil)
          dsimp only [oI4_6]
          simp only [Region.wanted, if_true]
          refine op_store_irow 24 (.tmp 3) (.tmp 11) rfl (g := G) (t := 24) (k := .u8) (xs := num q) (ys := num q2) rfl rfl HI.out.rg (size_numN q2) (same_length _ _) ?_
          have HI := Lib.hid (HI.out.setG HG.out q2)
          refine hK.out _ _ ?_ (fun hHeld => ?_)
          · exact anyW _
          clear hK K
          try simp only [Act.put]
          refine wpAnyH_ready (rs := [7]) (by kernel_rfl) (by simp) ?_
          refine AllReadyH.cons (o := oI4_7) rfl (fun K hK => ?_) (AllReadyH.nil)
          dsimp only [oI4_7]
          simp only [Region.wanted, if_true]
          refine op_store_irow 24 (.tmp 4) (.tmp 14) rfl (g := G + 1) (t := 24) (k := .u8) (xs := num r) (ys := num r2) rfl rfl HI.out.rr (size_numN r2) (same_length _ _) ?_
          have HI := Lib.hid (HI.out.setR HG.out r2)
          refine hK.out _ _ ?_ (fun hHeld => ?_)
          · exact anyW _
          clear hK K
          try simp only [Act.put]
          refine wpAnyH_done (by kernel_rfl) ?_ _
          exact HQ.out _ _ _ _ _ _ _ HI.out
        · as_aux_lemma =>
          dsimp only [oI4_3]
          simp only [Region.wanted, if_true]
          refine wp_load_mid 24 (.tmp 4) rfl (G + 1) 0 rfl ((num r).map (Value.int .u8)) _ HI.out.rr.range Tryd.underlying24 rfl (by rw [List.length_map]; exact size_numN r) ?_
          refine hK.out _ _ ?_ (fun hHeld => ?_)
          · exact anyW _
          clear hK K
          try simp only [Act.put, List.setIfInBounds_toArray, List.set_cons_zero, List.set_cons_succ]
          refine wpAnyH_ready (rs := [2]) (by kernel_rfl) (by simp) ?_
          refine AllReadyH.cons (o := oI4_2) rfl (fun K hK => ?_) (AllReadyH.nil)
          dsimp only [oI4_2]
          go_simp
          refine (HA1.out _).mono ?_
          rintro e w4 ⟨rfl, hb4⟩
          have HI := Lib.hid (HI.out.below hb4)
          clear hb4
          go_simp
          refine hK.out _ _ ?_ (fun hHeld => ?_)
          · exact anyW _
          clear hK K
          try simp only [Act.put, List.setIfInBounds_toArray, List.set_cons_zero, List.set_cons_succ]
          refine wpAnyH_ready (rs := [5]) (by kernel_rfl) (by simp) ?_
          refine AllReadyH.cons (o := oI4_5) rfl (fun K hK => ?_) (AllReadyH.nil)
          dsimp only [oI4_5]
          go_simp
          refine (HA2.out _).mono ?_
          rintro e w4 ⟨rfl, hb4⟩
          have HI := Lib.hid (HI.out.below hb4)
          clear hb4
          go_simp
          refine hK.out _ _ ?_ (fun hHeld => ?_)
          · exact anyW _
          clear hK K
          try simp only [Act.put, List.setIfInBounds_toArray, List.set_cons_zero, List.set_cons_succ]
          refine wpAnyH_ready (rs := [6]) (by kernel_rfl) (by simp) ?_
          refine AllReadyH.cons (o := oI4_6) rfl (fun K hK => ?_) (AllReadyH.nil)
          dsimp only [oI4_6]
          simp only [Region.wanted, if_true]
          refine op_store_irow 24 (.tmp 3) (.tmp 11) rfl (g := G) (t := 24) (k := .u8) (xs := num q) (ys := num q2) rfl rfl HI.out.rg (size_numN q2) (same_length _ _) ?_
          have HI := Lib.hid (HI.out.setG HG.out q2)
          refine hK.out _ _ ?_ (fun hHeld => ?_)
          · exact anyW _
          clear hK K
          try simp only [Act.put]
          refine wpAnyH_ready (rs := [7]) (by kernel_rfl) (by simp) ?_
          refine AllReadyH.cons (o := oI4_7) rfl (fun K hK => ?_) (AllReadyH.nil)
          dsimp only [oI4_7]
          simp only [Region.wanted, if_true]
          refine op_store_irow 24 (.tmp 4) (.tmp 14) rfl (g := G + 1) (t := 24) (k := .u8) (xs := num r) (ys := num r2) rfl rfl HI.out.rr (size_numN r2) (same_length _ _) ?_
          have HI := Lib.hid (HI.out.setR HG.out r2)
          refine hK.out _ _ ?_ (fun hHeld => ?_)
          · exact anyW _
          clear hK K
          try simp only [Act.put]
          refine wpAnyH_done (by kernel_rfl) ?_ _
          exact HQ.out _ _ _ _ _ _ _ HI.out
      · as_aux_lemma =>
        dsimp only [oI4_3]
        simp only [Region.wanted, if_true]
        refine wp_load_mid 24 (.tmp 4) rfl (G + 1) 0 rfl ((num r).map (Value.int .u8)) _ HI.out.rr.range Tryd.underlying24 rfl (by rw [List.length_map]; exact size_numN r) ?_
        refine hK.out _ _ ?_ (fun hHeld => ?_)
        · exact anyW _
        clear hK K
        try simp only [Act.put, List.setIfInBounds_toArray, List.set_cons_zero, List.set_cons_succ]
        refine wpAnyH_ready (rs := [1]) (by kernel_rfl) (by simp) ?_
        refine AllReadyH.cons (o := oI4_1) rfl (fun K hK => ?_) (AllReadyH.nil)
        dsimp only [oI4_1]
        simp only [Region.wanted, if_true]
        refine wp_load_mid 24 (.tmp 3) rfl G 0 rfl ((num q).map (Value.int .u8)) _ HI.out.rg.range Tryd.underlying24 rfl (by rw [List.length_map]; exact size_numN q) ?_
        refine hK.out _ _ ?_ (fun hHeld => ?_)
        · exact anyW _
        clear hK K
        try simp only [Act.put, List.setIfInBounds_toArray, List.set_cons_zero, List.set_cons_succ]
        refine wpAnyH_ready (rs := [2]) (by kernel_rfl) (by simp) ?_
        refine AllReadyH.cons (o := oI4_2) rfl (fun K hK => ?_) (AllReadyH.nil)
        dsimp only [oI4_2]
        go_simp
        refine (HA1.out _).mono ?_
        rintro e w4 ⟨rfl, hb4⟩
        have HI := Lib.hid (HI.out.below hb4)
        clear hb4
        go_simp
        refine hK.out _ _ ?_ (fun hHeld => ?_)
        · exact anyW _
        clear hK K
        try simp only [Act.put, List.setIfInBounds_toArray, List.set_cons_zero, List.set_cons_succ]
        refine wpAnyH_ready (rs := [5]) (by kernel_rfl) (by simp) ?_
        refine AllReadyH.cons (o := oI4_5) rfl (fun K hK => ?_) (AllReadyH.nil)
        dsimp only [oI4_5]
        go_simp
        refine (HA2.out _).mono ?_
        rintro e w4 ⟨rfl, hb4⟩
        have HI := Lib.hid (HI.out.below hb4)
        clear hb4
        go_simp
        refine hK.out _ _ ?_ (fun hHeld => ?_)
        · exact anyW _
        clear hK K
        try simp only [Act.put, List.setIfInBounds_toArray, List.set_cons_zero, List.set_cons_succ]
        refine wpAnyH_ready (rs := [6]) (by kernel_rfl) (by simp) ?_
        refine AllReadyH.cons (o := oI4_6) rfl (fun K hK => ?_) (AllReadyH.nil)
        dsimp only [oI4_6]
        simp only [Region.wanted, if_true]
        refine op_store_irow 24 (.tmp 3) (.tmp 11) rfl (g := G) (t := 24) (k := .u8) (xs := num q) (ys := num q2) rfl rfl HI.out.rg (size_numN q2) (same_length _ _) ?_
        have HI := Lib.hid (HI.out.setG HG.out q2)
        refine hK.out _ _ ?_ (fun hHeld => ?_)
        · exact anyW _
        clear hK K
        try simp only [Act.put]
        refine wpAnyH_ready (rs := [7]) (by kernel_rfl) (by simp) ?_
        refine AllReadyH.cons (o := oI4_7) rfl (fun K hK => ?_) (AllReadyH.nil)
        dsimp only [oI4_7]
        simp only [Region.wanted, if_true]
        refine op_store_irow 24 (.tmp 4) (.tmp 14) rfl (g := G + 1) (t := 24) (k := .u8) (xs := num r) (ys := num r2) rfl rfl HI.out.rr (size_numN r2) (same_length _ _) ?_
        have HI := Lib.hid (HI.out.setR HG.out r2)
        refine hK.out _ _ ?_ (fun hHeld => ?_)
        · exact anyW _
        clear hK K
        try simp only [Act.put]
        refine wpAnyH_done (by kernel_rfl) ?_ _
        exact HQ.out _ _ _ _ _ _ _ HI.out
    · as_aux_lemma =>
      dsimp only [oI4_1]
      simp only [Region.wanted, if_true]
      refine wp_load_mid 24 (.tmp 3) rfl G 0 rfl ((num q).map (Value.int .u8)) _ HI.out.rg.range Tryd.underlying24 rfl (by rw [List.length_map]; exact size_numN q) ?_
      refine hK.out _ _ ?_ (fun hHeld => ?_)
      · exact anyW _
      clear hK K
      try simp only [Act.put, List.setIfInBounds_toArray, List.set_cons_zero, List.set_cons_succ]
      refine wpAnyH_ready (rs := [0, 3]) (by kernel_rfl) (by simp) ?_
      refine AllReadyH.cons (o := oI4_0) rfl (fun K hK => ?_) (AllReadyH.cons (o := oI4_3) rfl (fun K hK => ?_) (AllReadyH.nil))
      · as_aux_lemma =>
        dsimp only [oI4_0]
        simp only [Region.wanted, if_true]
        refine wp_load_mid 24 (.tmp 3) rfl G 0 rfl ((num q).map (Value.int .u8)) _ HI.out.rg.range Tryd.underlying24 rfl (by rw [List.length_map]; exact size_numN q) ?_
        refine hK.out _ _ ?_ (fun hHeld => ?_)
        · exact anyW _
        clear hK K
        try simp only [Act.put, List.setIfInBounds_toArray, List.set_cons_zero, List.set_cons_succ]
        refine wpAnyH_ready (rs := [2, 3]) (by kernel_rfl) (by simp) ?_
        refine AllReadyH.cons (o := oI4_2) rfl (fun K hK => ?_) (AllReadyH.cons (o := oI4_3) rfl (fun K hK => ?_) (AllReadyH.nil))
        · as_aux_lemma =>
          dsimp only [oI4_2]
          go_simp
          refine (HA1.out _).mono ?_
          rintro e w4 ⟨rfl, hb4⟩
          have HI := Lib.hid (HI.out.below hb4)
          clear hb4
          go_simp
          refine hK.out _ _ ?_ (fun hHeld => ?_)
          · exact anyW _
          clear hK K
          try simp only [Act.put, List.setIfInBounds_toArray, List.set_cons_zero, List.set_cons_succ]
          refine wpAnyH_ready (rs := [3]) (by kernel_rfl) (by simp) ?_
          refine AllReadyH.cons (o := oI4_3) rfl (fun K hK => ?_) (AllReadyH.nil)
          dsimp only [oI4_3]
          simp only [Region.wanted, if_true]
          refine wp_load_mid 24 (.tmp 4) rfl (G + 1) 0 rfl ((num r).map (Value.int .u8)) _ HI.out.rr.range Tryd.underlying24 rfl (by rw [List.length_map]; exact size_numN r) ?_
          refine hK.out _ _ ?_ (fun hHeld => ?_)
          · exact anyW _
          clear hK K
          try simp only [Act.put, List.setIfInBounds_toArray, List.set_cons_zero, List.set_cons_succ]
          refine wpAnyH_ready (rs := [5]) (by kernel_rfl) (by simp) ?_
          refine AllReadyH.cons (o := oI4_5) rfl (fun K hK => ?_) (AllReadyH.nil)
          dsimp only [oI4_5]
          go_simp
          refine (HA2.out _).mono ?_
          rintro e w4 ⟨rfl, hb4⟩
          have HI := Lib.hid (HI.out.below hb4)
          clear hb4
          go_simp
          refine hK.out _ _ ?_ (fun hHeld => ?_)
          · exact anyW _
          clear hK K
          try simp only [Act.put, List.setIfInBounds_toArray, List.set_cons_zero, List.set_cons_succ]
          refine wpAnyH_ready (rs := [6]) (by kernel_rfl) (by simp) ?_
          refine AllReadyH.cons (o := oI4_6) rfl (fun K hK => ?_) (AllReadyH.nil)
          dsimp only [oI4_6]
          simp only [Region.wanted, if_true]
          refine op_store_irow 24 (.tmp 3) (.tmp 11) rfl (g := G) (t := 24) (k := .u8) (xs := num q) (ys := num q2) rfl rfl HI.out.rg (size_numN q2) (same_length _ _) ?_
          have HI := Lib.hid (HI.out.setG HG.out q2)
          refine hK.out _ _ ?_ (fun hHeld => ?_)
          · exact anyW _
          clear hK K
          try simp only [Act.put]
          refine wpAnyH_ready (rs := [7]) (by kernel_rfl) (by simp) ?_
          refine AllReadyH.cons (o := oI4_7) rfl (fun K hK => ?_) (AllReadyH.nil)
          dsimp only [oI4_7]
          simp only [Region.wanted, if_true]
          refine op_store_irow 24 (.tmp 4) (.tmp 14) rfl (g := G + 1) (t := 24) (k := .u8) (xs := num r) (ys := num r2) rfl rfl HI.out.rr (size_numN r2) (same_length _ _) ?_
          have HI := Lib.hid (HI.out.setR HG.out r2)
          refine hK.out _ _ ?_ (fun hHeld => ?_)
          · exact anyW _
          clear hK K
          try simp only [Act.put]
          refine wpAnyH_done (by kernel_rfl) ?_ _
          exact HQ.out _ _ _ _ _ _ _ HI.out
        · as_aux_lemma =>
          dsimp only [oI4_3]
          simp only [Region.wanted, if_true]
          refine wp_load_mid 24 (.tmp 4) rfl (G + 1) 0 rfl ((num r).map (Value.int .u8)) _ HI.out.rr.range Tryd.underlying24 rfl (by rw [List.length_map]; exact size_numN r) ?_
          refine hK.out _ _ ?_ (fun hHeld => ?_)
          · exact anyW _
          clear hK K
          try simp only [Act.put, List.setIfInBounds_toArray, List.set_cons_zero, List.set_cons_succ]
          refine wpAnyH_ready (rs := [2]) (by kernel_rfl) (by simp) ?_
          refine AllReadyH.cons (o := oI4_2) rfl (fun K hK => ?_) (AllReadyH.nil)
          dsimp only [oI4_2]
          go_simp
          refine (HA1.out _).mono ?_
          rintro e w4 ⟨rfl, hb4⟩
          have HI := Lib.hid (HI.out.below hb4)
          clear hb4
          go_simp
          refine hK.out _ _ ?_ (fun hHeld => ?_)
          · exact anyW _
          clear hK K
          try simp only [Act.put, List.setIfInBounds_toArray, List.set_cons_zero, List.set_cons_succ]
          refine wpAnyH_ready (rs := [5]) (by kernel_rfl) (by simp) ?_
          refine AllReadyH.cons (o := oI4_5) rfl (fun K hK => ?_) (AllReadyH.nil)
          dsimp only [oI4_5]
          go_simp
          refine (HA2.out _).mono ?_
          rintro e w4 ⟨rfl, hb4⟩
          have HI := Lib.hid (HI.out.below hb4)
          clear hb4
          go_simp
          refine hK.out _ _ ?_ (fun hHeld => ?_)
          · exact anyW _
          clear hK K
          try simp only [Act.put, List.setIfInBounds_toArray, List.set_cons_zero, List.set_cons_succ]
          refine wpAnyH_ready (rs := [6]) (by kernel_rfl) (by simp) ?_
          refine AllReadyH.cons (o := oI4_6) rfl (fun K hK => ?_) (AllReadyH.nil)
          dsimp only [oI4_6]
          simp only [Region.wanted, if_true]
          refine op_store_irow 24 (.tmp 3) (.tmp 11) rfl (g := G) (t := 24) (k := .u8) (xs := num q) (ys := num q2) rfl rfl HI.out.rg (size_numN q2) (same_length _ _) ?_
          have HI := Lib.hid (HI.out.setG HG.out q2)
          refine hK.out _ _ ?_ (fun hHeld => ?_)
          · exact anyW _
          clear hK K
          try simp only [Act.put]
          refine wpAnyH_ready (rs := [7]) (by kernel_rfl) (by simp) ?_
          refine AllReadyH.cons (o := oI4_7) rfl (fun K hK => ?_) (AllReadyH.nil)
          dsimp only [oI4_7]
          simp only [Region.wanted, if_true]
          refine op_store_irow 24 (.tmp 4) (.tmp 14) rfl (g := G + 1) (t := 24) (k := .u8) (xs := num r) (ys := num r2) rfl rfl HI.out.rr (size_numN r2) (same_length _ _) ?_
          have HI := Lib.hid (HI.out.setR HG.out r2)
          refine hK.out _ _ ?_ (fun hHeld => ?_)
          · exact anyW _
          clear hK K
          try simp only [Act.put]
          refine wpAnyH_done (by kernel_rfl) ?_ _
          exact HQ.out _ _ _ _ _ _ _ HI.out
      · as_aux_lemma =>
        dsimp only [oI4_3]
        simp only [Region.wanted, if_true]
        refine wp_load_mid 24 (.tmp 4) rfl (G + 1) 0 rfl ((num r).map (Value.int .u8)) _ HI.out.rr.range Tryd.underlying24 rfl (by rw [List.length_map]; exact size_numN r) ?_
        refine hK.out _ _ ?_ (fun hHeld => ?_)
        · exact anyW _
        clear hK K
        try simp only [Act.put, List.setIfInBounds_toArray, List.set_cons_zero, List.set_cons_succ]
        refine wpAnyH_ready (rs := [0]) (by kernel_rfl) (by simp) ?_
        refine AllReadyH.cons (o := oI4_0) rfl (fun K hK => ?_) (AllReadyH.nil)
        dsimp only [oI4_0]
        simp only [Region.wanted, if_true]
        refine wp_load_mid 24 (.tmp 3) rfl G 0 rfl ((num q).map (Value.int .u8)) _ HI.out.rg.range Tryd.underlying24 rfl (by rw [List.length_map]; exact size_numN q) ?_
        refine hK.out _ _ ?_ (fun hHeld => ?_)
        · exact anyW _
        clear hK K
        try simp only [Act.put, List.setIfInBounds_toArray, List.set_cons_zero, List.set_cons_succ]
        refine wpAnyH_ready (rs := [2]) (by kernel_rfl) (by simp) ?_
        refine AllReadyH.cons (o := oI4_2) rfl (fun K hK => ?_) (AllReadyH.nil)
        dsimp only [oI4_2]
        go_simp
        refine (HA1.out _).mono ?_
        rintro e w4 ⟨rfl, hb4⟩
        have HI := Lib.hid (HI.out.below hb4)
        clear hb4
        go_simp
        refine hK.out _ _ ?_ (fun hHeld => ?_)
        · exact anyW _
        clear hK K
        try simp only [Act.put, List.setIfInBounds_toArray, List.set_cons_zero, List.set_cons_succ]
        refine wpAnyH_ready (rs := [5]) (by kernel_rfl) (by simp) ?_
        refine AllReadyH.cons (o := oI4_5) rfl (fun K hK => ?_) (AllReadyH.nil)
        dsimp only [oI4_5]
        go_simp
        refine (HA2.out _).mono ?_
        rintro e w4 ⟨rfl, hb4⟩
        have HI := Lib.hid (HI.out.below hb4)
        clear hb4
        go_simp
        refine hK.out _ _ ?_ (fun hHeld => ?_)
        · exact anyW _
        clear hK K
        try simp only [Act.put, List.setIfInBounds_toArray, List.set_cons_zero, List.set_cons_succ]
        refine wpAnyH_ready (rs := [6]) (by kernel_rfl) (by simp) ?_
        refine AllReadyH.cons (o := oI4_6) rfl (fun K hK => ?_) (AllReadyH.nil)
        dsimp only [oI4_6]
        simp only [Region.wanted, if_true]
        refine op_store_irow 24 (.tmp 3) (.tmp 11) rfl (g := G) (t := 24) (k := .u8) (xs := num q) (ys := num q2) rfl rfl HI.out.rg (size_numN q2) (same_length _ _) ?_
        have HI := Lib.hid (HI.out.setG HG.out q2)
        refine hK.out _ _ ?_ (fun hHeld => ?_)
        · exact anyW _
        clear hK K
        try simp only [Act.put]
        refine wpAnyH_ready (rs := [7]) (by kernel_rfl) (by simp) ?_
        refine AllReadyH.cons (o := oI4_7) rfl (fun K hK => ?_) (AllReadyH.nil)
        dsimp only [oI4_7]
        simp only [Region.wanted, if_true]
        refine op_store_irow 24 (.tmp 4) (.tmp 14) rfl (g := G + 1) (t := 24) (k := .u8) (xs := num r) (ys := num r2) rfl rfl HI.out.rr (size_numN r2) (same_length _ _) ?_
        have HI := Lib.hid (HI.out.setR HG.out r2)
        refine hK.out _ _ ?_ (fun hHeld => ?_)
        · exact anyW _
        clear hK K
        try simp only [Act.put]
        refine wpAnyH_done (by kernel_rfl) ?_ _
        exact HQ.out _ _ _ _ _ _ _ HI.out
    · as_aux_lemma =>
      dsimp only [oI4_3]
      simp only [Region.wanted, if_true]
      refine wp_load_mid 24 (.tmp 4) rfl (G + 1) 0 rfl ((num r).map (Value.int .u8)) _ HI.out.rr.range Tryd.underlying24 rfl (by rw [List.length_map]; exact size_numN r) ?_
      refine hK.out _ _ ?_ (fun hHeld => ?_)
      · exact anyW _
      clear hK K
      try simp only [Act.put, List.setIfInBounds_toArray, List.set_cons_zero, List.set_cons_succ]
      refine wpAnyH_ready (rs := [0, 1]) (by kernel_rfl) (by simp) ?_
      refine AllReadyH.cons (o := oI4_0) rfl (fun K hK => ?_) (AllReadyH.cons (o := oI4_1) rfl (fun K hK => ?_) (AllReadyH.nil))
      · as_aux_lemma =>
        dsimp only [oI4_0]
        simp only [Region.wanted, if_true]
        refine wp_load_mid 24 (.tmp 3) rfl G 0 rfl ((num q).map (Value.int .u8)) _ HI.out.rg.range Tryd.underlying24 rfl (by rw [List.length_map]; exact size_numN q) ?_
        refine hK.out _ _ ?_ (fun hHeld => ?_)
        · exact anyW _
        clear hK K
        try simp only [Act.put, List.setIfInBounds_toArray, List.set_cons_zero, List.set_cons_succ]
        refine wpAnyH_ready (rs := [1]) (by kernel_rfl) (by simp) ?_
        refine AllReadyH.cons (o := oI4_1) rfl (fun K hK => ?_) (AllReadyH.nil)
        dsimp only [oI4_1]
        simp only [Region.wanted, if_true]
        refine wp_load_mid 24 (.tmp 3) rfl G 0 rfl ((num q).map (Value.int .u8)) _ HI.out.rg.range Tryd.underlying24 rfl (by rw [List.length_map]; exact size_numN q) ?_
        refine hK.out _ _ ?_ (fun hHeld => ?_)
        · exact anyW _
        clear hK K
        try simp only [Act.put, List.setIfInBounds_toArray, List.set_cons_zero, List.set_cons_succ]
        refine wpAnyH_ready (rs := [2]) (by kernel_rfl) (by simp) ?_
        refine AllReadyH.cons (o := oI4_2) rfl (fun K hK => ?_) (AllReadyH.nil)
        dsimp only [oI4_2]
        go_simp
        refine (HA1.out _).mono ?_
        rintro e w4 ⟨rfl, hb4⟩
        have HI := Lib.hid (HI.out.below hb4)
        clear hb4
        go_simp
        refine hK.out _ _ ?_ (fun hHeld => ?_)
        · exact anyW _
        clear hK K
        try simp only [Act.put, List.setIfInBounds_toArray, List.set_cons_zero, List.set_cons_succ]
        refine wpAnyH_ready (rs := [5]) (by kernel_rfl) (by simp) ?_
        refine AllReadyH.cons (o := oI4_5) rfl (fun K hK => ?_) (AllReadyH.nil)
        dsimp only [oI4_5]
        go_simp
        refine (HA2.out _).mono ?_
        rintro e w4 ⟨rfl, hb4⟩
        have HI := Lib.hid (HI.out.below hb4)
        clear hb4
        go_simp
        refine hK.out _ _ ?_ (fun hHeld => ?_)
        · exact anyW _
        clear hK K
        try simp only [Act.put, List.setIfInBounds_toArray, List.set_cons_zero, List.set_cons_succ]
        refine wpAnyH_ready (rs := [6]) (by kernel_rfl) (by simp) ?_
        refine AllReadyH.cons (o := oI4_6) rfl (fun K hK => ?_) (AllReadyH.nil)
        dsimp only [oI4_6]
        simp only [Region.wanted, if_true]
        refine op_store_irow 24 (.tmp 3) (.tmp 11) rfl (g := G) (t := 24) (k := .u8) (xs := num q) (ys := num q2) rfl rfl HI.out.rg (size_numN q2) (same_length _ _) ?_
        have HI := Lib.hid (HI.out.setG HG.out q2)
        refine hK.out _ _ ?_ (fun hHeld => ?_)
        · exact anyW _
        clear hK K
        try simp only [Act.put]
        refine wpAnyH_ready (rs := [7]) (by kernel_rfl) (by simp) ?_
        refine AllReadyH.cons (o := oI4_7) rfl (fun K hK => ?_) (AllReadyH.nil)
        dsimp only [oI4_7]
        simp only [Region.wanted, if_true]
        refine op_store_irow 24 (.tmp 4) (.tmp 14) rfl (g := G + 1) (t := 24) (k := .u8) (xs := num r) (ys := num r2) rfl rfl HI.out.rr (size_numN r2) (same_length _ _) ?_
        have HI := Lib.hid (HI.out.setR HG.out r2)
        refine hK.out _ _ ?_ (fun hHeld => ?_)
        · exact anyW _
        clear hK K
        try simp only [Act.put]
        refine wpAnyH_done (by kernel_rfl) ?_ _
        exact HQ.out _ _ _ _ _ _ _ HI.out
      · as_aux_lemma =>
        dsimp only [oI4_1]
        simp only [Region.wanted, if_true]
        refine wp_load_mid 24 (.tmp 3) rfl G 0 rfl ((num q).map (Value.int .u8)) _ HI.out.rg.range Tryd.underlying24 rfl (by rw [List.length_map]; exact size_numN q) ?_
        refine hK.out _ _ ?_ (fun hHeld => ?_)
        · exact anyW _
        clear hK K
        try simp only [Act.put, List.setIfInBounds_toArray, List.set_cons_zero, List.set_cons_succ]
        refine wpAnyH_ready (rs := [0]) (by kernel_rfl) (by simp) ?_
        refine AllReadyH.cons (o := oI4_0) rfl (fun K hK => ?_) (AllReadyH.nil)
        dsimp only [oI4_0]
        simp only [Region.wanted, if_true]
        refine wp_load_mid 24 (.tmp 3) rfl G 0 rfl ((num q).map (Value.int .u8)) _ HI.out.rg.range Tryd.underlying24 rfl (by rw [List.length_map]; exact size_numN q) ?_
        refine hK.out _ _ ?_ (fun hHeld => ?_)
        · exact anyW _
        clear hK K
        try simp only [Act.put, List.setIfInBounds_toArray, List.set_cons_zero, List.set_cons_succ]
        refine wpAnyH_ready (rs := [2]) (by kernel_rfl) (by simp) ?_
        refine AllReadyH.cons (o := oI4_2) rfl (fun K hK => ?_) (AllReadyH.nil)
        dsimp only [oI4_2]
        go_simp
        refine (HA1.out _).mono ?_
        rintro e w4 ⟨rfl, hb4⟩
        have HI := Lib.hid (HI.out.below hb4)
        clear hb4
        go_simp
        refine hK.out _ _ ?_ (fun hHeld => ?_)
        · exact anyW _
        clear hK K
        try simp only [Act.put, List.setIfInBounds_toArray, List.set_cons_zero, List.set_cons_succ]
        refine wpAnyH_ready (rs := [5]) (by kernel_rfl) (by simp) ?_
        refine AllReadyH.cons (o := oI4_5) rfl (fun K hK => ?_) (AllReadyH.nil)
        dsimp only [oI4_5]
        go_simp
        refine (HA2.out _).mono ?_
        rintro e w4 ⟨rfl, hb4⟩
        have HI := Lib.hid (HI.out.below hb4)
        clear hb4
        go_simp
        refine hK.out _ _ ?_ (fun hHeld => ?_)
        · exact anyW _
        clear hK K
        try simp only [Act.put, List.setIfInBounds_toArray, List.set_cons_zero, List.set_cons_succ]
        refine wpAnyH_ready (rs := [6]) (by kernel_rfl) (by simp) ?_
        refine AllReadyH.cons (o := oI4_6) rfl (fun K hK => ?_) (AllReadyH.nil)
        dsimp only [oI4_6]
        simp only [Region.wanted, if_true]
        refine op_store_irow 24 (.tmp 3) (.tmp 11) rfl (g := G) (t := 24) (k := .u8) (xs := num q) (ys := num q2) rfl rfl HI.out.rg (size_numN q2) (same_length _ _) ?_
        have HI := Lib.hid (HI.out.setG HG.out q2)
        refine hK.out _ _ ?_ (fun hHeld => ?_)
        · exact anyW _
        clear hK K
        try simp only [Act.put]
        refine wpAnyH_ready (rs := [7]) (by kernel_rfl) (by simp) ?_
        refine AllReadyH.cons (o := oI4_7) rfl (fun K hK => ?_) (AllReadyH.nil)
        dsimp only [oI4_7]
        simp only [Region.wanted, if_true]
        refine op_store_irow 24 (.tmp 4) (.tmp 14) rfl (g := G + 1) (t := 24) (k := .u8) (xs := num r) (ys := num r2) rfl rfl HI.out.rr (size_numN r2) (same_length _ _) ?_
        have HI := Lib.hid (HI.out.setR HG.out r2)
        refine hK.out _ _ ?_ (fun hHeld => ?_)
        · exact anyW _
        clear hK K
        try simp only [Act.put]
        refine wpAnyH_done (by kernel_rfl) ?_ _
        exact HQ.out _ _ _ _ _ _ _ HI.out

end Go.Proofs.YtgkocmljnoambaaDoor
