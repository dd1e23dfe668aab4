/-
  Texts joined: TvA, TvL, TvO. Conditions: those of each.
-/
import Derived.Test.YthelmclpmalofaaDoorK11
import Derived.Maps.AppendAt
import Derived.BigQuiet
import Derived.Deep.QuietTactic
/-
  Rows of inputs and of outputs of the call's own: append, an element replaced; sighash.other. Conditions: none.
-/
namespace Go.Proofs.YthelmclpmalofaaDoor
open Go.RowKit

/-- A row of inputs of the call's own. -/
def InsO (w : World) (base : Nat) (v : Value) (X : List InV) : Prop := w.ownsRow base 49 36 v X.length (X.flatMap inC)
def OutsO (w : World) (base : Nat) (v : Value) (Y : List OutV) : Prop := w.ownsRow base 54 2 v Y.length (Y.flatMap outC)
theorem InsO.toR {w : World} {base B : Nat} {v : Value} {X : List InV} (h : InsO w base v X) (hx : ∀ x ∈ X, InIs w B x) (hB : B ≤ w.heap.size) : InsR w w.heap.size v X := ⟨RowR.of_own h, fun x q => (hx x q).more hB⟩
theorem OutsO.toR {w : World} {base B : Nat} {v : Value} {X : List OutV} (h : OutsO w base v X) (hx : ∀ x ∈ X, OutIs w B x) (hB : B ≤ w.heap.size) : OutsR w w.heap.size v X := ⟨RowR.of_own h, fun x q => (hx x q).more hB⟩
theorem ownsRow_setCells {base e size g n cap : Nat} : ∀ (us : List Value) {w : World} {cs : List Value} {o : Nat}, w.ownsRow base e size (.slice (some ⟨g, 0, none⟩) n cap) n cs → o + us.length ≤ cs.length →
    (w.setCells g o us).ownsRow base e size (.slice (some ⟨g, 0, none⟩) n cap) n (cs.take o ++ us ++ cs.drop (o + us.length))
  | [], w, cs, o, h, _ => by
    simp only [List.append_nil, List.length_nil, Nat.add_zero, List.take_append_drop]
    exact h
  | v :: us, w, cs, o, h, hl => by
    have hl' : o + (us.length + 1) ≤ cs.length := by simpa using hl
    have h1 := ownsRow_setCells us (o := o + 1) (h.stored o v).1 (by rw [List.length_set]; omega)
    have e := list_seg_step cs o v us (by omega)
    rw [e] at h1
    exact h1
theorem flat_seg {α : Type} (f : α → List Value) (n : Nat) : ∀ (X : List α), (∀ e ∈ X, (f e).length = n) → ∀ (i : Nat) (e : α), i < X.length → (f e).length = n → (X.flatMap f).take (i * n) ++ f e ++ (X.flatMap f).drop (i * n + (f e).length) = (X.set i e).flatMap f
  | [], _, i, _, h, _ => by simp at h
  | a :: X, hf, 0, e, _, he => by
    have ha := hf a (by simp)
    rw [List.flatMap_cons, Nat.zero_mul, List.take_zero, List.nil_append, List.set_cons_zero, List.flatMap_cons, Nat.zero_add, he, List.drop_append, ha, List.drop_of_length_le (by omega), Nat.sub_self]
    rfl
  | a :: X, hf, i + 1, e, h, he => by
    have ha := hf a (by simp)
    have ih := flat_seg f n X (fun e he => hf e (by simp [he])) i e (by simpa using h) he
    rw [List.flatMap_cons, List.set_cons_succ, List.flatMap_cons, ← ih, List.take_append, List.drop_append, ha, List.take_of_length_le (by rw [ha, Nat.add_mul]; omega), List.drop_of_length_le (by rw [ha, Nat.add_mul]; omega),
      show (i + 1) * n - n = i * n by rw [Nat.add_mul]; omega, show (i + 1) * n + (f e).length - n = i * n + (f e).length by rw [Nat.add_mul]; omega]
    simp only [List.nil_append, List.append_assoc]
theorem InsO.form {w : World} {base : Nat} {v : Value} {X : List InV} (h : InsO w base v X) : ∃ A c, v = .slice A X.length c := own_form h
theorem OutsO.form {w : World} {base : Nat} {v : Value} {X : List OutV} (h : OutsO w base v X) : ∃ A c, v = .slice A X.length c := own_form h
theorem info_parts3 {e : TypeId} {z : Value} {s b : Nat} (h : (Tryd.prog.info? e).map (fun i => (i.zero, i.size, i.bytes)) = some (some z, s, b)) : ∃ i, Tryd.prog.info? e = some i ∧ i.zero = some z ∧ i.size = s ∧ i.bytes = b := by
  cases hi : Tryd.prog.info? e with
  | none => rw [hi] at h; cases h
  | some i =>
    rw [hi] at h
    simp only [Option.map_some, Option.some.injEq, Prod.mk.injEq] at h
    exact ⟨i, rfl, h.1, h.2.1, h.2.2⟩

/-- append of one tin. -/
theorem run_append_tin {w : World} (ty : TypeId) (base : Nat) (v : Value) (n : Nat) (xs : List Value) (hown : w.ownsRow base 49 36 v n xs)
    (g c : Nat) (C : List Value) (hl : C.length = 36) (h0 : w.rangeAt g 0 C) (k0 : ∀ u ∈ C, u.oneCell' = true) (hb : (n + 1) * 96 ≤ 140737488355328) (hbase : base ≤ w.heap.size) :
    ∃ v' w', (Builtin.append_ #[22, 22] ty #[v, .slice (some ⟨g, 0, none⟩) 1 c]).run Tryd.prog w = .ok v' w' ∧ w'.ownsRow base 49 36 v' (n + 1) (xs ++ C) ∧ w.grownBy w' v.ownBlock ∧ (v'.ownBlock = v.ownBlock ∨ v'.ownBlock = some w.heap.size) := by
  obtain ⟨i, hi, hz, hsz, hby⟩ := info_parts3 info_tin
  obtain ⟨v', w', hrun, h2, h3, _, h5⟩ := run_append_own_at (P := Tryd.prog) w base 22 ty 49 i _ 36 96 Tryd.underlying22 hi hz hsz hby rfl (by decide) v n xs hown ⟨g, 0, none⟩ 1 c C (by rw [hl])
    (fun j u hu => by rw [Addr.add_mid]; exact h0 j u hu) k0 (by unfold maxLen; omega) (by omega) hbase
  exact ⟨v', w', hrun, h2, h3, h5⟩
theorem wpList_append_tin {w : World} {ops : Array Oper} {rest : List Oper} {o : Oper} {a : Act} {Q : Exit → Act → World → Prop} (hgd : o.guard = none) (s x : Operand)
    (ho : o.op = .call { callee := .builtin .append, args := #[s, x], argTypes := #[22, 22] })
    (base : Nat) (v : Value) (n : Nat) (xs : List Value) (hs : a.eval s = v) (hown : w.ownsRow base 49 36 v n xs)
    (g c : Nat) (C : List Value) (hx : a.eval x = .slice (some ⟨g, 0, none⟩) 1 c) (hl : C.length = 36) (h0 : w.rangeAt g 0 C) (k0 : ∀ u ∈ C, u.oneCell' = true) (hb : (n + 1) * 96 ≤ 140737488355328) (hbase : base ≤ w.heap.size)
    (h : ∀ v' w', w'.ownsRow base 49 36 v' (n + 1) (xs ++ C) → w.grownBy w' v.ownBlock → (v'.ownBlock = v.ownBlock ∨ v'.ownBlock = some w.heap.size) → wpList Tryd.prog ops Q rest (a.put o.dst v') w') :
    wpList Tryd.prog ops Q (o :: rest) a w := by
  refine wpList_plain hgd fun K hK => ?_
  obtain ⟨v', w', hrun, h2, h3, h4⟩ := run_append_tin o.type base v n xs hown g c C hl h0 k0 hb hbase
  unfold Oper.wp execOp
  simp only [ho, resolve, invoke, builtin, Sem.run_bind, Sem.run_pure, Result.andThen_ok, List.map_toArray, List.map_cons, List.map_nil, hs, hx, hrun]
  exact hK _ _ (h v' w' h2 h3 h4)
theorem op_append_tin {w : World} {o : Oper} {a : Act} {K : Act → World → Prop} {Q : Exit → Act → World → Prop} (s x : Operand)
    (ho : o.op = .call { callee := .builtin .append, args := #[s, x], argTypes := #[22, 22] })
    (base : Nat) (v : Value) (n : Nat) (xs : List Value) (hs : a.eval s = v) (hown : w.ownsRow base 49 36 v n xs)
    (g c : Nat) (C : List Value) (hx : a.eval x = .slice (some ⟨g, 0, none⟩) 1 c) (hl : C.length = 36) (h0 : w.rangeAt g 0 C) (k0 : ∀ u ∈ C, u.oneCell' = true) (hb : (n + 1) * 96 ≤ 140737488355328) (hbase : base ≤ w.heap.size)
    (h : ∀ v' w', w'.ownsRow base 49 36 v' (n + 1) (xs ++ C) → w.grownBy w' v.ownBlock → (v'.ownBlock = v.ownBlock ∨ v'.ownBlock = some w.heap.size) → K (a.put o.dst v') w') :
    o.wp Tryd.prog a w K Q := by
  obtain ⟨v', w', hrun, h2, h3, h4⟩ := run_append_tin o.type base v n xs hown g c C hl h0 k0 hb hbase
  unfold Oper.wp execOp
  simp only [ho, resolve, invoke, builtin, Sem.run_bind, Sem.run_pure, Result.andThen_ok, List.map_toArray, List.map_cons, List.map_nil, hs, hx, hrun]
  exact h v' w' h2 h3 h4
/-- A slice of one. -/
theorem wpList_one_tin {w : World} {ops : Array Oper} {rest : List Oper} {o : Oper} {a : Act} {Q : Exit → Act → World → Prop} (hgd : o.guard = none) (x : Operand) (ho : o.op = .buildSlice 22 1 #[(0, x)])
    (C : List Value) (hx : a.eval x = .agg C.toArray) (hl : C.length = 36) (h : wpList Tryd.prog ops Q rest (a.put o.dst (.slice (some ⟨w.heap.size, 0, none⟩) 1 1)) (w.alloc (.cells C.toArray 49))) : wpList Tryd.prog ops Q (o :: rest) a w := by
  refine wpList_plain hgd fun K hK => ?_
  have hrun := one_tin hl w
  unfold Oper.wp execOp
  simp only [ho, List.map_toArray, List.map_cons, List.map_nil, hx, hrun, Sem.run_bind, Sem.run_pure, Result.andThen_ok]
  exact hK _ _ h

/-- append of one tout. -/
theorem run_append_tout {w : World} (ty : TypeId) (base : Nat) (v : Value) (n : Nat) (xs : List Value) (hown : w.ownsRow base 54 2 v n xs)
    (g c : Nat) (C : List Value) (hl : C.length = 2) (h0 : w.rangeAt g 0 C) (k0 : ∀ u ∈ C, u.oneCell' = true) (hb : (n + 1) * 32 ≤ 140737488355328) (hbase : base ≤ w.heap.size) :
    ∃ v' w', (Builtin.append_ #[23, 23] ty #[v, .slice (some ⟨g, 0, none⟩) 1 c]).run Tryd.prog w = .ok v' w' ∧ w'.ownsRow base 54 2 v' (n + 1) (xs ++ C) ∧ w.grownBy w' v.ownBlock ∧ (v'.ownBlock = v.ownBlock ∨ v'.ownBlock = some w.heap.size) := by
  obtain ⟨i, hi, hz, hsz, hby⟩ := info_parts3 info_tout
  obtain ⟨v', w', hrun, h2, h3, _, h5⟩ := run_append_own_at (P := Tryd.prog) w base 23 ty 54 i _ 2 32 Tryd.underlying23 hi hz hsz hby rfl (by decide) v n xs hown ⟨g, 0, none⟩ 1 c C (by rw [hl])
    (fun j u hu => by rw [Addr.add_mid]; exact h0 j u hu) k0 (by unfold maxLen; omega) (by omega) hbase
  exact ⟨v', w', hrun, h2, h3, h5⟩
theorem wpList_append_tout {w : World} {ops : Array Oper} {rest : List Oper} {o : Oper} {a : Act} {Q : Exit → Act → World → Prop} (hgd : o.guard = none) (s x : Operand)
    (ho : o.op = .call { callee := .builtin .append, args := #[s, x], argTypes := #[23, 23] })
    (base : Nat) (v : Value) (n : Nat) (xs : List Value) (hs : a.eval s = v) (hown : w.ownsRow base 54 2 v n xs)
    (g c : Nat) (C : List Value) (hx : a.eval x = .slice (some ⟨g, 0, none⟩) 1 c) (hl : C.length = 2) (h0 : w.rangeAt g 0 C) (k0 : ∀ u ∈ C, u.oneCell' = true) (hb : (n + 1) * 32 ≤ 140737488355328) (hbase : base ≤ w.heap.size)
    (h : ∀ v' w', w'.ownsRow base 54 2 v' (n + 1) (xs ++ C) → w.grownBy w' v.ownBlock → (v'.ownBlock = v.ownBlock ∨ v'.ownBlock = some w.heap.size) → wpList Tryd.prog ops Q rest (a.put o.dst v') w') :
    wpList Tryd.prog ops Q (o :: rest) a w := by
  refine wpList_plain hgd fun K hK => ?_
  obtain ⟨v', w', hrun, h2, h3, h4⟩ := run_append_tout o.type base v n xs hown g c C hl h0 k0 hb hbase
  unfold Oper.wp execOp
  simp only [ho, resolve, invoke, builtin, Sem.run_bind, Sem.run_pure, Result.andThen_ok, List.map_toArray, List.map_cons, List.map_nil, hs, hx, hrun]
  exact hK _ _ (h v' w' h2 h3 h4)
theorem op_append_tout {w : World} {o : Oper} {a : Act} {K : Act → World → Prop} {Q : Exit → Act → World → Prop} (s x : Operand)
    (ho : o.op = .call { callee := .builtin .append, args := #[s, x], argTypes := #[23, 23] })
    (base : Nat) (v : Value) (n : Nat) (xs : List Value) (hs : a.eval s = v) (hown : w.ownsRow base 54 2 v n xs)
    (g c : Nat) (C : List Value) (hx : a.eval x = .slice (some ⟨g, 0, none⟩) 1 c) (hl : C.length = 2) (h0 : w.rangeAt g 0 C) (k0 : ∀ u ∈ C, u.oneCell' = true) (hb : (n + 1) * 32 ≤ 140737488355328) (hbase : base ≤ w.heap.size)
    (h : ∀ v' w', w'.ownsRow base 54 2 v' (n + 1) (xs ++ C) → w.grownBy w' v.ownBlock → (v'.ownBlock = v.ownBlock ∨ v'.ownBlock = some w.heap.size) → K (a.put o.dst v') w') :
    o.wp Tryd.prog a w K Q := by
  obtain ⟨v', w', hrun, h2, h3, h4⟩ := run_append_tout o.type base v n xs hown g c C hl h0 k0 hb hbase
  unfold Oper.wp execOp
  simp only [ho, resolve, invoke, builtin, Sem.run_bind, Sem.run_pure, Result.andThen_ok, List.map_toArray, List.map_cons, List.map_nil, hs, hx, hrun]
  exact h v' w' h2 h3 h4
/-- A slice of one. -/
theorem wpList_one_tout {w : World} {ops : Array Oper} {rest : List Oper} {o : Oper} {a : Act} {Q : Exit → Act → World → Prop} (hgd : o.guard = none) (x : Operand) (ho : o.op = .buildSlice 23 1 #[(0, x)])
    (C : List Value) (hx : a.eval x = .agg C.toArray) (hl : C.length = 2) (h : wpList Tryd.prog ops Q rest (a.put o.dst (.slice (some ⟨w.heap.size, 0, none⟩) 1 1)) (w.alloc (.cells C.toArray 54))) : wpList Tryd.prog ops Q (o :: rest) a w := by
  refine wpList_plain hgd fun K hK => ?_
  have hrun := one_tout hl w
  unfold Oper.wp execOp
  simp only [ho, List.map_toArray, List.map_cons, List.map_nil, hx, hrun, Sem.run_bind, Sem.run_pure, Result.andThen_ok]
  exact hK _ _ h

theorem chosen_is (k : Int) : chosenF k = 1 ∨ chosenF k = 2 ∨ chosenF k = 3 := by
  unfold chosenF
  split
  · exact .inr (.inl rfl)
  · split
    · exact .inr (.inr rfl)
    · exact .inl rfl
/-- An input as it is signed in another one. -/
def otherP (k : Int) (p : InP) : InP := ⟨p.h, p.ix, [], if chosenF k = 1 then p.sq else 0, []⟩
def bareV (p : InP) : InV := ⟨p, .slice none 0 0, .slice none 0 0, []⟩
theorem otherP_ok {k : Int} {p : InP} (h : p.ok) : (otherP k p).ok := ⟨h.hl, h.ix0, h.ix1, by unfold otherP; dsimp only; split; exact h.sq0; omega, by unfold otherP; dsimp only; split; exact h.sq1; omega⟩
theorem BagR.nil (w : World) (B : Nat) : BagR w B (.slice none 0 0) [] := ⟨⟨none, 0, rfl, Nat.le_refl _, by unfold maxLen; omega, fun h => absurd rfl h⟩, fun _ h => by cases h⟩
theorem bareV_is {w : World} {B : Nat} {p : InP} (h : p.ok) (hs : p.sc = []) (hw : p.wt = []) : InIs w B (bareV p) := ⟨h, by show Byt w B _ p.sc; rw [hs]; exact Byt.nil w B, BagR.nil w B, by show [] = p.wt; rw [hw]⟩
theorem size_op : (Tryd.prog.info? 46).map (·.size) = some 33 := by kernel_rfl

set_option maxRecDepth 100000 in
set_option maxHeartbeats 1600000 in
theorem other_any (x : InV) (k : Int) (w : World) (hx : x.p.ok) (h0 : 0 ≤ k) (h1 : k < 256) :
    Calls Tryd.prog 51 #[.agg (inC x).toArray, .int .u8 k] w fun e w' => e = .returned (.agg (inC (bareV (otherP k x.p))).toArray) ∧ Below w.heap.size w w' := by
  have hcl := inC_length hx
  obtain ⟨O, hO⟩ : ∃ O, O = opC x.p.h x.p.ix := ⟨_, rfl⟩
  have hOl : O.length = 33 := by rw [hO]; exact opC_length _ hx.hl
  have hco : inC x = O ++ [x.sv, .int .u32 x.p.sq, x.wv] := by rw [hO]; exact inC_op x
  have hcr : inC (bareV (otherP k x.p)) = O ++ [Value.slice none 0 0, .int .u32 (if chosenF k = 1 then x.p.sq else 0), Value.slice none 0 0] := by rw [hO]; exact inC_op _
  obtain ⟨C, hC⟩ : ∃ C, C = inC x := ⟨_, rfl⟩
  obtain ⟨R, hR⟩ : ∃ R, R = inC (bareV (otherP k x.p)) := ⟨_, rfl⟩
  have hRl : R.length = 36 := by rw [hR]; exact inC_length (x := bareV (otherP k x.p)) (otherP_ok hx)
  have hR1 : R.toArray.all (·.oneCell') = true := by rw [hR]; exact arr_one (bareV_is (w := w) (B := 0) (otherP_ok hx) rfl rfl).one
  rw [← hC] at hcl hco ⊢
  rw [← hR] at hcr ⊢
  have c34 : C[34]? = some (.int .u32 x.p.sq) := by rw [hC]; exact inC_sq hx
  have hrO : ∀ (j : Nat) (v : Value), O[j]? = some v → C[0 + j]? = some v := fun j v hv => by
    rw [Nat.zero_add, hco, List.getElem?_append_left (List.getElem?_eq_some_iff.1 hv).1]
    exact hv
  have hb0 := build_place hOl
  have hb2 := build_seq hOl x.p.sq
  have hz := zero_tin
  obtain ⟨ZI, hZI⟩ : ∃ z, z = zTin := ⟨_, rfl⟩
  have hzl : ZI.length = 36 := by rw [hZI]; rfl
  rw [← hZI] at hz
  have q1 : VRow (w.alloc (.cells C.toArray 49)) w.heap.size 49 C := VRow.new _ _ _
  have s1 : (w.alloc (.cells C.toArray 49)).heap.size = w.heap.size + 1 := by simp
  have q2 : VRow ((w.alloc (.cells C.toArray 49)).alloc (.cells ZI.toArray 49)) (w.heap.size + 1) 49 ZI := by rw [← s1]; exact VRow.new _ _ _
  have q1' : VRow ((w.alloc (.cells C.toArray 49)).alloc (.cells ZI.toArray 49)) w.heap.size 49 C := q1.below ((Below.refl _ _).alloc (Nat.le_refl _) _) (by rw [s1]; omega)
  have qb : Below w.heap.size w ((w.alloc (.cells C.toArray 49)).alloc (.cells ZI.toArray 49)) := ((Below.refl _ w).alloc (Nat.le_refl _) _).alloc (by rw [s1]; omega) _
  obtain ⟨w1, hw1⟩ : ∃ z, z = ((w.alloc (.cells C.toArray 49)).alloc (.cells ZI.toArray 49)) := ⟨_, rfl⟩
  obtain ⟨GB, hGB⟩ : ∃ z, z = w.heap.size := ⟨_, rfl⟩
  obtain ⟨GR, hGR⟩ : ∃ z, z = w.heap.size + 1 := ⟨_, rfl⟩
  rw [← hw1, ← hGR] at q2
  rw [← hw1] at qb
  rw [← hw1, ← hGB] at q1'
  have Q1 := Lib.hid q1'
  have Q2 := Lib.hid q2
  have QB := Lib.hid qb
  have HGR := Lib.hid (show w.heap.size ≤ GR by omega)
  have HW1 := Lib.hid hw1
  have HGB := Lib.hid hGB
  have HGE := Lib.hid hGR
  have HZS := Lib.hid (show (Tryd.prog.info? 49).map (·.size) = some R.length by rw [hRl]; exact size_tin)
  have HZL := Lib.hid (show ZI.length = R.length by rw [hzl, hRl])
  have HR1 := Lib.hid hR1
  have HOS := Lib.hid (show (Tryd.prog.info? 46).map (·.size) = some O.length by rw [hOl]; exact size_op)
  have HRO := Lib.hid hrO
  have HB0 := Lib.hid hb0
  have HB2 := Lib.hid hb2
  have HCR := Lib.hid hcr
  have C34 := Lib.hid c34
  obtain ⟨sq, hsq⟩ : ∃ n, n = x.p.sq := ⟨_, rfl⟩
  rw [← hsq] at C34 HB2 HCR
  clear hcl hO hOl hco hcr hC hR hRl hR1 c34 hrO hb0 hb2 hZI hzl q1 s1 q2 q1' qb hw1 hGB hGR hsq hx
  go_enter Tryd.func51, Tryd.ntmps51
  go_upto_region 1 with fail
  change Code.wp _ _ _ _ ((w.alloc (.cells C.toArray 49)).alloc (.cells ZI.toArray 49))
  rw [← HW1.out, show w.heap.size + 1 = GR from HGE.out.symm, show w.heap.size = GB from HGB.out.symm]
  clear HW1 HGE
  try dsimp only [Act.put]
  rcases chosen_is k with hc | hc | hc
  · rw [hc, if_pos rfl] at HCR
    have hca := chosen_any k w1 h0 h1
    rw [hc] at hca
    have d := Q1.out.cell C34.out
    clear hc
    go_wp2_with fail
    refine hca.mono ?_
    rintro e w2 ⟨rfl, rfl⟩
    go_wp2_with (first
      | (refine wpList_load_mid rfl 46 _ rfl GB 0 rfl O _ (Q1.out.range HRO.out) Tryd.underlying46 rfl HOS.out ?_)
      | (refine wpList_build_lit rfl 49 _ (.agg R.toArray) rfl (fun W => by (simp only [List.map_toArray, List.map_cons, List.map_nil]; rw [HCR.out]; exact HB2.out W)) ?_)
      | (refine wpList_store_vrow rfl 49 _ _ rfl rfl rfl Q2.out HZS.out HZL.out HR1.out ?_))
    refine bodyPost_ret (v := .agg R.toArray) ?_ rfl ⟨rfl, below_setRow QB.out HGR.out _⟩
    obtain ⟨fr, hrw⟩ : ∃ fr, (w1.setRow GR R.toArray).heap[GR]? = some (.cells R.toArray 49 fr) := ⟨_, Q2.out.setRow R⟩
    exact results_cell_row Tryd.results51 _ _ GR 49 R.toArray fr _ rfl hrw Tryd.underlying49 rfl (by rw [List.size_toArray]; exact HZS.out)
  · rw [hc, if_neg (by decide)] at HCR
    have hca := chosen_any k w1 h0 h1
    rw [hc] at hca
    have d := Q1.out.cell C34.out
    clear hc
    go_wp2_with fail
    refine hca.mono ?_
    rintro e w2 ⟨rfl, rfl⟩
    go_wp2_with (first
      | (refine wpList_load_mid rfl 46 _ rfl GB 0 rfl O _ (Q1.out.range HRO.out) Tryd.underlying46 rfl HOS.out ?_)
      | (refine wpList_build_lit rfl 49 _ (.agg R.toArray) rfl (fun W => by (simp only [List.map_toArray, List.map_cons, List.map_nil]; rw [HCR.out]; exact HB0.out W)) ?_)
      | (refine wpList_store_vrow rfl 49 _ _ rfl rfl rfl Q2.out HZS.out HZL.out HR1.out ?_))
    refine bodyPost_ret (v := .agg R.toArray) ?_ rfl ⟨rfl, below_setRow QB.out HGR.out _⟩
    obtain ⟨fr, hrw⟩ : ∃ fr, (w1.setRow GR R.toArray).heap[GR]? = some (.cells R.toArray 49 fr) := ⟨_, Q2.out.setRow R⟩
    exact results_cell_row Tryd.results51 _ _ GR 49 R.toArray fr _ rfl hrw Tryd.underlying49 rfl (by rw [List.size_toArray]; exact HZS.out)
  · rw [hc, if_neg (by decide)] at HCR
    have hca := chosen_any k w1 h0 h1
    rw [hc] at hca
    have d := Q1.out.cell C34.out
    clear hc
    go_wp2_with fail
    refine hca.mono ?_
    rintro e w2 ⟨rfl, rfl⟩
    go_wp2_with (first
      | (refine wpList_load_mid rfl 46 _ rfl GB 0 rfl O _ (Q1.out.range HRO.out) Tryd.underlying46 rfl HOS.out ?_)
      | (refine wpList_build_lit rfl 49 _ (.agg R.toArray) rfl (fun W => by (simp only [List.map_toArray, List.map_cons, List.map_nil]; rw [HCR.out]; exact HB0.out W)) ?_)
      | (refine wpList_store_vrow rfl 49 _ _ rfl rfl rfl Q2.out HZS.out HZL.out HR1.out ?_))
    refine bodyPost_ret (v := .agg R.toArray) ?_ rfl ⟨rfl, below_setRow QB.out HGR.out _⟩
    obtain ⟨fr, hrw⟩ : ∃ fr, (w1.setRow GR R.toArray).heap[GR]? = some (.cells R.toArray 49 fr) := ⟨_, Q2.out.setRow R⟩
    exact results_cell_row Tryd.results51 _ _ GR 49 R.toArray fr _ rfl hrw Tryd.underlying49 rfl (by rw [List.size_toArray]; exact HZS.out)
end Go.Proofs.YthelmclpmalofaaDoor

/-
  sighash.inputs: the inputs as they are signed. Conditions: sizes within the reach.
-/
namespace Go.Proofs.YthelmclpmalofaaDoor
open Go.RowKit

theorem yieldsIf_build {ops : Array Oper} {S : World → Prop} {op : Oper} {a : Act} (hw : Region.wanted op (yielded ops a.tmps) = true) (ty : TypeId) (parts : Array (Nat × Operand)) (ho : op.op = .build ty parts) (v : Value)
    (hx : ∀ w, (Instr.build ty (parts.map fun p => (p.1, a.eval p.2))).run Tryd.prog w = .ok v w) : YieldsIf Tryd.prog ops S op v a :=
  .inl ⟨hw, fun w _ => by
    unfold execOp
    have h := hx w
    simp only [ho, h, Sem.run_bind, Sem.run_pure, Result.andThen_ok]⟩
theorem wp_store_vrow {op : Oper} {a : Act} {w : World} {K : Act → World → Prop} {Q : Exit → Act → World → Prop} (ty : TypeId) (x y : Operand) (ho : op.op = .store ty x y)
    {g : Nat} {t : TypeId} {vs us : List Value} (hx : a.eval x = .pointer (some ⟨g, 0, none⟩)) (hy : a.eval y = .agg us.toArray) (h : VRow w g t vs) (hi : (Tryd.prog.info? ty).map (·.size) = some us.length) (hl : vs.length = us.length) (h1 : us.toArray.all (·.oneCell') = true)
    (hn : K (a.put op.dst undef) (w.setRow g us.toArray)) : op.wp Tryd.prog a w K Q := by
  unfold Oper.wp execOp
  have hst : (Instr.storeAt ty (.pointer (some ⟨g, 0, none⟩)) (.agg us.toArray)).run Tryd.prog w = .ok () (w.setRow g us.toArray) := by
    simp only [Instr.storeAt, Instr.sureAddr, Sem.run_bind, Sem.run_pure, Result.andThen_ok]
    exact run_storeVar_row w g t ty _ _ h (by rw [hi]; simp) (by simp [hl]) h1
  simp only [ho, hx, hy, hst, Sem.run_bind, Sem.run_pure, Result.andThen_ok]
  exact hn
def ownP (sc : List UInt8) (p : InP) : InP := ⟨p.h, p.ix, sc, p.sq, []⟩
def ownV (sv : Value) (sc : List UInt8) (p : InP) : InV := ⟨ownP sc p, sv, .slice none 0 0, []⟩
def legIns (l : List InP) (i : Nat) (sc : List UInt8) (k : Int) : List InP := match l[i]? with
  | some p => if aloneF k then [ownP sc p] else (l.map (otherP k)).set i (ownP sc p)
  | none => []
theorem legIns_alone {l : List InP} {i : Nat} {sc : List UInt8} {k : Int} {p : InP} (h : l[i]? = some p) (ha : aloneF k = true) : legIns l i sc k = [ownP sc p] := by unfold legIns; rw [h]; dsimp only; rw [if_pos ha]
theorem legIns_all {l : List InP} {i : Nat} {sc : List UInt8} {k : Int} {p : InP} (h : l[i]? = some p) (ha : aloneF k = false) : legIns l i sc k = (l.map (otherP k)).set i (ownP sc p) := by unfold legIns; rw [h]; dsimp only; rw [if_neg (by rw [ha]; decide)]
theorem ownP_ok {sc : List UInt8} {p : InP} (h : p.ok) : (ownP sc p).ok := ⟨h.hl, h.ix0, h.ix1, h.sq0, h.sq1⟩
theorem ownV_is {w : World} {B : Nat} {sv : Value} {sc : List UInt8} {p : InP} (h : p.ok) (hs : Byt w B sv sc) : InIs w B (ownV sv sc p) := ⟨ownP_ok h, hs, BagR.nil w B, rfl⟩
theorem rangeAt_head {w : World} {b o : Nat} {a c : List Value} (h : w.rangeAt b o (a ++ c)) : w.rangeAt b o a := fun j v hv => h j v (by rw [List.getElem?_append_left (List.getElem?_eq_some_iff.1 hv).1]; exact hv)
theorem InsO.below {w w' : World} {base : Nat} {v : Value} {X : List InV} (h : InsO w base v X) (hb : Below w.heap.size w w') : InsO w' base v X := own_turns h (Turns.of_below (S := fun _ => False) hb) (fun _ _ q => q)
theorem OutsO.below {w w' : World} {base : Nat} {v : Value} {X : List OutV} (h : OutsO w base v X) (hb : Below w.heap.size w w') : OutsO w' base v X := own_turns h (Turns.of_below (S := fun _ => False) hb) (fun _ _ q => q)

set_option maxRecDepth 100000 in
set_option maxHeartbeats 6400000 in
theorem inputs_any (B : Nat) (iv sv : Value) (X : List InV) (sc : List UInt8) (i : Nat) (x : InV) (k : Int) (w : World) (hX : InsR w B iv X) (hsv : Byt w B sv sc) (hB : B ≤ w.heap.size) (hi : X[i]? = some x) (h0 : 0 ≤ k) (h1 : k < 256) (hn : X.length ≤ 1000) :
    Calls Tryd.prog 27 #[iv, .int .i64 (i : Int), sv, .int .u8 k] w fun e w' => ∃ v X', e = .returned v ∧ (∀ W, Turns (fun q => B ≤ q ∧ q < w.heap.size) w' W → InsR W W.heap.size v X') ∧ X'.map (·.p) = legIns (X.map (·.p)) i sc k ∧ Below w.heap.size w w' := by
  obtain ⟨b, o, cp, hv, hnc, hcm, hbl, hrg, hin⟩ := hX.at hi
  have hil := (List.getElem?_eq_some_iff.1 hi).1
  have hok := hin.ok
  subst hv
  obtain ⟨As, cs, hsf⟩ := hsv.form
  obtain ⟨O, hO⟩ : ∃ O, O = opC x.p.h x.p.ix := ⟨_, rfl⟩
  have hOl : O.length = 33 := by rw [hO]; exact opC_length _ hok.hl
  have hco : inC x = O ++ [x.sv, .int .u32 x.p.sq, x.wv] := by rw [hO]; exact inC_op x
  have hcr : inC (ownV sv sc x.p) = O ++ [sv, .int .u32 x.p.sq, Value.slice none 0 0] := by rw [hO]; exact inC_op _
  rw [hco] at hrg
  have hrO := rangeAt_head hrg
  have c34 : w.cell? ⟨b, o + i * 36 + 34, none⟩ = some (.int .u32 x.p.sq) := hrg 34 _ (by rw [List.getElem?_append_right (by omega), hOl]; rfl)
  obtain ⟨sq, hsq⟩ : ∃ n, n = x.p.sq := ⟨_, rfl⟩
  rw [← hsq] at c34 hcr
  have hb := build_own hOl As sc.length cs sq
  obtain ⟨R, hR⟩ : ∃ R, R = inC (ownV sv sc x.p) := ⟨_, rfl⟩
  have hRl : R.length = 36 := by rw [hR]; exact inC_length (x := ownV sv sc x.p) (ownP_ok hok)
  have hR1 : ∀ u ∈ R, u.oneCell' = true := by rw [hR]; exact (ownV_is (w := w) (B := B) hok hsv).one
  rw [← hR, hsf] at hcr
  have hz := zero_tin
  obtain ⟨ZI, hZI⟩ : ∃ z, z = zTin := ⟨_, rfl⟩
  have hzl : ZI.length = 36 := by rw [hZI]; rfl
  rw [← hZI] at hz
  have hiX : (i : Int) < (X.length : Int) := by omega
  have hXc : (X.length : Int) ≤ 1000 := by omega
  have hXm : X.length ≤ cp := hnc
  have HX := Lib.hid hX
  have HSV := Lib.hid hsv
  have HB := Lib.hid hB
  have HI := Lib.hid hi
  have HOK := Lib.hid hok
  have HRO := Lib.hid hrO
  have HZS := Lib.hid (show (Tryd.prog.info? 49).map (·.size) = some R.length by rw [hRl]; exact size_tin)
  have HZL := Lib.hid (show ZI.length = R.length by rw [hzl, hRl])
  have HR1 := Lib.hid hR1
  have HRL := Lib.hid hRl
  have HR := Lib.hid hR
  have HOS := Lib.hid (show (Tryd.prog.info? 46).map (·.size) = some O.length by rw [hOl]; exact size_op)
  have HBD := Lib.hid hb
  have HCR := Lib.hid hcr
  have HBL := Lib.hid hbl
  have hS0 : w.drew.rangeAt b (o + i * 36) O ∧ w.drew.cell? ⟨b, o + i * 36 + 34, none⟩ = some (.int .u32 sq) := ⟨hrO, c34⟩
  have HS0 := Lib.hid hS0
  have HSF := Lib.hid hsf
  obtain ⟨nX, hnX⟩ : ∃ n, n = X.length := ⟨_, rfl⟩
  have HNX := Lib.hid hnX
  rw [← hnX] at hiX hXc hXm ⊢
  rw [← hnX] at HX
  obtain ⟨nS, hnS⟩ : ∃ n, n = sc.length := ⟨_, rfl⟩
  have HNS := Lib.hid hnS
  rw [← hnS] at HBD HCR HSF
  clear hX hsv hB hi hok hrO hO hOl hco hcr hrg c34 hsq hb hR hRl hR1 hZI hzl hil hnc hcm hbl hin hS0 hnX hn hnS
  rw [show sv = .slice As nS cs from HSF.out]
  clear hsf
  go_enter Tryd.func27, Tryd.ntmps27
  have HSB := Lib.hid (show ∀ W', Below w.heap.size w.drew W' → W'.rangeAt b (o + i * 36) O ∧ W'.cell? ⟨b, o + i * 36 + 34, none⟩ = some (.int .u32 sq) from fun W' h => ⟨fun j v hv => (h.cell (p := ⟨b, _, none⟩) (Nat.lt_of_lt_of_le HBL.out HB.out)).trans (HS0.out.1 j v hv), (h.cell (p := ⟨b, _, none⟩) (Nat.lt_of_lt_of_le HBL.out HB.out)).trans HS0.out.2⟩)
  go_wp2_with fail
  refine wp_region_held_drew (S := (fun w' => w'.rangeAt b (o + i * 36) O ∧ w'.cell? ⟨b, o + i * 36 + 34, none⟩ = some (.int .u32 sq))) (by kernel_rfl) ?_ (fun hHeld => ?_)
  · exact HS0.out
  refine wpAnyH_take (i := 0) (oi := { dst := some 13, op := Go.Op.move (Go.Operand.tmp 0), type := 22, pos := "legacy.go:26", after := #[], guard := none }) (v := ?av0) rfl (by kernel_rfl) (by kernel_rfl) (by kernel_rfl) (fun _ _ _ h => h) (Or.inl ⟨by rfl, ?ay0⟩) (by assumption) ?ar0
  case ay0 => (intro w hSw; (try dsimp only at hSw); go_simp; try (with_reducible rfl))
  case ar0 =>
  try simp only [Act.put, List.setIfInBounds_toArray, List.set_cons_zero, List.set_cons_succ]
  refine wpAnyH_take (i := 1) (oi := { dst := some 14, op := Go.Op.move (Go.Operand.tmp 1), type := 3, pos := "legacy.go:26", after := #[], guard := none }) (v := ?av1) rfl (by kernel_rfl) (by kernel_rfl) (by kernel_rfl) (fun _ _ _ h => h) (Or.inl ⟨by rfl, ?ay1⟩) (by assumption) ?ar1
  case ay1 => (intro w hSw; (try dsimp only at hSw); go_simp; try (with_reducible rfl))
  case ar1 =>
  try simp only [Act.put, List.setIfInBounds_toArray, List.set_cons_zero, List.set_cons_succ]
  refine wpAnyH_take (i := 2) (oi := { dst := some 15, op := Go.Op.indexAddr 22 (Go.Operand.tmp 13) (Go.Operand.tmp 14), type := 0, pos := "legacy.go:26", after := #[{ on := 0, ground := Go.Ground.data }, { on := 1, ground := Go.Ground.data }], guard := none }) (v := ?av2) rfl (by kernel_rfl) (by kernel_rfl) (by kernel_rfl) (fun _ _ _ h => h) (Or.inl ⟨by rfl, ?ay2⟩) (by assumption) ?ar2
  case ay2 => (intro w hSw; (try dsimp only at hSw); go_simp; try (with_reducible rfl))
  case ar2 =>
  try simp only [Act.put, List.setIfInBounds_toArray, List.set_cons_zero, List.set_cons_succ]
  refine wpAnyH_take (i := 3) (oi := { dst := some 16, op := Go.Op.fieldAddr 49 (Go.Operand.tmp 15) 0, type := 0, pos := "legacy.go:26", after := #[{ on := 2, ground := Go.Ground.data }], guard := none }) (v := ?av3) rfl (by kernel_rfl) (by kernel_rfl) (by kernel_rfl) (fun _ _ _ h => h) (Or.inl ⟨by rfl, ?ay3⟩) (by assumption) ?ar3
  case ay3 => (intro w hSw; (try dsimp only at hSw); go_simp; try (with_reducible rfl))
  case ar3 =>
  try simp only [Act.put, List.setIfInBounds_toArray, List.set_cons_zero, List.set_cons_succ]
  refine wpAnyH_take (i := 4) (oi := { dst := some 17, op := Go.Op.load 46 (Go.Operand.tmp 16), type := 46, pos := "legacy.go:26", after := #[{ on := 3, ground := Go.Ground.data }], guard := none }) (v := (.agg O.toArray)) rfl (by kernel_rfl) (by kernel_rfl) (by kernel_rfl) (fun _ _ _ h => h) (yieldsIf_load_mid (by rfl) 46 (.tmp 16) rfl b (o + i * 36) rfl O _ (fun w' h => h.1) Tryd.underlying46 rfl HOS.out) (by assumption) ?_
  try simp only [Act.put, List.setIfInBounds_toArray, List.set_cons_zero, List.set_cons_succ]
  refine wpAnyH_take (i := 5) (oi := { dst := some 18, op := Go.Op.move (Go.Operand.tmp 2), type := 27, pos := "legacy.go:26", after := #[], guard := none }) (v := ?av5) rfl (by kernel_rfl) (by kernel_rfl) (by kernel_rfl) (fun _ _ _ h => h) (Or.inl ⟨by rfl, ?ay5⟩) (by assumption) ?ar5
  case ay5 => (intro w hSw; (try dsimp only at hSw); go_simp; try (with_reducible rfl))
  case ar5 =>
  try simp only [Act.put, List.setIfInBounds_toArray, List.set_cons_zero, List.set_cons_succ]
  refine wpAnyH_take (i := 6) (oi := { dst := some 19, op := Go.Op.move (Go.Operand.tmp 0), type := 22, pos := "legacy.go:26", after := #[], guard := none }) (v := ?av6) rfl (by kernel_rfl) (by kernel_rfl) (by kernel_rfl) (fun _ _ _ h => h) (Or.inl ⟨by rfl, ?ay6⟩) (by assumption) ?ar6
  case ay6 => (intro w hSw; (try dsimp only at hSw); go_simp; try (with_reducible rfl))
  case ar6 =>
  try simp only [Act.put, List.setIfInBounds_toArray, List.set_cons_zero, List.set_cons_succ]
  refine wpAnyH_take (i := 7) (oi := { dst := some 20, op := Go.Op.move (Go.Operand.tmp 1), type := 3, pos := "legacy.go:26", after := #[], guard := none }) (v := ?av7) rfl (by kernel_rfl) (by kernel_rfl) (by kernel_rfl) (fun _ _ _ h => h) (Or.inl ⟨by rfl, ?ay7⟩) (by assumption) ?ar7
  case ay7 => (intro w hSw; (try dsimp only at hSw); go_simp; try (with_reducible rfl))
  case ar7 =>
  try simp only [Act.put, List.setIfInBounds_toArray, List.set_cons_zero, List.set_cons_succ]
  refine wpAnyH_take (i := 8) (oi := { dst := some 21, op := Go.Op.indexAddr 22 (Go.Operand.tmp 19) (Go.Operand.tmp 20), type := 0, pos := "legacy.go:26", after := #[{ on := 6, ground := Go.Ground.data }, { on := 7, ground := Go.Ground.data }], guard := none }) (v := ?av8) rfl (by kernel_rfl) (by kernel_rfl) (by kernel_rfl) (fun _ _ _ h => h) (Or.inl ⟨by rfl, ?ay8⟩) (by assumption) ?ar8
  case ay8 => (intro w hSw; (try dsimp only at hSw); go_simp; try (with_reducible rfl))
  case ar8 =>
  try simp only [Act.put, List.setIfInBounds_toArray, List.set_cons_zero, List.set_cons_succ]
  refine wpAnyH_take (i := 9) (oi := { dst := some 22, op := Go.Op.fieldAddr 49 (Go.Operand.tmp 21) 2, type := 0, pos := "legacy.go:26", after := #[{ on := 8, ground := Go.Ground.data }], guard := none }) (v := ?av9) rfl (by kernel_rfl) (by kernel_rfl) (by kernel_rfl) (fun _ _ _ h => h) (Or.inl ⟨by rfl, ?ay9⟩) (by assumption) ?ar9
  case ay9 => (intro w hSw; (try dsimp only at hSw); go_simp; try (with_reducible rfl))
  case ar9 =>
  try simp only [Act.put, List.setIfInBounds_toArray, List.set_cons_zero, List.set_cons_succ]
  refine wpAnyH_take (i := 10) (oi := { dst := some 23, op := Go.Op.load 24 (Go.Operand.tmp 22), type := 24, pos := "legacy.go:26", after := #[{ on := 9, ground := Go.Ground.data }], guard := none }) (v := (.int .u32 sq)) rfl (by kernel_rfl) (by kernel_rfl) (by kernel_rfl) (fun _ _ _ h => h) (Or.inl ⟨by rfl, ?ay10⟩) (by assumption) ?ar10
  case ay10 => (intro w hSw; (try dsimp only at hSw); go_simp; try (simp [hSw.2]))
  case ar10 =>
  try simp only [Act.put, List.setIfInBounds_toArray, List.set_cons_zero, List.set_cons_succ]
  refine wpAnyH_take (i := 11) (oi := { dst := some 24, op := Go.Op.build 49 #[(0, Go.Operand.tmp 17), (1, Go.Operand.tmp 18), (2, Go.Operand.tmp 23)], type := 49, pos := "legacy.go:26", after := #[{ on := 4, ground := Go.Ground.data }, { on := 5, ground := Go.Ground.data }, { on := 10, ground := Go.Ground.data }], guard := none }) (v := (.agg R.toArray)) rfl (by kernel_rfl) (by kernel_rfl) (by kernel_rfl) (fun _ _ _ h => h) (yieldsIf_build (by rfl) 49 _ rfl (.agg R.toArray) (fun W => by (simp only [List.map_toArray, List.map_cons, List.map_nil]; rw [HCR.out]; exact HBD.out W))) (by assumption) ?_
  try simp only [Act.put, List.setIfInBounds_toArray, List.set_cons_zero, List.set_cons_succ]
  refine wpAnyH_ready (rs := [12]) (by kernel_rfl) (by simp) ?_
  refine AllReadyH.cons (o := { dst := some 9, op := Go.Op.alloc 49, type := 0, pos := "legacy.go:26", after := #[], guard := none }) rfl (fun K hK => ?_) (AllReadyH.nil)
  go_simp
  obtain ⟨w1, hw1⟩ : ∃ z, z = (w.alloc (.cells ZI.toArray 49)).drew := ⟨_, rfl⟩
  obtain ⟨G, hG⟩ : ∃ z, z = w.heap.size := ⟨_, rfl⟩
  have R1 := Lib.hid (show VRow w1 G 49 ZI by rw [hw1, hG]; exact VRow.new w _ _)
  have B1 := Lib.hid (show Below w.heap.size w.drew w1 by rw [hw1]; exact ((Below.refl _ w.drew).alloc (Nat.le_refl _) _ : Below w.heap.size w.drew (w.drew.alloc _)))
  have S1 := Lib.hid (show w1.heap.size = G + 1 by rw [hw1, hG]; show (w.alloc (.cells ZI.toArray 49)).heap.size = _; simp)
  try rw [← hw1]
  try rw [← hG]
  have HG := Lib.hid hG
  clear hw1 hG
  refine hK.out _ _ ?_ (fun hHeld => ?_)
  · exact HSB.out _ B1.out
  clear hK K
  try simp only [Act.put, List.setIfInBounds_toArray, List.set_cons_zero, List.set_cons_succ]
  refine wpAnyH_ready (rs := [13]) (by kernel_rfl) (by simp) ?_
  refine AllReadyH.cons (o := { dst := none, op := Go.Op.store 49 (Go.Operand.tmp 9) (Go.Operand.tmp 24), type := 0, pos := "legacy.go:26", after := #[{ on := 12, ground := Go.Ground.data }, { on := 11, ground := Go.Ground.data }, { on := 0, ground := Go.Ground.phase }, { on := 1, ground := Go.Ground.phase }, { on := 2, ground := Go.Ground.phase }, { on := 3, ground := Go.Ground.phase }, { on := 4, ground := Go.Ground.phase }, { on := 5, ground := Go.Ground.phase }, { on := 6, ground := Go.Ground.phase }, { on := 7, ground := Go.Ground.phase }, { on := 8, ground := Go.Ground.phase }, { on := 9, ground := Go.Ground.phase }, { on := 10, ground := Go.Ground.phase }, { on := 11, ground := Go.Ground.phase }, { on := 12, ground := Go.Ground.phase }], guard := none }) rfl (fun K hK => ?_) (AllReadyH.nil)
  refine wp_store_vrow 49 (.tmp 9) (.tmp 24) rfl (g := G) (t := 49) (vs := ZI) (us := R) rfl rfl R1.out HZS.out HZL.out (arr_one HR1.out) ?_
  refine hK.out _ _ ?_ (fun hHeld => ?_)
  · exact HSB.out _ (below_setRow B1.out (by have := HG.out; omega) _)
  clear hK K
  try simp only [Act.put]
  refine wpAnyH_done (by kernel_rfl) ?_ _
  obtain ⟨wA, hwA⟩ : ∃ z, z = w1.setRow G R.toArray := ⟨_, rfl⟩
  have RA := Lib.hid (show VRow wA G 49 R by rw [hwA]; exact R1.out.setRow R)
  have BA := Lib.hid (show Below w.heap.size w wA by rw [hwA]; exact (Below.refl _ w).drew.trans (below_setRow B1.out (by have := HG.out; omega) _))
  have SA := Lib.hid (show wA.heap.size = G + 1 by rw [hwA]; simp [World.setRow, S1.out])
  rw [← hwA]
  clear hwA R1 B1 S1 HSB HS0
  have HAL := Lib.hid (alone_any k wA h0 h1)
  by_cases ha : aloneF k = true
  · as_aux_lemma =>
    rw [ha] at HAL
    have hLI := legIns_alone (l := X.map (·.p)) (i := i) (p := x.p) (sc := sc) (by rw [List.getElem?_map, HI.out]; rfl) ha
    have HLI := Lib.hid hLI
    clear hLI ha
    go_wp2_with fail
    refine HAL.out.mono ?_
    rintro e w2 ⟨rfl, rfl⟩
    go_wp2_with (first
      | (refine wpList_load_vrow rfl 49 (.tmp 9) rfl rfl RA.out Tryd.underlying49 HZS.out ?_)
      | (refine wpList_one_tin rfl (.tmp 27) rfl R rfl HRL.out ?_))
    refine bodyPost_ret (results_tmp rfl _ _ _) rfl ?_
    have rn := VRow.new wA 49 R
    have bn : Below wA.heap.size wA (wA.alloc (.cells R.toArray 49)) := (Below.refl _ wA).alloc (Nat.le_refl _) _
    refine ⟨_, [ownV sv sc x.p], rfl, fun W hW => ?_, HLI.out.symm, BA.out.trans (bn.mono BA.out.size)⟩
    have rw1 := rn.turns hW (fun q => by have := BA.out.size; have := q.2; omega)
    have b2 := BA.out.trans (bn.mono BA.out.size)
    have b3 : Below B (wA.alloc (.cells R.toArray 49)) W := hW.below_of (Nat.le_trans HB.out b2.size) (fun q hq q2 => by have := q2.1; omega)
    refine ⟨⟨some ⟨wA.heap.size, 0, none⟩, 1, rfl, Nat.le_refl _, by unfold maxLen; omega, fun _ => ⟨wA.heap.size, 0, rfl, rw1.lt, ?_⟩⟩, fun y hy => ?_⟩
    · rw [List.flatMap_cons, List.flatMap_nil, List.append_nil, ← HR.out]
      exact rw1.range (fun j v hv => by rw [Nat.zero_add]; exact hv)
    · obtain rfl : y = ownV sv sc x.p := by simpa using hy
      exact (ownV_is HOK.out ((HSV.out.below (b2.mono HB.out)).below b3)).more (Nat.le_trans HB.out (Nat.le_trans b2.size hW.size))
  · as_aux_lemma =>
    have ha' : aloneF k = false := by simpa using ha
    rw [ha'] at HAL
    have hLI := legIns_all (l := X.map (·.p)) (i := i) (p := x.p) (sc := sc) (by rw [List.getElem?_map, HI.out]; rfl) ha'
    have HLI := Lib.hid hLI
    clear hLI ha ha'
    go_wp2_with fail
    refine HAL.out.mono ?_
    rintro e w2 ⟨rfl, rfl⟩
    clear HAL
    go_wp2_with fail
    go_loopw [10, 31] (fun s t wr => ∃ (j : Nat) (u : Value), u = s ∧ j ≤ nX ∧ t = .int .i64 (j : Int) ∧ Hid (InsO wr (G + 1) u ((X.take j).map (fun y => bareV (otherP k y.p)))) ∧ Hid (Below w.heap.size w wr) ∧ Hid (VRow wr G 49 R)) (fun _ t _ => nX - (intOf t).toNat)
    case atStart => exact ⟨0, _, rfl, Nat.zero_le _, rfl, Lib.hid (World.ownsRow_nil _ _ _ _), Lib.hid BA.out, Lib.hid RA.out⟩
    case round =>
      obtain ⟨j, u, hu, hj, rfl, hIO, hBW, hRR⟩ := hrel
      subst hu
      obtain ⟨w3, rfl⟩ : ∃ z : World, z = wr := ⟨_, rfl⟩
      by_cases hlt : j < nX
      · as_aux_lemma =>
        have dj : decide ((j : Int) < (nX : Int)) = true := decide_eq_true (by omega)
        obtain ⟨ZT, hZT⟩ : ∃ z, z = (X.take j).map (fun y => bareV (otherP k y.p)) := ⟨_, rfl⟩
        have HZT1 := Lib.hid (show (ZT.length + 1) * 96 ≤ 140737488355328 by rw [hZT, List.length_map, List.length_take]; omega)
        rw [← hZT] at hIO
        obtain ⟨y, hy⟩ : ∃ y, X[j]? = some y := ⟨_, List.getElem?_eq_getElem (by rw [← HNX.out]; exact hlt)⟩
        obtain ⟨b', o', c', ef, _, _, _, hrg, hiy⟩ := (HX.out.below (hBW.out.mono HB.out)).at hy
        injection ef with ef1 ef2 ef3
        injection ef1 with ef1
        injection ef1 with ef1 ef4
        subst ef1 ef4
        have hcl := inC_length hiy.ok
        have hc1 := hiy.one
        have hoa := fun W => other_any y k W hiy.ok h0 h1
        have hok2 := otherP_ok (k := k) hiy.ok
        have hnx : (X.take (j + 1)).map (fun y => bareV (otherP k y.p)) = ZT ++ [bareV (otherP k y.p)] := by rw [hZT, List.take_add_one, hy, List.map_append]; rfl
        obtain ⟨C, hC⟩ : ∃ C, C = inC y := ⟨_, rfl⟩
        obtain ⟨D, hD⟩ : ∃ D, D = inC (bareV (otherP k y.p)) := ⟨_, rfl⟩
        have hdl : D.length = 36 := by rw [hD]; exact inC_length (x := bareV (otherP k y.p)) hok2
        have hd1 : ∀ v ∈ D, v.oneCell' = true := by rw [hD]; exact (bareV_is (w := w) (B := 0) hok2 rfl rfl).one
        rw [← hC] at hrg hcl hc1
        simp only [← hC, ← hD] at hoa
        obtain ⟨r1, r2⟩ := box_row w3 49 ZI C
        have HSC := Lib.hid (show (Tryd.prog.info? 49).map (·.size) = some C.length by rw [hcl]; exact size_tin)
        have HLC := Lib.hid (show ZI.length = C.length by rw [HZL.out, HRL.out, hcl])
        have HC1 := Lib.hid (arr_one hc1)
        have HRG := Lib.hid hrg
        have HOA := Lib.hid hoa
        have HNX2 := Lib.hid hnx
        have HD := Lib.hid hD
        have HDL := Lib.hid hdl
        have HD1 := Lib.hid hd1
        clear hcl hc1 hrg hoa hok2 hnx hC hD hdl hd1 hy hiy ef2 ef3 hZT
        go_upto_region 8 with (first
          | (refine wpList_load_mid rfl 49 _ rfl b (o + j * 36) rfl C _ HRG.out Tryd.underlying49 rfl HSC.out ?_)
          | (refine wpList_store_vrow rfl 49 _ _ rfl rfl rfl (VRow.new _ _ ZI) HSC.out HLC.out HC1.out ?_))
        change Code.wp _ _ _ _ ((w3.alloc (.cells ZI.toArray 49)).setRow w3.heap.size C.toArray)
        obtain ⟨w5, hw5⟩ : ∃ z, z = ((w3.alloc (.cells ZI.toArray 49)).setRow w3.heap.size C.toArray) := ⟨_, rfl⟩
        obtain ⟨GB, hGB⟩ : ∃ z, z = w3.heap.size := ⟨_, rfl⟩
        rw [← hw5] at r1 r2 ⊢
        rw [← hGB] at r1 ⊢
        have R1 := Lib.hid r1
        have IO5 := Lib.hid (hIO.out.below r2)
        have BW5 := Lib.hid (hBW.out.trans (r2.mono hBW.out.size))
        have RR5 := Lib.hid (hRR.out.below r2 hRR.out.lt)
        clear r1 r2 hw5 hGB hIO hBW hRR
        go_wp2_with (first
          | (refine wpList_load_vrow rfl 49 _ rfl rfl R1.out Tryd.underlying49 HSC.out ?_))
        refine (HOA.out _).mono ?_
        rintro e w6 ⟨rfl, hb6⟩
        have b7 : Below w5.heap.size w5 (w6.alloc (.cells D.toArray 49)) := hb6.alloc hb6.size _
        obtain ⟨Au, cu, hform⟩ := IO5.out.form
        subst hform
        have IO7 := Lib.hid (IO5.out.below b7)
        have RG7 := Lib.hid (show (w6.alloc (.cells D.toArray 49)).rangeAt w6.heap.size 0 D from (VRow.new w6 49 D).range (fun q v hv => by rw [Nat.zero_add]; exact hv))
        have BW7 := Lib.hid (BW5.out.trans (b7.mono BW5.out.size))
        have RR7 := Lib.hid (RR5.out.below b7 RR5.out.lt)
        have HG7 := Lib.hid (show G + 1 ≤ (w6.alloc (.cells D.toArray 49)).heap.size by have := RR7.out.lt; omega)
        have BB7 := Lib.hid b7
        clear hb6 b7
        go_wp2_with (first
          | (refine wpList_one_tin rfl (.tmp 38) rfl D rfl HDL.out ?_)
          | (at_builtin; refine wpList_append_tin rfl (.tmp 35) (.tmp 39) rfl (G + 1) _ _ _ rfl IO7.out w6.heap.size 1 D rfl HDL.out RG7.out HD1.out HZT1.out HG7.out ?_; intro v1 w8 hown1 hg1 ho1; obtain ⟨A1, c1, rfl⟩ := own_form hown1))
        have hl1 := IO7.out.lt
        refine ⟨⟨j + 1, _, rfl, hlt, by first | rfl | (rw [wrap_small2 (by omega) (by omega)]; rfl), Lib.hid ?_, Lib.hid (BW7.out.grown hg1 (by have := BW7.out.size; exact this) (fun q hq => by have := (hl1 q hq).1; have := HG.out; omega)), Lib.hid (RR7.out.turns (S := fun q => Value.ownBlock _ = some q) (Turns.grown (Turns.refl _ _) hg1 (fun q hq _ => hq)) (fun hq => by have := (hl1 _ hq).1; omega))⟩, meas_n hlt⟩
        show World.ownsRow _ _ _ _ _ _ _
        rw [HNX2.out, List.length_append, List.flatMap_append, List.flatMap_cons, List.flatMap_nil, List.append_nil, ← HD.out]
        exact hown1
      · as_aux_lemma =>
        have dj : decide ((j : Int) < (nX : Int)) = false := decide_eq_false (by omega)
        have hjn : j = X.length := by rw [← HNX.out]; omega
        have hIO2 := hIO.out
        rw [hjn, List.take_length] at hIO2
        obtain ⟨ZS, hZS⟩ : ∃ z, z = X.map (fun y => bareV (otherP k y.p)) := ⟨_, rfl⟩
        have hZl : ZS.length = nX := by rw [hZS, List.length_map]; exact HNX.out.symm
        have hZe : ∀ z ∈ ZS, z.p.ok ∧ (inC z).length = 36 ∧ InIs w B z := fun z hz => by
          rw [hZS] at hz
          obtain ⟨y, hy, rfl⟩ := List.mem_map.1 hz
          have hyo := (HX.out.each y hy).ok
          exact ⟨otherP_ok hyo, inC_length (x := bareV (otherP k y.p)) (otherP_ok hyo), bareV_is (otherP_ok hyo) rfl rfl⟩
        rw [← hZS] at hIO2
        rcases id hIO2.2 with ⟨_, h00⟩ | ⟨g, cap, cur, hform, hgB, hgc, hnc2, hcm2, hcs2, htk2⟩
        · exact absurd h00 (by rw [hZl]; omega)
        subst hform
        have hIO3 : w3.ownsRow (G + 1) 49 36 (.slice (some ⟨g, 0, none⟩) nX cap) nX (ZS.flatMap inC) := by rw [← hZl]; exact hIO2
        have hfl := flat_len inC 36 ZS (fun z hz => (hZe z hz).2.1)
        have hth : w3.there g (i * 36) R.toArray.size := fun q hq => by
          rw [List.size_toArray, HRL.out] at hq
          refine ⟨?_, hIO3.frozenAt _⟩
          rw [hIO3.cellAt _ (by omega), List.getElem?_eq_getElem (by rw [hfl, hZl]; omega)]
          rfl
        have hst := ownsRow_setCells R (o := i * 36) hIO3 (by rw [HRL.out, hfl, hZl]; omega)
        rw [HR.out, flat_seg inC 36 ZS (fun z hz => (hZe z hz).2.1) i (ownV sv sc x.p) (by rw [hZl]; omega) (inC_length (x := ownV sv sc x.p) (ownP_ok HOK.out)), ← HR.out] at hst
        have HST := Lib.hid hst
        have HTH := Lib.hid hth
        have HZE := Lib.hid hZe
        have HZS2 := Lib.hid hZS
        have HZLn := Lib.hid hZl
        have HGB := Lib.hid hgB
        have hnc3 : nX ≤ cap := by rw [← hZl]; exact hnc2
        rw [hZl]
        clear hIO hIO2 hIO3 hst hth hZe hZS hZl hgB hgc hnc2 hcm2 hcs2 htk2 hfl hjn
        go_wp2_with (first
          | (refine wpList_load_vrow rfl 49 (.tmp 9) rfl rfl hRR.out Tryd.underlying49 HZS.out ?_)
          | (refine wpList_store_mid rfl 49 (.tmp 45) (.tmp 44) rfl g (i * 36) R.toArray rfl rfl HTH.out (by rw [List.size_toArray]; exact HZS.out) (arr_one HR1.out) ?_))
        refine bodyPost_ret (results_tmp rfl _ _ _) rfl ?_
        have hbF : Below w.heap.size w (w3.setCells g (i * 36) R) := below_setCells (by have := HGB.out; have := HG.out; omega) R hBW.out
        refine ⟨_, ZS.set i (ownV sv sc x.p), rfl, fun W hW => ?_, ?_, hbF⟩
        · have hI : InsO (w3.setCells g (i * 36) R) (G + 1) (.slice (some ⟨g, 0, none⟩) nX cap) (ZS.set i (ownV sv sc x.p)) := by
            unfold InsO
            rw [List.length_set, HZLn.out]
            exact HST.out
          have hI2 : InsO W (G + 1) (.slice (some ⟨g, 0, none⟩) nX cap) (ZS.set i (ownV sv sc x.p)) := own_turns hI hW (fun q hq q2 => by have := (hI.lt q hq).1; have := q2.2; have := HG.out; omega)
          have b3 : Below B (w3.setCells g (i * 36) R) W := hW.below_of (Nat.le_trans HB.out hbF.size) (fun q hq q2 => by have := q2.1; omega)
          refine InsO.toR (B := B) hI2 (fun z hz => ?_) (Nat.le_trans HB.out (Nat.le_trans hbF.size hW.size))
          rcases List.mem_or_eq_of_mem_set hz with hz | rfl
          · exact ((HZE.out z hz).2.2.below (hbF.mono HB.out)).below b3
          · exact ownV_is HOK.out ((HSV.out.below (hbF.mono HB.out)).below b3)
        · rw [List.map_set, HZS2.out, HLI.out, List.map_map, List.map_map]
          rfl
end Go.Proofs.YthelmclpmalofaaDoor

/-
  sighash.outputs (not Single), and the closure of Legacy. Conditions: sizes within the reach.
-/
namespace Go.Proofs.YthelmclpmalofaaDoor
open Go.RowKit

def legOuts (l : List OutP) (i : Nat) (k : Int) : List OutP := if chosenF k = 2 then [] else if chosenF k = 3 then List.replicate i ⟨-1, []⟩ ++ (l[i]?).toList else l
def legTx (t : TxP) (i : Nat) (sc : List UInt8) (k : Int) : TxP := ⟨t.ver, legIns t.ins i sc k, legOuts t.outs i k, t.lock⟩
def legB (t : TxP) (i : Nat) (sc : List UInt8) (k : Int) : List UInt8 := encB (legTx t i sc k) ++ low k 4
theorem legTx_fit {t : TxP} {i : Nat} {sc : List UInt8} {k : Int} (h : t.fit) (hs : sc.length ≤ 1000) (hi : i < 20) : (legTx t i sc k).fit := by
  refine ⟨?_, ?_, ?_, ?_⟩
  · show (legIns t.ins i sc k).length ≤ 20
    unfold legIns
    split
    · split
      · simp
      · rw [List.length_set, List.length_map]; exact h.ni
    · simp
  · show (legOuts t.outs i k).length ≤ 20
    unfold legOuts
    split
    · simp
    · split
      · rw [List.length_append, List.length_replicate]
        cases t.outs[i]? <;> simp <;> omega
      · exact h.no
  · intro p hp
    have hp' : p ∈ legIns t.ins i sc k := hp
    unfold legIns at hp'
    split at hp'
    · rename_i q hq
      have hqm := List.mem_of_getElem? hq
      have ho := (h.si q hqm).1
      split at hp'
      · obtain rfl : p = ownP sc q := by simpa using hp'
        exact ⟨ownP_ok ho, hs⟩
      · rcases List.mem_or_eq_of_mem_set hp' with hp' | rfl
        · obtain ⟨r, hr, rfl⟩ := List.mem_map.1 hp'
          exact ⟨otherP_ok (h.si r hr).1, by show ([] : List UInt8).length ≤ 1000; simp⟩
        · exact ⟨ownP_ok ho, hs⟩
    · simp at hp'
  · intro p hp
    have hp' : p ∈ legOuts t.outs i k := hp
    unfold legOuts at hp'
    split at hp'
    · simp at hp'
    · split at hp'
      · rcases List.mem_append.1 hp' with hp' | hp'
        · obtain ⟨_, rfl⟩ := List.mem_replicate.1 hp'
          exact ⟨⟨by show (-9223372036854775808 : Int) ≤ -1; decide, by show (-1 : Int) ≤ 9223372036854775807; decide⟩, by show ([] : List UInt8).length ≤ 1000; simp⟩
        · cases hq : t.outs[i]? with
          | none => rw [hq] at hp'; simp at hp'
          | some q =>
            rw [hq] at hp'
            obtain rfl : p = q := by simpa using hp'
            exact h.so p (List.mem_of_getElem? hq)
      · exact h.so p hp'

theorem outputs_any (B : Nat) (ov : Value) (Y : List OutV) (i k : Int) (n : Nat) (w : World) (hY : OutsR w B ov Y) (hB : B ≤ w.heap.size) (h0 : 0 ≤ k) (h1 : k < 256) (h3 : chosenF k ≠ 3) :
    Calls Tryd.prog 28 #[ov, .int .i64 i, .int .u8 k] w fun e w' => ∃ v Y', e = .returned v ∧ (∀ W, Turns (fun q => B ≤ q ∧ q < w.heap.size) w' W → OutsR W W.heap.size v Y') ∧ Y'.map (·.p) = legOuts (Y.map (·.p)) n k ∧ Below w.heap.size w w' := by
  have hca := chosen_any k w h0 h1
  obtain ⟨A, c, hf, _, _⟩ := hY.row.form
  subst hf
  have HY := Lib.hid hY
  have HB := Lib.hid hB
  clear hY hB
  rcases chosen_is k with hc | hc | hc
  · rw [hc] at hca
    have hl : legOuts (Y.map (·.p)) n k = Y.map (·.p) := by unfold legOuts; rw [hc, if_neg (by decide), if_neg (by decide)]
    have HL := Lib.hid hl
    clear hc h3 hl
    go_enter Tryd.func28, Tryd.ntmps28
    go_wp2_with fail
    refine hca.mono ?_
    rintro e w2 ⟨rfl, rfl⟩
    go_wp2
    go_ret
    exact ⟨_, Y, rfl, fun W hW => (HY.out.below (hW.below_of HB.out (fun q hq q2 => by have := q2.1; omega))).more (Nat.le_trans HB.out hW.size), HL.out.symm, Below.refl _ _⟩
  · rw [hc] at hca
    have hl : legOuts (Y.map (·.p)) n k = [] := by unfold legOuts; rw [hc, if_pos rfl]
    have HL := Lib.hid hl
    clear hc h3 hl
    go_enter Tryd.func28, Tryd.ntmps28
    go_wp2_with fail
    refine hca.mono ?_
    rintro e w2 ⟨rfl, rfl⟩
    go_wp2
    go_ret
    exact ⟨_, [], rfl, fun W _ => OutsR.nil _ _, HL.out.symm, Below.refl _ _⟩
  · exact absurd hc h3

set_option maxRecDepth 100000 in
set_option maxHeartbeats 1600000 in
theorem legClo_any {w0 : World} {B g : Nat} (GT GK : Nat) (t : TxP) (iv ov : Value) (X : List InV) (Y : List OutV) (k : Int) (w : World) (h : WrT w0 w B g [])
    (ht : TxR w0 B t iv ov X Y) (hf : t.fit) (hT : VRow w0 GT 26 (txC t iv ov)) (hTB : GT < B) (hK : VRow w0 GK 5 [.int .u8 k]) (hKB : GK < B) (h0 : 0 ≤ k) (h1 : k < 256) :
    Calls Tryd.prog 30 #[.pointer (some ⟨g, 0, none⟩), .pointer (some ⟨GT, 0, none⟩), .pointer (some ⟨GK, 0, none⟩)] w (WrD w0 B g w (encB t ++ low k 4)) := by
  have hTw := hT.below h.bel hTB
  have hKw := hK.below h.bel hKB
  have hcw := encode_any B t iv ov X Y w (ht.below h.bel) h.le hf
  have hel := encB_le hf
  have hk2 : k % 4294967296 = k := by omega
  obtain ⟨TC, hTC⟩ : ∃ z, z = txC t iv ov := ⟨_, rfl⟩
  have hTS : (Tryd.prog.info? 26).map (·.size) = some TC.length := by rw [hTC]; exact size_tx
  rw [← hTC] at hTw hcw
  obtain ⟨ZS, hZS⟩ : ∃ z, z = encB t := ⟨_, rfl⟩
  rw [← hZS] at hcw hel ⊢
  have HT := Lib.hid hTw
  have HTS := Lib.hid hTS
  have HC := Lib.hid hcw
  have HEL := Lib.hid hel
  have HW := Lib.hid h
  have HK := Lib.hid hKB
  have HKW := Lib.hid hK
  clear ht hT hK hTw hKw hcw hel h hTC hTS hZS hf
  go_enter Tryd.func30, Tryd.ntmps30
  go_wp2_with (first
    | (refine wpList_load_vrow rfl 26 (.tmp 1) rfl rfl HT.out Tryd.underlying26 HTS.out ?_))
  refine HC.out.mono ?_
  rintro e w2 ⟨A, c, rfl, hown, hb2⟩
  have H2 := Lib.hid (HW.out.below hb2)
  have O2 := Lib.hid hown
  have K2 := Lib.hid (KeepT.below (g := g) hb2)
  clear hown hb2
  go_wp2_with fail
  refine (raw_t _ ZS [] w2 H2.out (OwnB.byt O2.out) (by have := HEL.out; simp only [List.length_nil]; omega)).mono ?_
  rintro e w3 ⟨rfl, h3, k3⟩
  rw [List.nil_append] at h3
  have H3 := Lib.hid h3
  have K3 := Lib.hid (K2.out.trans k3)
  have c0 := (HKW.out.below h3.bel HK.out).cell (show [Value.int .u8 k][0]? = some (.int .u8 k) from rfl)
  clear h3 k3
  go_wp2_with fail
  refine (u32_t k ZS w3 H3.out h0 (by omega) (by have := HEL.out; omega)).mono ?_
  rintro e w4 ⟨rfl, h4, k4⟩
  have H4 := Lib.hid h4
  have K4 := Lib.hid (K3.out.trans k4)
  clear h4 k4 c0
  go_wp2
  go_end0
  exact ⟨rfl, H4.out, K4.out⟩
end Go.Proofs.YthelmclpmalofaaDoor
