/-
  What the end of FeesClones leans on: the references' counts compared. Conditions: none.
-/
import Derived.Test.YtfhpodeppmnopaaFeTwo
namespace Go.Proofs.Ytfhpodeppmnopaa
open Go.RowKit

theorem cntSame_split (S1 S2 : Bs) : cntSame S1 S2 = (((List.range 24).all fun k => S1.A k == S2.A k) && (List.range 24).all fun k => (List.range 12).all fun t => S1.I k t == S2.I k t) := by
  unfold cntSame
  rw [Bool.eq_iff_iff]
  simp only [List.all_eq_true, Bool.and_eq_true]
  exact ⟨fun h => ⟨fun k hk => (h k hk).1, fun k hk => (h k hk).2⟩, fun h k hk => ⟨h.1 k hk, h.2 k hk⟩⟩
/-- The two arrays of a reference's book, as values. -/
theorem ref_arrays {w : World} {G : Nat} {us : List Value} {S : Bs} (hu : VRow w G 30 us) (h : RCnt us S.A S.I) : ∃ xs ys : List Value, xs.length = 24 ∧ ys.length = 288 ∧ w.rangeAt G 0 xs ∧ w.rangeAt G 24 ys ∧
    NumAt xs.toArray 0 24 S.A ∧ ∀ k, k < 24 → NumAt ys.toArray (k * 12) 12 (S.I k) := by
  have hl := h.len
  refine ⟨us.take 24, (us.drop 24).take 288, by rw [List.length_take, hl]; rfl, by rw [List.length_take, List.length_drop, hl]; rfl, fun j v hv => ?_, fun j v hv => ?_, fun k hk => ?_, fun k hk t ht => ?_⟩
  · rw [List.getElem?_take] at hv
    split at hv
    · exact vrow_range0 hu j v hv
    · cases hv
  · rw [List.getElem?_take] at hv
    split at hv
    · rw [List.getElem?_drop] at hv
      have := vrow_range0 hu (24 + j) v hv
      rwa [Nat.zero_add] at this
    · cases hv
  · rw [Nat.zero_add, List.getElem?_toArray, List.getElem?_take, if_pos hk]
    exact h.all k hk
  · rw [List.getElem?_toArray, List.getElem?_take, if_pos (by omega), List.getElem?_drop, ← Nat.add_assoc]
    exact h.wi k t hk ht
theorem eq_name_at (d c a b : Nat) (hc : c < 256) (ha : a < 256) (hb : b < 256) (w : World) : (Op.equalIn (d + 2) 39 (nmV c a) (nmV c b)).run Try.prog w = .ok (decide (a = b)) w := by
  have key : ∀ i, i < 256 → nmV c i = .agg (((UInt8.ofNat i :: UInt8.ofNat c :: List.replicate 30 0).map Extern.Stop.cell).toArray) := fun i hi => by
    unfold nmV nmI
    congr 2
    rw [List.map_cons, List.map_cons, List.map_cons, List.map_cons]
    congr 1
    · show Value.int .u8 (i : Int) = Value.int .u8 ((UInt8.ofNat i).toNat : Int)
      rw [UInt8.toNat_ofNat', Nat.mod_eq_of_lt (by omega)]
    · congr 1
      show Value.int .u8 (c : Int) = Value.int .u8 ((UInt8.ofNat c).toNat : Int)
      rw [UInt8.toNat_ofNat', Nat.mod_eq_of_lt (by omega)]
  rw [key a ha, key b hb]
  have h := run_equalIn_bytes (P := Try.prog) w d 39 5 32 Try.underlying39 Try.underlying5 (fun w => by kernel_rfl) (UInt8.ofNat a :: UInt8.ofNat c :: List.replicate 30 0) (UInt8.ofNat b :: UInt8.ofNat c :: List.replicate 30 0) rfl rfl
  refine Eq.trans h ?_
  congr 1
  rw [Bool.eq_iff_iff]
  simp only [beq_iff_eq, decide_eq_true_eq, List.cons.injEq, and_true]
  constructor
  · intro e
    have e2 := congrArg UInt8.toNat e
    rw [UInt8.toNat_ofNat', UInt8.toNat_ofNat', Nat.mod_eq_of_lt (by omega), Nat.mod_eq_of_lt (by omega)] at e2
    exact e2
  · rintro rfl
    rfl

set_option maxHeartbeats 1600000 in
/-- The values of waits compared. -/
theorem eq_waits (c : Nat) (hc : c < 256) (x y : Ent) (hx : x.id < 256) (hy : y.id < 256) (W : World) : (Op.equalIn 10000 41 (.agg (wtC c x).toArray) (.agg (wtC c y).toArray)).run Try.prog W = .ok (decide (x.id = y.id ∧ x.bk = y.bk ∧ x.ht = y.ht)) W := by
  have hp : Try.prog.stoodInHeld 41 = false := by kernel_rfl
  have hs : Try.prog.underlying 41 = some (.struct (Try.prog.fieldsOf 41)) := by kernel_rfl
  refine (run_equalIn_struct (P := Try.prog) W 9999 41 _ _ hs hp).trans ?_
  have h2 := hs
  rw [Try.underlying41] at h2
  injection h2 with h2
  injection h2 with h2
  rw [← h2]
  have b1 : ∀ W, (isAgg 3).run Try.prog W = .ok false W := fun W => by kernel_rfl
  have b2 : ∀ W, (isAgg 39).run Try.prog W = .ok true W := fun W => by kernel_rfl
  have b3 : ∀ W, (sizeOf 39).run Try.prog W = .ok 32 W := fun W => by kernel_rfl
  have p1 : ∀ z : Ent, (part 39 (wtC c z).toArray 0).run Try.prog W = .ok (nmV c z.id) W := fun z => by
    have : ((wtC c z).toArray.extract 0 (0 + 32)) = ((nmI c z.id).map (Value.int .u8)).toArray := by
      have hw : wtC c z = (nmI c z.id).map (Value.int .u8) ++ [.int .i64 (z.bk : Int), .int .i64 z.ht] := rfl
      have hl : ((nmI c z.id).map (Value.int .u8)).length = 32 := by rw [List.length_map]; exact nmI_length c z.id
      rw [hw]
      generalize (nmI c z.id).map (Value.int .u8) = A at hl
      rw [List.extract_toArray]
      congr 1
      simp [List.extract, hl]
    unfold nmV
    rw [← this]
    generalize (wtC c z).toArray = X
    simp [part, b2, b3]
  have p2 : ∀ z : Ent, (part 3 (wtC c z).toArray 32).run Try.prog W = .ok (.int .i64 (z.bk : Int)) W := fun z => by
    have : (wtC c z).toArray[32]? = some (.int .i64 (z.bk : Int)) := by
      have hl : ((nmI c z.id).map (Value.int .u8)).length = 32 := by rw [List.length_map]; exact nmI_length c z.id
      rw [List.getElem?_toArray]
      unfold wtC
      rw [List.getElem?_append_right (by omega), hl]
      rfl
    generalize (wtC c z).toArray = X at this
    simp [part, b1, this]
  have p3 : ∀ z : Ent, (part 3 (wtC c z).toArray 33).run Try.prog W = .ok (.int .i64 z.ht) W := fun z => by
    have : (wtC c z).toArray[33]? = some (.int .i64 z.ht) := by
      have hl : ((nmI c z.id).map (Value.int .u8)).length = 32 := by rw [List.length_map]; exact nmI_length c z.id
      rw [List.getElem?_toArray]
      unfold wtC
      rw [List.getElem?_append_right (by omega), hl]
      rfl
    generalize (wtC c z).toArray = X at this
    simp [part, b1, this]
  have p1x := p1 x
  have p2x := p2 x
  have p3x := p3 x
  have p1y := p1 y
  have p2y := p2 y
  have p3y := p3 y
  clear p1 p2 p3
  have e1 := eq_name_at 9997 c x.id y.id hc hx hy W
  have e2 := run_equalIn_int (P := Try.prog) W 9998 3 .i64 .i64 (x.bk : Int) (y.bk : Int) Try.underlying3
  have e3 := run_equalIn_int (P := Try.prog) W 9998 3 .i64 .i64 x.ht y.ht Try.underlying3
  obtain ⟨NX, hNX⟩ : ∃ N, N = nmV c x.id := ⟨_, rfl⟩
  obtain ⟨NY, hNY⟩ : ∃ N, N = nmV c y.id := ⟨_, rfl⟩
  rw [← hNX] at p1x e1
  rw [← hNY] at p1y e1
  clear hNX hNY
  generalize (wtC c x).toArray = X at p1x p2x p3x ⊢
  generalize (wtC c y).toArray = Y at p1y p2y p3y ⊢
  have q2 : ((x.bk : Int) == (y.bk : Int)) = decide (x.bk = y.bk) := by rw [Bool.eq_iff_iff]; simp; omega
  have q3 : (x.ht == y.ht) = decide (x.ht = y.ht) := by rw [Bool.eq_iff_iff]; simp
  rw [q2] at e2
  rw [q3] at e3
  rw [show decide (x.id = y.id ∧ x.bk = y.bk ∧ x.ht = y.ht) = (decide (x.id = y.id) && (decide (x.bk = y.bk) && decide (x.ht = y.ht))) by rw [Bool.eq_iff_iff]; simp]
  generalize decide (x.id = y.id) = r1 at e1 ⊢
  generalize decide (x.bk = y.bk) = r2 at e2 ⊢
  generalize decide (x.ht = y.ht) = r3 at e3 ⊢
  cases r1 <;> cases r2 <;> cases r3 <;> simp [Op.eqFields, p1x, p2x, p3x, p1y, p2y, p3y, e1, e2, e3]

theorem wpList_load_vrow_g {ops : Array Oper} {rest : List Oper} {op : Oper} {a : Act} {w : World} {Q : Exit → Act → World → Prop} (hgd : Region.wanted op (yielded ops a.tmps) = true) (ty : TypeId) (x : Operand) (ho : op.op = .load ty x)
    {g : Nat} {t : TypeId} {vs : List Value} {fs : Array Field} (hx : a.eval x = .pointer (some ⟨g, 0, none⟩)) (h : VRow w g t vs) (hu : Try.prog.underlying ty = some (.struct fs)) (hi : (Try.prog.info? ty).map (·.size) = some vs.length)
    (hn : wpList Try.prog ops Q rest (a.put op.dst (.agg vs.toArray)) w) : wpList Try.prog ops Q (op :: rest) a w :=
  wpList_step fun K hK => by
    rw [if_pos hgd]
    unfold Oper.wp execOp
    have hl : (Instr.loadAt ty (.pointer (some ⟨g, 0, none⟩))).run Try.prog w = .ok (.agg vs.toArray) w := by
      simp only [Instr.loadAt, Instr.sureAddr, Sem.run_bind, Sem.run_pure, Result.andThen_ok]
      exact run_loadVar_row w g t ty vs.toArray (0, 0) (.struct fs) h hu rfl (by rw [hi, List.size_toArray])
    simp only [ho, hx, hl, Sem.run_bind, Sem.run_pure, Result.andThen_ok]
    exact hK _ _ hn
theorem wpList_load_mid_g {ops : Array Oper} {rest : List Oper} {op : Oper} {a : Act} {w : World} {Q : Exit → Act → World → Prop} (hgd : Region.wanted op (yielded ops a.tmps) = true) (ty : TypeId) (x : Operand) (ho : op.op = .load ty x)
    (b o : Nat) (hx : a.eval x = .pointer (some ⟨b, o, none⟩)) (cs : List Value) (d : TypeDesc) (hc : w.rangeAt b o cs)
    (hu : Try.prog.underlying ty = some d) (hd : d.isRow = true) (hi : (Try.prog.info? ty).map (·.size) = some cs.length)
    (h : wpList Try.prog ops Q rest (a.put op.dst (.agg cs.toArray)) w) : wpList Try.prog ops Q (op :: rest) a w :=
  wpList_step fun K hK => by
    rw [if_pos hgd]
    exact wp_load_mid ty x ho b o hx cs d hc hu hd hi (hK _ _ h)
theorem info_alls (xs : List Value) (h : xs.length = 24) : (Try.prog.info? 25).map (·.size) = some xs.length := by
  rw [h]
  kernel_rfl
theorem info_withins (xs : List Value) (h : xs.length = 288) : (Try.prog.info? 27).map (·.size) = some xs.length := by
  rw [h]
  kernel_rfl
instance entDec (a b : Ent) : Decidable (a = b) := if h : a.id = b.id ∧ a.bk = b.bk ∧ a.ht = b.ht then .isTrue (by cases a; cases b; simp only at h; rw [h.1, h.2.1, h.2.2]) else .isFalse (fun q => h (by rw [q]; exact ⟨rfl, rfl, rfl⟩))
def HasIn (W : List Ent) (n : Nat) (e : Ent) : Prop := ∃ (j : Nat) (x : Ent), j < n ∧ W[j]? = some x ∧ e = x
def AllIn (W1 W2 : List Ent) (n : Nat) : Prop := ∀ (i : Nat) (e : Ent), i < n → W1[i]? = some e → HasIn W2 W2.length e
theorem hasIn_zero (W : List Ent) (e : Ent) : ¬ HasIn W 0 e := fun ⟨_, _, h, _⟩ => by omega
theorem hasIn_next {W : List Ent} {j : Nat} {x e : Ent} (h : W[j]? = some x) : HasIn W (j + 1) e ↔ HasIn W j e ∨ e = x := by
  constructor
  · rintro ⟨i, y, hi, hy, rfl⟩
    by_cases hij : i = j
    · subst hij
      rw [h] at hy
      injection hy with hy
      exact .inr hy.symm
    · exact .inl ⟨i, e, by omega, hy, rfl⟩
  · rintro (⟨i, y, hi, hy, rfl⟩ | rfl)
    · exact ⟨i, e, by omega, hy, rfl⟩
    · exact ⟨j, e, by omega, h, rfl⟩
theorem allIn_zero (W1 W2 : List Ent) : AllIn W1 W2 0 := fun _ _ h _ => by omega
theorem allIn_next {W1 W2 : List Ent} {i : Nat} {e : Ent} (h : W1[i]? = some e) : AllIn W1 W2 (i + 1) ↔ AllIn W1 W2 i ∧ HasIn W2 W2.length e := by
  constructor
  · exact fun q => ⟨fun k x hk hx => q k x (by omega) hx, q i e (by omega) h⟩
  · rintro ⟨p, q⟩ k x hk hx
    by_cases hki : k = i
    · subst hki
      rw [h] at hx
      injection hx with hx
      rw [← hx]
      exact q
    · exact p k x (by omega) hx
/-- What the law reckons is what Same answers. -/
theorem end_same {S1 S2 : Bs} {bA bI bL : Bool} {n1 n2 : Nat} (hs : cntSame S1 S2 = (bA && bI)) (h1 : n1 = S1.W.length) (h2 : n2 = S2.W.length) (hL : ((n1 : Int) == (n2 : Int)) = bL) :
    SameB S1 S2 ↔ (bA && bI && bL) = true ∧ AllIn S1.W S2.W n1 := by
  unfold SameB
  rw [hs, sameW_iff, ← hL, h1, h2]
  simp only [Bool.and_eq_true, beq_iff_eq]
  constructor
  · rintro ⟨p, q1, q2⟩
    refine ⟨⟨p, by omega⟩, fun i e _ he => ?_⟩
    obtain ⟨j, x, hx, hex⟩ := q2 i e he
    exact ⟨j, x, (List.getElem?_eq_some_iff.1 hx).1, hx, hex⟩
  · rintro ⟨⟨p, q1⟩, q2⟩
    refine ⟨p, by omega, fun i e he => ?_⟩
    obtain ⟨j, x, _, hx, hex⟩ := q2 i e (List.getElem?_eq_some_iff.1 he).1 he
    exact ⟨j, x, hx, hex⟩
/-- A box for one that waits, filled. -/
theorem wait_box (w : World) (c : Nat) (e : Ent) : ∃ WC : List Value, WC = wtC c e ∧ (Try.prog.info? 41).map (·.size) = some WC.length ∧ WC.length = 34 ∧ WC.toArray.all (·.oneCell') = true :=
  ⟨_, rfl, by rw [wtC_length]; exact size_wt, wtC_length c e, Array.all_eq_true_iff_forall_mem.2 (fun v hv => wtC_one c e v (by simpa using hv))⟩
theorem wpList_eql {ops : Array Oper} {rest : List Oper} {op : Oper} {a : Act} {w : World} {Q : Exit → Act → World → Prop} (hgd : Region.wanted op (yielded ops a.tmps) = true) (ty t2 : TypeId) (x y : Operand) (ho : op.op = .binOp .eql ty x y t2)
    (xs ys : Array Value) (hx : a.eval x = .agg xs) (hy : a.eval y = .agg ys) (b : Bool) (hg : Try.prog.eqGuardType Try.prog.depth ty = false) (hq : ∀ W, (Op.equalIn 10000 ty (.agg xs) (.agg ys)).run Try.prog W = .ok b W)
    (h : wpList Try.prog ops Q rest (a.put op.dst (.bool b)) w) : wpList Try.prog ops Q (op :: rest) a w :=
  wpList_step fun K hK => by
    rw [if_pos hgd]
    unfold Oper.wp execOp
    have h2 : (Op.equal ty (.agg xs) (.agg ys)).run Try.prog w = .ok b w := hq w
    have h3 : (eqGuard .eql ty x y (.agg xs) (.agg ys)).run Try.prog w = .ok () w := by
      simp [eqGuard, hg]
    have h4 : (binOp .eql ty (.agg xs) (.agg ys)).run Try.prog w = .ok (.bool b) w := by
      simp [binOp, h2]
    simp only [ho, hx, hy, Sem.run_bind, Sem.run_pure, Result.andThen_ok, h3, h4]
    exact hK _ _ h
theorem guard_alls : Try.prog.eqGuardType Try.prog.depth 25 = false := by kernel_rfl
theorem guard_withins : Try.prog.eqGuardType Try.prog.depth 27 = false := by kernel_rfl
theorem guard_wait : Try.prog.eqGuardType Try.prog.depth 41 = false := by kernel_rfl
end Go.Proofs.Ytfhpodeppmnopaa
