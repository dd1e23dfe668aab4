/-
  Texts joined: TvC. Conditions: those of each.
-/
import Derived.Test.YthelmclpmalofaaDoorK16
/-
  The references' Copy of a transaction. Conditions: sizes within the reach.
-/
namespace Go.Proofs.YthelmclpmalofaaDoor
open Go.RowKit

theorem op_one_tin {w : World} {o : Oper} {a : Act} {K : Act → World → Prop} {Q : Exit → Act → World → Prop} (x : Operand) (ho : o.op = .buildSlice 22 1 #[(0, x)])
    (C : List Value) (hx : a.eval x = .agg C.toArray) (hl : C.length = 36) (h : K (a.put o.dst (.slice (some ⟨w.heap.size, 0, none⟩) 1 1)) (w.alloc (.cells C.toArray 49))) : o.wp Tryd.prog a w K Q := by
  have hrun := one_tin hl w
  unfold Oper.wp execOp
  simp only [ho, List.map_toArray, List.map_cons, List.map_nil, hx, hrun, Sem.run_bind, Sem.run_pure, Result.andThen_ok]
  exact h

theorem op_one_tout {w : World} {o : Oper} {a : Act} {K : Act → World → Prop} {Q : Exit → Act → World → Prop} (x : Operand) (ho : o.op = .buildSlice 23 1 #[(0, x)])
    (C : List Value) (hx : a.eval x = .agg C.toArray) (hl : C.length = 2) (h : K (a.put o.dst (.slice (some ⟨w.heap.size, 0, none⟩) 1 1)) (w.alloc (.cells C.toArray 54))) : o.wp Tryd.prog a w K Q := by
  have hrun := one_tout hl w
  unfold Oper.wp execOp
  simp only [ho, List.map_toArray, List.map_cons, List.map_nil, hx, hrun, Sem.run_bind, Sem.run_pure, Result.andThen_ok]
  exact h

/-- What lies behind an input of the call's own. -/
structure El (w : World) (base : Nat) (x : InV) : Prop where
  ok : x.p.ok
  sc : OwnB w base x.sv x.p.sc
  wt : BagAt w base x.wv x.wl
  eq : x.wl.map (·.2) = x.p.wt
structure ElO (w : World) (base : Nat) (y : OutV) : Prop where
  ok : y.p.ok
  sc : OwnB w base y.sv y.p.sc
theorem own_block_o {w : World} {base g size : Nat} {e t : TypeId} {v : Value} {n : Nat} {xs : List Value} {cs : Array Value} {m : Nat × Nat}
    (h : w.ownsRow base e size v n xs) (hg : w.heap[g]? = some (.cells cs t m)) (hne : e ≠ t) : v.ownBlock ≠ some g := by
  rcases h.2 with ⟨rfl, _⟩ | ⟨g', cap, cur, rfl, _, hh, _⟩
  · simp [Value.ownBlock]
  · intro he
    have e1 : g' = g := by simpa [Value.ownBlock] using he
    subst e1
    rw [hh] at hg
    injection hg with hg
    injection hg with _ ht
    exact hne ht
theorem own_apart {w w' : World} {base size n : Nat} {e : TypeId} {v : Value} {xs : List Value} {S : Nat → Prop} (h : w.ownsRow base e size v n xs) (ht : Turns S w w') (hS : ∀ k, S k → k < w.heap.size → ∃ cs T m, w.heap[k]? = some (.cells cs T m) ∧ e ≠ T) : w'.ownsRow base e size v n xs :=
  own_turns h ht (fun k hk hs => by
    obtain ⟨cs, T, m, hc, hne⟩ := hS k hs (h.lt k hk).2
    exact own_block_o h hc hne hk)
theorem bag_apart {w w' : World} {base : Nat} {v : Value} {L : List (Value × List UInt8)} {S : Nat → Prop} (h : BagAt w base v L) (ht : Turns S w w') (hS : ∀ k, S k → k < w.heap.size → ∃ cs T m, w.heap[k]? = some (.cells cs T m) ∧ 27 ≠ T ∧ 5 ≠ T) : BagAt w' base v L :=
  ⟨own_apart h.1 ht (fun k q1 q2 => by obtain ⟨cs, T, m, hc, h1, _⟩ := hS k q1 q2; exact ⟨cs, T, m, hc, h1⟩), fun p hp => own_apart (h.2 p hp) ht (fun k q1 q2 => by obtain ⟨cs, T, m, hc, _, h1⟩ := hS k q1 q2; exact ⟨cs, T, m, hc, h1⟩)⟩
theorem El.apart {w w' : World} {base : Nat} {x : InV} {S : Nat → Prop} (h : El w base x) (ht : Turns S w w') (hS : ∀ k, S k → k < w.heap.size → ∃ cs T m, w.heap[k]? = some (.cells cs T m) ∧ 27 ≠ T ∧ 5 ≠ T) : El w' base x :=
  ⟨h.ok, own_apart h.sc ht (fun k q1 q2 => by obtain ⟨cs, T, m, hc, _, h1⟩ := hS k q1 q2; exact ⟨cs, T, m, hc, h1⟩), bag_apart h.wt ht hS, h.eq⟩
theorem ElO.apart {w w' : World} {base : Nat} {x : OutV} {S : Nat → Prop} (h : ElO w base x) (ht : Turns S w w') (hS : ∀ k, S k → k < w.heap.size → ∃ cs T m, w.heap[k]? = some (.cells cs T m) ∧ 27 ≠ T ∧ 5 ≠ T) : ElO w' base x :=
  ⟨h.ok, own_apart h.sc ht (fun k q1 q2 => by obtain ⟨cs, T, m, hc, _, h1⟩ := hS k q1 q2; exact ⟨cs, T, m, hc, h1⟩)⟩
theorem El.is {w : World} {base : Nat} {x : InV} (h : El w base x) : InIs w w.heap.size x := ⟨h.ok, Byt.of_own h.sc, h.wt.toR, h.eq⟩
theorem ElO.is {w : World} {base : Nat} {x : OutV} (h : ElO w base x) : OutIs w w.heap.size x := ⟨h.ok, Byt.of_own h.sc⟩
theorem none_apart {w : World} : ∀ k, (fun _ : Nat => False) k → k < w.heap.size → ∃ cs T m, w.heap[k]? = some (.cells cs T m) ∧ 27 ≠ T ∧ 5 ≠ T := fun _ h => h.elim
/-- What Copy keeps: t's box, the copy's box, the result's; the rows that the copy has. -/
structure CpAt (w wr : World) (GB GO GR : Nat) (TC : List Value) (ver lk : Int) (io oo iv ov : Value) (X : List InV) (Y : List OutV) : Prop where
  t : VRow wr GB 26 TC
  o : VRow wr GO 26 [.int .i32 ver, io, oo, .int .u32 lk]
  r : VRow wr GR 26 [.int .i32 0, .slice none 0 0, .slice none 0 0, .int .u32 0]
  ins : InsO wr w.heap.size iv X
  outs : OutsO wr w.heap.size ov Y
  eI : ∀ x ∈ X, El wr w.heap.size x
  eO : ∀ y ∈ Y, ElO wr w.heap.size y
  bel : Below w.heap.size w wr
section
variable {w wr w' : World} {GB GO GR : Nat} {TC : List Value} {ver lk : Int} {io oo iv ov : Value} {X : List InV} {Y : List OutV}
theorem CpAt.below (h : CpAt w wr GB GO GR TC ver lk io oo iv ov X Y) (hb : Below wr.heap.size wr w') : CpAt w w' GB GO GR TC ver lk io oo iv ov X Y :=
  ⟨h.t.below hb h.t.lt, h.o.below hb h.o.lt, h.r.below hb h.r.lt, h.ins.below hb, h.outs.below hb, fun x hx => (h.eI x hx).apart (Turns.of_below (S := fun _ => False) hb) none_apart, fun x hx => (h.eO x hx).apart (Turns.of_below (S := fun _ => False) hb) none_apart, h.bel.trans (hb.mono h.bel.size)⟩
/-- The copy's box is written. -/
theorem CpAt.put (h : CpAt w wr GB GO GR TC ver lk io oo iv ov X Y) (hO : w.heap.size ≤ GO) (h1 : GB ≠ GO) (h2 : GR ≠ GO) (i : Nat) (v io' oo' : Value) (he : [Value.int .i32 ver, io, oo, Value.int .u32 lk].set i v = [.int .i32 ver, io', oo', .int .u32 lk]) :
    CpAt w (wr.setCell ⟨GO, i, none⟩ v) GB GO GR TC ver lk io' oo' iv ov X Y := by
  have tt : Turns (fun q => q = GO) wr (wr.setCell ⟨GO, i, none⟩ v) := Turns.setCell (S := fun q => q = GO) (Turns.refl _ wr) (p := ⟨GO, i, none⟩) (fun _ => rfl) _
  have hc := h.o
  have hS : ∀ k, k = GO → k < wr.heap.size → ∃ cs T m, wr.heap[k]? = some (.cells cs T m) ∧ 27 ≠ T ∧ 5 ≠ T := fun k q _ => by subst q; exact ⟨_, _, _, hc, by decide, by decide⟩
  refine ⟨h.t.turns tt h1, ?_, h.r.turns tt h2, own_apart h.ins tt (fun k q _ => by subst q; exact ⟨_, _, _, hc, by decide⟩), own_apart h.outs tt (fun k q _ => by subst q; exact ⟨_, _, _, hc, by decide⟩), fun x hx => (h.eI x hx).apart tt hS, fun x hx => (h.eO x hx).apart tt hS, h.bel.setCell hO v⟩
  rw [← he]
  exact h.o.set i v
/-- An input is appended. -/
theorem CpAt.snocI (h : CpAt w wr GB GO GR TC ver lk io oo iv ov X Y) {v' : Value} {x : InV} (hown : w'.ownsRow w.heap.size 49 36 v' (X.length + 1) (X.flatMap inC ++ inC x)) (hg : wr.grownBy w' iv.ownBlock) (hx : El wr w.heap.size x) :
    CpAt w w' GB GO GR TC ver lk io oo v' ov (X ++ [x]) Y := by
  have tt : Turns (fun q => iv.ownBlock = some q) wr w' := (Turns.refl _ wr).grown hg (fun k hk _ => hk)
  have hc : ∀ k, iv.ownBlock = some k → k < wr.heap.size → ∃ cs m, wr.heap[k]? = some (.cells cs 49 m) := fun k hk _ => by
    rcases h.ins.2 with ⟨e, _⟩ | ⟨g, cap, cur, e, _, hg2, _⟩
    · rw [e] at hk; cases hk
    · rw [e] at hk
      have : g = k := by simpa [Value.ownBlock] using hk
      subst this
      exact ⟨_, _, hg2⟩
  have hS : ∀ k, iv.ownBlock = some k → k < wr.heap.size → ∃ cs T m, wr.heap[k]? = some (.cells cs T m) ∧ 27 ≠ T ∧ 5 ≠ T := fun k q q2 => by obtain ⟨cs, m, e⟩ := hc k q q2; exact ⟨_, _, _, e, by decide, by decide⟩
  have hx1 : ∀ (G : Nat) (vs : List Value), VRow wr G 26 vs → ¬ iv.ownBlock = some G := fun G vs hr => own_block_o h.ins hr (by decide)
  refine ⟨h.t.turns tt (hx1 _ _ h.t), h.o.turns tt (hx1 _ _ h.o), h.r.turns tt (hx1 _ _ h.r), ?_, own_apart h.outs tt (fun k q q2 => by obtain ⟨cs, m, e⟩ := hc k q q2; exact ⟨_, _, _, e, by decide⟩), fun y hy => ?_, fun y hy => (h.eO y hy).apart tt hS, h.bel.grown hg h.bel.size (fun k hk => (h.ins.lt k hk).1)⟩
  · unfold InsO
    rw [List.length_append, List.flatMap_append, List.flatMap_cons, List.flatMap_nil, List.append_nil]
    exact hown
  · rcases List.mem_append.1 hy with hy | hy
    · exact (h.eI y hy).apart tt hS
    · obtain rfl : y = x := by simpa using hy
      exact hx.apart tt hS
theorem CpAt.snocO (h : CpAt w wr GB GO GR TC ver lk io oo iv ov X Y) {v' : Value} {x : OutV} (hown : w'.ownsRow w.heap.size 54 2 v' (Y.length + 1) (Y.flatMap outC ++ outC x)) (hg : wr.grownBy w' ov.ownBlock) (hx : ElO wr w.heap.size x) :
    CpAt w w' GB GO GR TC ver lk io oo iv v' X (Y ++ [x]) := by
  have tt : Turns (fun q => ov.ownBlock = some q) wr w' := (Turns.refl _ wr).grown hg (fun k hk _ => hk)
  have hc : ∀ k, ov.ownBlock = some k → k < wr.heap.size → ∃ cs m, wr.heap[k]? = some (.cells cs 54 m) := fun k hk _ => by
    rcases h.outs.2 with ⟨e, _⟩ | ⟨g, cap, cur, e, _, hg2, _⟩
    · rw [e] at hk; cases hk
    · rw [e] at hk
      have : g = k := by simpa [Value.ownBlock] using hk
      subst this
      exact ⟨_, _, hg2⟩
  have hS : ∀ k, ov.ownBlock = some k → k < wr.heap.size → ∃ cs T m, wr.heap[k]? = some (.cells cs T m) ∧ 27 ≠ T ∧ 5 ≠ T := fun k q q2 => by obtain ⟨cs, m, e⟩ := hc k q q2; exact ⟨_, _, _, e, by decide, by decide⟩
  have hx1 : ∀ (G : Nat) (vs : List Value), VRow wr G 26 vs → ¬ ov.ownBlock = some G := fun G vs hr => own_block_o h.outs hr (by decide)
  refine ⟨h.t.turns tt (hx1 _ _ h.t), h.o.turns tt (hx1 _ _ h.o), h.r.turns tt (hx1 _ _ h.r), own_apart h.ins tt (fun k q q2 => by obtain ⟨cs, m, e⟩ := hc k q q2; exact ⟨_, _, _, e, by decide⟩), ?_, fun y hy => (h.eI y hy).apart tt hS, fun y hy => ?_, h.bel.grown hg h.bel.size (fun k hk => (h.outs.lt k hk).1)⟩
  · unfold OutsO
    rw [List.length_append, List.flatMap_append, List.flatMap_cons, List.flatMap_nil, List.append_nil]
    exact hown
  · rcases List.mem_append.1 hy with hy | hy
    · exact (h.eO y hy).apart tt hS
    · obtain rfl : y = x := by simpa using hy
      exact hx.apart tt hS
end
/-- How great a transaction out of an argument may be. -/
structure TxSz (X : List InV) (Y : List OutV) : Prop where
  nI : X.length * 96 < 140737488355328
  nO : Y.length * 32 < 140737488355328
  sI : ∀ x ∈ X, x.p.sc.length < 140737488355328 ∧ x.wl.length * 24 < 140737488355328 ∧ ∀ p ∈ x.wl, p.2.length < 140737488355328
  sO : ∀ y ∈ Y, y.p.sc.length < 140737488355328
theorem zero_ttx (W : World) : (zeroValue 26).run Tryd.prog W = .ok (.agg [Value.int .i32 0, .slice none 0 0, .slice none 0 0, .int .u32 0].toArray) W := by kernel_rfl

set_option maxRecDepth 100000 in
set_option maxHeartbeats 12800000 in
theorem copyTx_any (B : Nat) (t : TxP) (iv ov : Value) (X : List InV) (Y : List OutV) (w : World) (ht : TxR w B t iv ov X Y) (hB : B ≤ w.heap.size) (hz : TxSz X Y) :
    Calls Tryd.prog 10 #[.agg (txC t iv ov).toArray] w fun e w' => ∃ iv' ov', e = .returned (.agg (txC t iv' ov').toArray) ∧ ∃ X' Y', InsO w' w.heap.size iv' X' ∧ OutsO w' w.heap.size ov' Y' ∧ (∀ x ∈ X', El w' w.heap.size x) ∧ (∀ y ∈ Y', ElO w' w.heap.size y) ∧ X'.map (·.p) = t.ins ∧ Y'.map (·.p) = t.outs ∧ Below w.heap.size w w' := by
  obtain ⟨A1, cp1, hif, hca1, hcb1⟩ := ht.ins.row.form
  obtain ⟨A2, cp2, hof, hca2, hcb2⟩ := ht.outs.row.form
  subst hif hof
  obtain ⟨TC, hTC⟩ : ∃ z, z = txC t (.slice A1 X.length cp1) (.slice A2 Y.length cp2) := ⟨_, rfl⟩
  have t0 : TC[0]? = some (.int .i32 t.ver) := by rw [hTC]; rfl
  have t1 : TC[1]? = some (.slice A1 X.length cp1) := by rw [hTC]; rfl
  have t2 : TC[2]? = some (.slice A2 Y.length cp2) := by rw [hTC]; rfl
  have t3 : TC[3]? = some (.int .u32 t.lock) := by rw [hTC]; rfl
  rw [← hTC]
  have hzt := zero_ttx
  obtain ⟨ZT, hZT⟩ : ∃ z, z = [Value.int .i32 0, .slice none 0 0, .slice none 0 0, .int .u32 0] := ⟨_, rfl⟩
  rw [← hZT] at hzt
  obtain ⟨nX, hnX⟩ : ∃ n, n = X.length := ⟨_, rfl⟩
  obtain ⟨nY, hnY⟩ : ∃ n, n = Y.length := ⟨_, rfl⟩
  have hxc : (nX : Int) ≤ 9223372036854775807 := by have := hz.nI; omega
  have hyc : (nY : Int) ≤ 9223372036854775807 := by have := hz.nO; omega
  rw [← hnX] at t1 ht hca1
  rw [← hnY] at t2 ht hca2
  obtain ⟨ver, hver⟩ : ∃ n, n = t.ver := ⟨_, rfl⟩
  obtain ⟨lk, hlk⟩ : ∃ n, n = t.lock := ⟨_, rfl⟩
  rw [← hver] at t0
  rw [← hlk] at t3
  have hbt := fun W => build_tx ver lk W
  obtain ⟨OC, hOC⟩ : ∃ z, z = [Value.int .i32 ver, .slice none 0 0, .slice none 0 0, .int .u32 lk] := ⟨_, rfl⟩
  rw [← hOC] at hbt
  have hat : CpAt w ((((w.alloc (.cells TC.toArray 26)).alloc (.cells ZT.toArray 26)).alloc (.cells ZT.toArray 26)).setRow (w.heap.size + 2) OC.toArray) w.heap.size (w.heap.size + 2) (w.heap.size + 1) TC ver lk (.slice none 0 0) (.slice none 0 0) (.slice none 0 0) (.slice none 0 0) [] [] := by
    obtain ⟨v1, hv1⟩ : ∃ z, z = w.alloc (.cells TC.toArray 26) := ⟨_, rfl⟩
    have s1 : v1.heap.size = w.heap.size + 1 := by rw [hv1]; simp
    have a1 : VRow v1 w.heap.size 26 TC := by rw [hv1]; exact VRow.new _ _ _
    have b1 : Below w.heap.size w v1 := by rw [hv1]; exact (Below.refl _ w).alloc (Nat.le_refl _) _
    rw [← hv1]
    obtain ⟨v2, hv2⟩ : ∃ z, z = v1.alloc (.cells ZT.toArray 26) := ⟨_, rfl⟩
    have s2 : v2.heap.size = w.heap.size + 2 := by rw [hv2]; simp [s1]
    have a2 : VRow v2 (w.heap.size + 1) 26 ZT := by rw [hv2, ← s1]; exact VRow.new _ _ _
    have c2 : Below v1.heap.size v1 v2 := by rw [hv2]; exact (Below.refl _ v1).alloc (Nat.le_refl _) _
    rw [← hv2]
    obtain ⟨r1, r2⟩ := box_row v2 26 ZT OC
    rw [s2] at r1 r2
    have c3 : Below (w.heap.size + 2) v2 ((v2.alloc (.cells ZT.toArray 26)).setRow (w.heap.size + 2) OC.toArray) := r2
    exact ⟨(a1.below c2 (by omega)).below c3 (by omega), by rw [← hOC]; exact r1, by rw [← hZT]; exact a2.below c3 (by omega), World.ownsRow_nil _ _ _ _, World.ownsRow_nil _ _ _ _, (fun _ h => by cases h), (fun _ h => by cases h), b1.trans ((c2.mono (by omega)).trans (c3.mono (by omega)))⟩
  obtain ⟨w1, hw1⟩ : ∃ z, z = ((((w.alloc (.cells TC.toArray 26)).alloc (.cells ZT.toArray 26)).alloc (.cells ZT.toArray 26)).setRow (w.heap.size + 2) OC.toArray) := ⟨_, rfl⟩
  obtain ⟨GB, hGB⟩ : ∃ z, z = w.heap.size := ⟨_, rfl⟩
  obtain ⟨GR, hGR⟩ : ∃ z, z = w.heap.size + 1 := ⟨_, rfl⟩
  obtain ⟨GO, hGO⟩ : ∃ z, z = w.heap.size + 2 := ⟨_, rfl⟩
  have hat' : CpAt w w1 GB GO GR TC ver lk (.slice none 0 0) (.slice none 0 0) (.slice none 0 0) (.slice none 0 0) [] [] := by rw [hGB, hGR, hGO, hw1]; exact hat
  have HAT := Lib.hid hat'
  have HN1 := Lib.hid (show GB ≠ GO by omega)
  have HN2 := Lib.hid (show GR ≠ GO by omega)
  have HNR := Lib.hid (show w.heap.size ≤ GR by omega)
  have HW1 := Lib.hid hw1
  have HGB := Lib.hid hGB
  have HGR := Lib.hid hGR
  have HGO := Lib.hid hGO
  have HT := Lib.hid ht
  have HB := Lib.hid hB
  have HZ := Lib.hid hz
  have T0 := Lib.hid t0
  have T1 := Lib.hid t1
  have T2 := Lib.hid t2
  have T3 := Lib.hid t3
  have HX := Lib.hid hnX
  have HY := Lib.hid hnY
  have HVER := Lib.hid hver
  have HLK := Lib.hid hlk
  have HBT := Lib.hid hbt
  have HOC := Lib.hid hOC
  have HZT := Lib.hid hZT
  have HOS1 := Lib.hid (show (Tryd.prog.info? 26).map (·.size) = some OC.length by rw [hOC]; exact size_tx)
  have HOL1 := Lib.hid (show ZT.length = OC.length by rw [hOC, hZT]; rfl)
  have HO11 := Lib.hid (show OC.toArray.all (·.oneCell') = true by rw [hOC]; exact arr_one (fun v hv => by simp only [List.mem_cons, List.not_mem_nil, or_false] at hv; rcases hv with rfl | rfl | rfl | rfl <;> rfl))
  clear hat hat' hw1 hGB hGR hGO ht hB hz t0 t1 t2 t3 hnX hnY hver hlk hbt hOC hZT hTC
  go_enter Tryd.func10, Tryd.ntmps10
  go_upto_region 1 with fail
  have e0 := (VRow.new w 26 TC).below ((Below.refl _ _).alloc (Nat.le_refl _) (.cells ZT.toArray 26)) (VRow.new w 26 TC).lt
  have s2 : ((w.alloc (.cells TC.toArray 26)).alloc (.cells ZT.toArray 26)).heap.size = w.heap.size + 1 + 1 := by simp
  have RZ := Lib.hid (show VRow (((w.alloc (.cells TC.toArray 26)).alloc (.cells ZT.toArray 26)).alloc (.cells ZT.toArray 26)) (w.heap.size + 1 + 1) 26 ZT by rw [← s2]; exact VRow.new _ _ _)
  clear s2
  have e00 := e0.cell T0.out
  have e03 := e0.cell T3.out
  go_upto_region 2 with (first
    | (refine wpList_build_lit rfl 26 _ (.agg OC.toArray) rfl (fun W => by (simp only [List.map_toArray, List.map_cons, List.map_nil]; exact HBT.out W)) ?_)
    | (refine wpList_store_vrow rfl 26 _ _ rfl rfl rfl RZ.out HOS1.out HOL1.out HO11.out ?_))
  change Code.wp _ _ _ _ ((((w.alloc (.cells TC.toArray 26)).alloc (.cells ZT.toArray 26)).alloc (.cells ZT.toArray 26)).setRow (w.heap.size + 2) OC.toArray)
  rw [← HW1.out, show w.heap.size + 1 + 1 = GO from HGO.out.symm, show w.heap.size + 1 = GR from HGR.out.symm, show w.heap.size = GB from HGB.out.symm]
  clear HW1 e0 e00 e03
  try dsimp only [Act.put]
  go_wp2_with fail
  go_loopw [4] (fun s wr => ∃ (j : Nat) (u : Value) (X' : List InV), j ≤ nX ∧ s = .int .i64 (j : Int) ∧ Hid (CpAt w wr GB GO GR TC ver lk u (.slice none 0 0) u (.slice none 0 0) X' []) ∧ Hid (X'.map (·.p) = (X.take j).map (·.p))) (fun s _ => nX - (intOf s).toNat)
  case atStart => exact ⟨0, _, [], Nat.zero_le _, rfl, Lib.hid HAT.out, Lib.hid rfl⟩
  case round =>
    obtain ⟨j, u, X', hj, rfl, hP, hM⟩ := hrel
    obtain ⟨w3, rfl⟩ : ∃ z : World, z = wr := ⟨_, rfl⟩
    have q1 := hP.out.t.cell T1.out
    by_cases hlt : j < nX
    · as_aux_lemma =>
      have dj : decide ((j : Int) < (nX : Int)) = true := decide_eq_true (by omega)
      obtain ⟨x, hx⟩ : ∃ x, X[j]? = some x := ⟨_, List.getElem?_eq_getElem (by rw [← HX.out]; exact hlt)⟩
      obtain ⟨b, o, c', ef, hnc, _, hbB, hrg, hix⟩ := (HT.out.ins.below (hP.out.bel.mono HB.out)).at hx
      injection ef with ef1 ef2 ef3
      subst ef1 ef3
      have hxm := List.mem_of_getElem? hx
      have hsx := HZ.out.sI x hxm
      have hok := hix.ok
      have htk : (X.take (j + 1)).map (·.p) = (X.take j).map (·.p) ++ [x.p] := by rw [List.take_add_one, hx, List.map_append]; rfl
      have hjl : X'.length = j := by
        have q := congrArg List.length hM.out
        rw [List.length_map, List.length_map, List.length_take, ← HX.out] at q
        omega
      have hin0 := HT.out.ins.each x hxm
      obtain ⟨As, cs, hsf⟩ := hin0.sc.form
      obtain ⟨Aw, cw, hwf⟩ := hin0.wt.form
      obtain ⟨nZ, hnZ⟩ : ∃ n, n = x.p.sc.length := ⟨_, rfl⟩
      obtain ⟨zs, hzs⟩ : ∃ z, z = x.p.sc := ⟨_, rfl⟩
      obtain ⟨nW, hnW⟩ : ∃ n, n = x.wl.length := ⟨_, rfl⟩
      obtain ⟨sq, hsq⟩ : ∃ n, n = x.p.sq := ⟨_, rfl⟩
      have hby := hin0.sc
      have hwt := hin0.wt
      rw [hsf, ← hnZ] at hby
      rw [hwf, ← hnW] at hwt
      rw [← hnZ] at hsf
      rw [← hnW] at hwf
      have hcl := inC_length hok
      have hc1 := hix.one
      have c33 := inC_sc hok
      have c34 := inC_sq hok
      have c35 := inC_wt hok
      obtain ⟨O, hO⟩ : ∃ O, O = opC x.p.h x.p.ix := ⟨_, rfl⟩
      have hOl : O.length = 33 := by rw [hO]; exact opC_length _ hok.hl
      have hco : inC x = O ++ [x.sv, .int .u32 x.p.sq, x.wv] := by rw [hO]; exact inC_op x
      obtain ⟨C, hC⟩ : ∃ C, C = inC x := ⟨_, rfl⟩
      rw [← hC] at hrg hcl hc1 c33 c34 c35 hco
      rw [hsf] at c33
      rw [hwf] at c35
      rw [← hsq] at c34
      have hrO : ∀ (i : Nat) (v : Value), O[i]? = some v → C[0 + i]? = some v := fun i v hv => by
        rw [Nat.zero_add, hco, List.getElem?_append_left (List.getElem?_eq_some_iff.1 hv).1]
        exact hv
      have hzi := zero_tin
      obtain ⟨ZI, hZI⟩ : ∃ z, z = zTin := ⟨_, rfl⟩
      have hzl : ZI.length = 36 := by rw [hZI]; rfl
      rw [← hZI] at hzi
      obtain ⟨r1, r2⟩ := box_row w3 49 ZI C
      obtain ⟨Au, cu, huf⟩ := hP.out.ins.form
      subst huf
      obtain ⟨nU, hnU⟩ : ∃ n, n = X'.length := ⟨_, rfl⟩
      have hgx : ∀ k, (Value.slice Au nU cu).ownBlock = some k → k < w3.heap.size := fun k hk => (hP.out.ins.lt k (by rw [← hnU]; exact hk)).2
      rw [← hnU] at hP
      have HSC := Lib.hid (show (Tryd.prog.info? 49).map (·.size) = some C.length by rw [hcl]; exact size_tin)
      have HLC := Lib.hid (show ZI.length = C.length by rw [hzl, hcl])
      have HC1 := Lib.hid (arr_one hc1)
      have HRG := Lib.hid hrg
      have C33 := Lib.hid c33
      have C34 := Lib.hid c34
      have C35 := Lib.hid c35
      have HRO := Lib.hid hrO
      have HOL := Lib.hid hOl
      have HO := Lib.hid hO
      have HSQ := Lib.hid hsq
      have HOS := Lib.hid (show (Tryd.prog.info? 46).map (·.size) = some O.length by rw [hOl]; exact size_op)
      have HWT := Lib.hid hwt
      have HSW := Lib.hid hsx.2
      have HTK := Lib.hid htk
      have HM := Lib.hid hM.out
      have HOK := Lib.hid hok
      have HEQ := Lib.hid hin0.eq
      have HNZ := Lib.hid (show nZ = zs.length by rw [hnZ, hzs])
      have HZS := Lib.hid hzs
      have HNU := Lib.hid hnU
      have HBD := Lib.hid (show (nU + 1) * 96 ≤ 140737488355328 by have := HZ.out.nI; have := HX.out; omega)
      have hzsz : zs.length < 140737488355328 := by rw [hzs]; exact hsx.1
      have HBY := Lib.hid (show Byt w B (.slice As nZ cs) zs by rw [hzs]; exact hby)
      have hcw : nX ≤ cp1 := by rw [HX.out]; exact hnc
      clear hcl hc1 hrg c33 c34 c35 hrO hOl hO hsq hwt hsx htk hM hok hin0 hnZ hzs hnU hby hsf hwf hco hC hx hxm hnc hbB hix hjl hnW hZI hzl ef2
      go_upto_region 6 with (first
        | (refine wpList_load_mid rfl 49 _ rfl b (o + j * 36) rfl C _ HRG.out Tryd.underlying49 rfl HSC.out ?_)
        | (refine wpList_store_vrow rfl 49 _ _ rfl rfl rfl (VRow.new _ _ ZI) HSC.out HLC.out HC1.out ?_))
      change Code.wp _ _ _ _ ((w3.alloc (.cells ZI.toArray 49)).setRow w3.heap.size C.toArray)
      obtain ⟨w5, hw5⟩ : ∃ z, z = ((w3.alloc (.cells ZI.toArray 49)).setRow w3.heap.size C.toArray) := ⟨_, rfl⟩
      obtain ⟨GX, hGX⟩ : ∃ z, z = w3.heap.size := ⟨_, rfl⟩
      rw [← hw5] at r1 r2 ⊢
      rw [← hGX] at r1 hgx ⊢
      have G5 := Lib.hid (show VRow w5.drew GX 49 C from r1)
      have HGX := Lib.hid (show ¬ (Value.slice Au nU cu).ownBlock = some GX from fun e => by have := hgx GX e; omega)
      have HNX2 := Lib.hid (show ¬ GX = GO from fun e => by have := hP.out.o.lt; omega)
      have P5 := Lib.hid (hP.out.below r2)
      have d5 : w5.drew.cell? ⟨GO, 1, none⟩ = some (.slice Au nU cu) := P5.out.o.cell (show [Value.int .i32 ver, .slice Au nU cu, .slice none 0 0, .int .u32 lk][1]? = some (.slice Au nU cu) from rfl)
      have HRC := Lib.hid (rcopy_any B _ zs w5.drew (HBY.out.below (P5.out.bel.mono HB.out).drew) (by omega))
      clear r1 r2 hw5 hGX hgx hP q1
      refine wp_region_held_drew (S := (fun w' => VRow w' GX 49 C)) (by kernel_rfl) ?_ (fun hHeld => ?_)
      · exact G5.out
      refine wpAnyH_take (i := 0) (oi := { dst := some 24, op := Go.Op.fieldAddr 26 (Go.Operand.tmp 3) 1, type := 0, pos := "ref.go:218", after := #[], guard := none }) (v := ?av0) rfl (by kernel_rfl) (by kernel_rfl) (by kernel_rfl) (fun _ _ _ h => h) (Or.inl ⟨by rfl, ?ay0⟩) (by assumption) ?ar0
      case ay0 => (intro w hSw; (try dsimp only at hSw); go_simp; try (with_reducible rfl))
      case ar0 =>
      try simp only [Act.put, List.setIfInBounds_toArray, List.set_cons_zero, List.set_cons_succ]
      refine wpAnyH_take (i := 2) (oi := { dst := some 26, op := Go.Op.fieldAddr 49 (Go.Operand.tmp 5) 0, type := 0, pos := "ref.go:218", after := #[], guard := none }) (v := ?av2) rfl (by kernel_rfl) (by kernel_rfl) (by kernel_rfl) (fun _ _ _ h => h) (Or.inl ⟨by rfl, ?ay2⟩) (by assumption) ?ar2
      case ay2 => (intro w hSw; (try dsimp only at hSw); go_simp; try (with_reducible rfl))
      case ar2 =>
      try simp only [Act.put, List.setIfInBounds_toArray, List.set_cons_zero, List.set_cons_succ]
      refine wpAnyH_take (i := 3) (oi := { dst := some 27, op := Go.Op.load 46 (Go.Operand.tmp 26), type := 46, pos := "ref.go:218", after := #[{ on := 2, ground := Go.Ground.data }], guard := none }) (v := (.agg O.toArray)) rfl (by kernel_rfl) (by kernel_rfl) (by kernel_rfl) (fun _ _ _ h => h) (yieldsIf_load_mid (by rfl) 46 (.tmp 26) rfl GX 0 rfl O _ (fun w' h => VRow.range h HRO.out) Tryd.underlying46 rfl HOS.out) (by assumption) ?_
      try simp only [Act.put, List.setIfInBounds_toArray, List.set_cons_zero, List.set_cons_succ]
      refine wpAnyH_take (i := 4) (oi := { dst := some 28, op := Go.Op.fieldAddr 49 (Go.Operand.tmp 5) 1, type := 0, pos := "ref.go:218", after := #[], guard := none }) (v := ?av4) rfl (by kernel_rfl) (by kernel_rfl) (by kernel_rfl) (fun _ _ _ h => h) (Or.inl ⟨by rfl, ?ay4⟩) (by assumption) ?ar4
      case ay4 => (intro w hSw; (try dsimp only at hSw); go_simp; try (with_reducible rfl))
      case ar4 =>
      try simp only [Act.put, List.setIfInBounds_toArray, List.set_cons_zero, List.set_cons_succ]
      refine wpAnyH_take (i := 5) (oi := { dst := some 29, op := Go.Op.load 27 (Go.Operand.tmp 28), type := 27, pos := "ref.go:218", after := #[{ on := 4, ground := Go.Ground.data }], guard := none }) (v := (.slice As nZ cs)) rfl (by kernel_rfl) (by kernel_rfl) (by kernel_rfl) (fun _ _ _ h => h) (Or.inl ⟨by rfl, ?ay5⟩) (by assumption) ?ar5
      case ay5 => (intro w hSw; (try dsimp only at hSw); go_simp; try (simp [VRow.cell hSw C33.out]))
      case ar5 =>
      try simp only [Act.put, List.setIfInBounds_toArray, List.set_cons_zero, List.set_cons_succ]
      refine wpAnyH_take (i := 7) (oi := { dst := some 31, op := Go.Op.fieldAddr 49 (Go.Operand.tmp 5) 2, type := 0, pos := "ref.go:218", after := #[], guard := none }) (v := ?av7) rfl (by kernel_rfl) (by kernel_rfl) (by kernel_rfl) (fun _ _ _ h => h) (Or.inl ⟨by rfl, ?ay7⟩) (by assumption) ?ar7
      case ay7 => (intro w hSw; (try dsimp only at hSw); go_simp; try (with_reducible rfl))
      case ar7 =>
      try simp only [Act.put, List.setIfInBounds_toArray, List.set_cons_zero, List.set_cons_succ]
      refine wpAnyH_take (i := 8) (oi := { dst := some 32, op := Go.Op.load 24 (Go.Operand.tmp 31), type := 24, pos := "ref.go:218", after := #[{ on := 7, ground := Go.Ground.data }], guard := none }) (v := (.int .u32 sq)) rfl (by kernel_rfl) (by kernel_rfl) (by kernel_rfl) (fun _ _ _ h => h) (Or.inl ⟨by rfl, ?ay8⟩) (by assumption) ?ar8
      case ay8 => (intro w hSw; (try dsimp only at hSw); go_simp; try (simp [VRow.cell hSw C34.out]))
      case ar8 =>
      try simp only [Act.put, List.setIfInBounds_toArray, List.set_cons_zero, List.set_cons_succ]
      refine wpAnyH_take (i := 9) (oi := { dst := some 33, op := Go.Op.fieldAddr 49 (Go.Operand.tmp 5) 3, type := 0, pos := "ref.go:218", after := #[], guard := none }) (v := ?av9) rfl (by kernel_rfl) (by kernel_rfl) (by kernel_rfl) (fun _ _ _ h => h) (Or.inl ⟨by rfl, ?ay9⟩) (by assumption) ?ar9
      case ay9 => (intro w hSw; (try dsimp only at hSw); go_simp; try (with_reducible rfl))
      case ar9 =>
      try simp only [Act.put, List.setIfInBounds_toArray, List.set_cons_zero, List.set_cons_succ]
      refine wpAnyH_take (i := 10) (oi := { dst := some 34, op := Go.Op.load 47 (Go.Operand.tmp 33), type := 47, pos := "ref.go:218", after := #[{ on := 9, ground := Go.Ground.data }], guard := none }) (v := (.slice Aw nW cw)) rfl (by kernel_rfl) (by kernel_rfl) (by kernel_rfl) (fun _ _ _ h => h) (Or.inl ⟨by rfl, ?ay10⟩) (by assumption) ?ar10
      case ay10 => (intro w hSw; (try dsimp only at hSw); go_simp; try (simp [VRow.cell hSw C35.out]))
      case ar10 =>
      try simp only [Act.put, List.setIfInBounds_toArray, List.set_cons_zero, List.set_cons_succ]
      refine wpAnyH_ready (rs := [1, 6]) (by kernel_rfl) (by simp) ?_
      refine AllReadyH.cons (o := { dst := some 25, op := Go.Op.load 22 (Go.Operand.tmp 24), type := 22, pos := "ref.go:218", after := #[{ on := 0, ground := Go.Ground.data }], guard := none }) rfl (fun K hK => ?_) (AllReadyH.cons (o := { dst := some 30, op := Go.Op.call { callee := Go.Callee.value (Go.Operand.func 21), args := #[Go.Operand.tmp 29], argTypes := #[27] }, type := 27, pos := "ref.go:218", after := #[{ on := 5, ground := Go.Ground.data }], guard := none }) rfl (fun K hK => ?_) (AllReadyH.nil))
      · as_aux_lemma =>
        go_simp
        refine hK.out _ _ ?_ (fun hHeld => ?_)
        · exact G5.out
        clear hK K
        try simp only [Act.put, List.setIfInBounds_toArray, List.set_cons_zero, List.set_cons_succ]
        refine wpAnyH_ready (rs := [6]) (by kernel_rfl) (by simp) ?_
        refine AllReadyH.cons (o := { dst := some 30, op := Go.Op.call { callee := Go.Callee.value (Go.Operand.func 21), args := #[Go.Operand.tmp 29], argTypes := #[27] }, type := 27, pos := "ref.go:218", after := #[{ on := 5, ground := Go.Ground.data }], guard := none }) rfl (fun K hK => ?_) (AllReadyH.nil)
        go_simp
        refine HRC.out.mono ?_
        rintro e w6 ⟨A1, c1, rfl, hown6, hb6⟩
        have hE1 : OwnB w6 w5.heap.size (.slice A1 nZ c1) zs := by rw [HNZ.out]; exact hown6
        have P6 := Lib.hid ((P5.out.below (Below.refl _ w5).drew).below hb6)
        have E1 := Lib.hid (show OwnB w6 w.heap.size (.slice A1 nZ c1) zs from own_le hE1 P5.out.bel.size)
        have G6 := Lib.hid (show VRow w6 GX 49 C from VRow.below (w := w5.drew) G5.out hb6 G5.out.lt)
        have d6 := P6.out.o.cell (show [Value.int .i32 ver, .slice Au nU cu, .slice none 0 0, .int .u32 lk][1]? = some (.slice Au nU cu) from rfl)
        have HRS := Lib.hid (rcopies_any B _ x.wl w6 (HWT.out.below (P6.out.bel.mono HB.out)) (Nat.le_trans HB.out P6.out.bel.size) HSW.out.1 HSW.out.2)
        rw [← HNZ.out]
        clear hown6 hb6 hE1
        refine hK.out _ _ ?_ (fun hHeld => ?_)
        · exact G6.out
        clear hK K
        try simp only [Act.put, List.setIfInBounds_toArray, List.set_cons_zero, List.set_cons_succ]
        refine wpAnyH_ready (rs := [11]) (by kernel_rfl) (by simp) ?_
        refine AllReadyH.cons (o := { dst := some 35, op := Go.Op.call { callee := Go.Callee.value (Go.Operand.func 22), args := #[Go.Operand.tmp 34], argTypes := #[47] }, type := 47, pos := "ref.go:218", after := #[{ on := 10, ground := Go.Ground.data }, { on := 6, ground := Go.Ground.chain }], guard := none }) rfl (fun K hK => ?_) (AllReadyH.nil)
        go_simp
        refine HRS.out.mono ?_
        rintro e w7 ⟨v2, L2, rfl, hbag, hm2, hb7⟩
        have P7 := Lib.hid (P6.out.below hb7)
        have E1b := Lib.hid (show OwnB w7 w.heap.size (.slice A1 nZ c1) zs from own_turns E1.out (Turns.of_below (S := fun _ => False) hb7) (fun _ _ q => q))
        obtain ⟨A2, c2, hf2⟩ := hbag.form
        obtain ⟨n2, hn2⟩ : ∃ n, n = L2.length := ⟨_, rfl⟩
        rw [← hn2] at hf2
        subst hf2
        have E2 := Lib.hid (show BagAt w7 w.heap.size (.slice A2 n2 c2) L2 from hbag.base P6.out.bel.size)
        have HM2 := Lib.hid hm2
        have G7 := Lib.hid (G6.out.below hb7 G6.out.lt)
        have d7 := P7.out.o.cell (show [Value.int .i32 ver, .slice Au nU cu, .slice none 0 0, .int .u32 lk][1]? = some (.slice Au nU cu) from rfl)
        obtain ⟨R, hR⟩ : ∃ R, R = O ++ [Value.slice A1 nZ c1, .int .u32 sq, Value.slice A2 n2 c2] := ⟨_, rfl⟩
        have hbw := fun W => build_whole HOL.out A1 nZ c1 sq A2 n2 c2 W
        rw [← hR] at hbw
        have HBW := Lib.hid hbw
        have HRL := Lib.hid (show R.length = 36 by rw [hR, List.length_append, HOL.out]; rfl)
        obtain ⟨xn, hxn⟩ : ∃ xn : InV, xn = ⟨x.p, .slice A1 nZ c1, .slice A2 n2 c2, L2⟩ := ⟨_, rfl⟩
        have HRX := Lib.hid (show R = inC xn by rw [hR, hxn, inC_op, HO.out, HSQ.out])
        have HXN := Lib.hid (show El w7 w.heap.size xn by rw [hxn]; exact ⟨HOK.out, by rw [← HZS.out]; exact E1b.out, E2.out, HM2.out.trans HEQ.out⟩)
        have HXP := Lib.hid (show xn.p = x.p by rw [hxn])
        have HR1 := Lib.hid (show ∀ u ∈ R, u.oneCell' = true from fun u hu => HXN.out.is.one u (by rw [← HRX.out]; exact hu))
        clear hbag hm2 hb7 hn2 hR hxn E1b hbw
        refine hK.out _ _ ?_ (fun hHeld => ?_)
        · exact G7.out
        clear hK K
        try simp only [Act.put, List.setIfInBounds_toArray, List.set_cons_zero, List.set_cons_succ]
        refine wpAnyH_take (i := 12) (oi := { dst := some 36, op := Go.Op.build 49 #[(0, Go.Operand.tmp 27), (1, Go.Operand.tmp 30), (2, Go.Operand.tmp 32), (3, Go.Operand.tmp 35)], type := 49, pos := "ref.go:218", after := #[{ on := 3, ground := Go.Ground.data }, { on := 6, ground := Go.Ground.data }, { on := 8, ground := Go.Ground.data }, { on := 11, ground := Go.Ground.data }], guard := none }) (v := (.agg R.toArray)) rfl (by kernel_rfl) (by kernel_rfl) (by kernel_rfl) (fun _ _ _ h => h) (yieldsIf_build (by rfl) 49 _ rfl (.agg R.toArray) (fun W => by (simp only [List.map_toArray, List.map_cons, List.map_nil]; exact HBW.out W))) (by assumption) ?_
        try simp only [Act.put, List.setIfInBounds_toArray, List.set_cons_zero, List.set_cons_succ]
        refine wpAnyH_ready (rs := [13]) (by kernel_rfl) (by simp) ?_
        refine AllReadyH.cons (o := { dst := some 37, op := Go.Op.buildSlice 22 1 #[(0, Go.Operand.tmp 36)], type := 22, pos := "ref.go:218", after := #[{ on := 12, ground := Go.Ground.data }], guard := none }) rfl (fun K hK => ?_) (AllReadyH.nil)
        refine op_one_tin (.tmp 36) rfl R rfl HRL.out ?_
        have b8 : Below w7.heap.size w7 (w7.alloc (.cells R.toArray 49)) := (Below.refl _ w7).alloc (Nat.le_refl _) _
        have P8 := Lib.hid (P7.out.below b8)
        have G8 := Lib.hid (G7.out.below b8 G7.out.lt)
        have X8 := Lib.hid (HXN.out.apart (Turns.of_below (S := fun _ => False) b8) none_apart)
        have N8 := Lib.hid (show (w7.alloc (.cells R.toArray 49)).rangeAt w7.heap.size 0 R from (VRow.new w7 49 R).range (fun q v hv => by rw [Nat.zero_add]; exact hv))
        have d8 := P8.out.o.cell (show [Value.int .i32 ver, .slice Au nU cu, .slice none 0 0, .int .u32 lk][1]? = some (.slice Au nU cu) from rfl)
        have Z8 := Lib.hid (show w.heap.size ≤ (w7.alloc (.cells R.toArray 49)).heap.size from P8.out.bel.size)
        have I8 := Lib.hid (show (w7.alloc (.cells R.toArray 49)).ownsRow w.heap.size 49 36 (.slice Au nU cu) nU (X'.flatMap inC) by have q := P8.out.ins; unfold InsO at q; rw [← HNU.out] at q; exact q)
        clear b8
        refine hK.out _ _ ?_ (fun hHeld => ?_)
        · exact G8.out
        clear hK K
        try simp only [Act.put, List.setIfInBounds_toArray, List.set_cons_zero, List.set_cons_succ]
        refine wpAnyH_ready (rs := [14]) (by kernel_rfl) (by simp) ?_
        refine AllReadyH.cons (o := { dst := some 38, op := Go.Op.call { callee := Go.Callee.builtin Go.Builtin.append, args := #[Go.Operand.tmp 25, Go.Operand.tmp 37], argTypes := #[22, 22] }, type := 22, pos := "ref.go:218", after := #[{ on := 1, ground := Go.Ground.data }, { on := 13, ground := Go.Ground.data }, { on := 11, ground := Go.Ground.chain }], guard := none }) rfl (fun K hK => ?_) (AllReadyH.nil)
        refine op_append_tin (.tmp 25) (.tmp 37) rfl w.heap.size _ nU _ rfl I8.out w7.heap.size 1 R rfl HRL.out N8.out HR1.out HBD.out Z8.out ?_
        intro v1 w9 hown1 hg1 ho1
        have P9' := P8.out.snocI (v' := v1) (x := xn) (by rw [← HNU.out, ← HRX.out]; exact hown1) hg1 X8.out
        have G9 := Lib.hid (G8.out.turns (S := fun q => (Value.slice Au nU cu).ownBlock = some q) (Turns.grown (Turns.refl _ _) hg1 (fun q hq _ => hq)) (fun q => HGX.out q))
        obtain ⟨A3, c3, rfl⟩ := own_form hown1
        have P9 := Lib.hid P9'
        have d9 := P9.out.o.cell (show [Value.int .i32 ver, .slice Au nU cu, .slice none 0 0, .int .u32 lk][1]? = some (.slice Au nU cu) from rfl)
        have f9 := P9.out.o.free 1
        clear hown1 hg1 ho1 P9'
        refine hK.out _ _ ?_ (fun hHeld => ?_)
        · exact G9.out
        clear hK K
        try simp only [Act.put, List.setIfInBounds_toArray, List.set_cons_zero, List.set_cons_succ]
        refine wpAnyH_take (i := 15) (oi := { dst := some 39, op := Go.Op.fieldAddr 26 (Go.Operand.tmp 3) 1, type := 0, pos := "ref.go:218", after := #[{ on := 0, ground := Go.Ground.phase }, { on := 1, ground := Go.Ground.phase }, { on := 2, ground := Go.Ground.phase }, { on := 3, ground := Go.Ground.phase }, { on := 4, ground := Go.Ground.phase }, { on := 5, ground := Go.Ground.phase }, { on := 6, ground := Go.Ground.phase }, { on := 7, ground := Go.Ground.phase }, { on := 8, ground := Go.Ground.phase }, { on := 9, ground := Go.Ground.phase }, { on := 10, ground := Go.Ground.phase }, { on := 11, ground := Go.Ground.phase }, { on := 12, ground := Go.Ground.phase }, { on := 13, ground := Go.Ground.phase }, { on := 14, ground := Go.Ground.phase }], guard := none }) (v := ?a_1_6_11_13_14v15) rfl (by kernel_rfl) (by kernel_rfl) (by kernel_rfl) (fun _ _ _ h => h) (Or.inl ⟨by rfl, ?a_1_6_11_13_14y15⟩) (by assumption) ?a_1_6_11_13_14r15
        case a_1_6_11_13_14y15 => (intro w hSw; (try dsimp only at hSw); go_simp; try (with_reducible rfl))
        case a_1_6_11_13_14r15 =>
        try simp only [Act.put, List.setIfInBounds_toArray, List.set_cons_zero, List.set_cons_succ]
        refine wpAnyH_ready (rs := [16]) (by kernel_rfl) (by simp) ?_
        refine AllReadyH.cons (o := { dst := none, op := Go.Op.store 22 (Go.Operand.tmp 39) (Go.Operand.tmp 38), type := 0, pos := "ref.go:218", after := #[{ on := 15, ground := Go.Ground.data }, { on := 14, ground := Go.Ground.data }, { on := 14, ground := Go.Ground.chain }, { on := 0, ground := Go.Ground.phase }, { on := 1, ground := Go.Ground.phase }, { on := 2, ground := Go.Ground.phase }, { on := 3, ground := Go.Ground.phase }, { on := 4, ground := Go.Ground.phase }, { on := 5, ground := Go.Ground.phase }, { on := 6, ground := Go.Ground.phase }, { on := 7, ground := Go.Ground.phase }, { on := 8, ground := Go.Ground.phase }, { on := 9, ground := Go.Ground.phase }, { on := 10, ground := Go.Ground.phase }, { on := 11, ground := Go.Ground.phase }, { on := 12, ground := Go.Ground.phase }, { on := 13, ground := Go.Ground.phase }, { on := 14, ground := Go.Ground.phase }], guard := none }) rfl (fun K hK => ?_) (AllReadyH.nil)
        go_simp
        have PA := Lib.hid (P9.out.put (by have := HGO.out; omega) HN1.out HN2.out 1 (.slice A3 (nU + 1) c3) (.slice A3 (nU + 1) c3) (.slice none 0 0) rfl)
        have GA := Lib.hid (G9.out.turns (S := fun q => q = GO) (Turns.setCell (S := fun q => q = GO) (Turns.refl _ w9) (p := ⟨GO, 1, none⟩) (fun _ => rfl) (.slice A3 (nU + 1) c3)) HNX2.out)
        refine hK.out _ _ ?_ (fun hHeld => ?_)
        · exact GA.out
        clear hK K
        try simp only [Act.put]
        refine wpAnyH_done (by kernel_rfl) ?_ _
        go_wp2_with fail
        exact ⟨⟨j + 1, _, _, hlt, by first | rfl | (rw [wrap_small2 (by omega) (by omega)]; rfl), Lib.hid PA.out, Lib.hid (by rw [HTK.out, List.map_append, HM.out, List.map_cons, List.map_nil, HXP.out])⟩, meas_n hlt⟩
      · as_aux_lemma =>
        go_simp
        refine HRC.out.mono ?_
        rintro e w6 ⟨A1, c1, rfl, hown6, hb6⟩
        have hE1 : OwnB w6 w5.heap.size (.slice A1 nZ c1) zs := by rw [HNZ.out]; exact hown6
        have P6 := Lib.hid ((P5.out.below (Below.refl _ w5).drew).below hb6)
        have E1 := Lib.hid (show OwnB w6 w.heap.size (.slice A1 nZ c1) zs from own_le hE1 P5.out.bel.size)
        have G6 := Lib.hid (show VRow w6 GX 49 C from VRow.below (w := w5.drew) G5.out hb6 G5.out.lt)
        have d6 := P6.out.o.cell (show [Value.int .i32 ver, .slice Au nU cu, .slice none 0 0, .int .u32 lk][1]? = some (.slice Au nU cu) from rfl)
        have HRS := Lib.hid (rcopies_any B _ x.wl w6 (HWT.out.below (P6.out.bel.mono HB.out)) (Nat.le_trans HB.out P6.out.bel.size) HSW.out.1 HSW.out.2)
        rw [← HNZ.out]
        clear hown6 hb6 hE1
        refine hK.out _ _ ?_ (fun hHeld => ?_)
        · exact G6.out
        clear hK K
        try simp only [Act.put, List.setIfInBounds_toArray, List.set_cons_zero, List.set_cons_succ]
        refine wpAnyH_ready (rs := [1, 11]) (by kernel_rfl) (by simp) ?_
        refine AllReadyH.cons (o := { dst := some 25, op := Go.Op.load 22 (Go.Operand.tmp 24), type := 22, pos := "ref.go:218", after := #[{ on := 0, ground := Go.Ground.data }], guard := none }) rfl (fun K hK => ?_) (AllReadyH.cons (o := { dst := some 35, op := Go.Op.call { callee := Go.Callee.value (Go.Operand.func 22), args := #[Go.Operand.tmp 34], argTypes := #[47] }, type := 47, pos := "ref.go:218", after := #[{ on := 10, ground := Go.Ground.data }, { on := 6, ground := Go.Ground.chain }], guard := none }) rfl (fun K hK => ?_) (AllReadyH.nil))
        · as_aux_lemma =>
          go_simp
          refine hK.out _ _ ?_ (fun hHeld => ?_)
          · exact G6.out
          clear hK K
          try simp only [Act.put, List.setIfInBounds_toArray, List.set_cons_zero, List.set_cons_succ]
          refine wpAnyH_ready (rs := [11]) (by kernel_rfl) (by simp) ?_
          refine AllReadyH.cons (o := { dst := some 35, op := Go.Op.call { callee := Go.Callee.value (Go.Operand.func 22), args := #[Go.Operand.tmp 34], argTypes := #[47] }, type := 47, pos := "ref.go:218", after := #[{ on := 10, ground := Go.Ground.data }, { on := 6, ground := Go.Ground.chain }], guard := none }) rfl (fun K hK => ?_) (AllReadyH.nil)
          go_simp
          refine HRS.out.mono ?_
          rintro e w7 ⟨v2, L2, rfl, hbag, hm2, hb7⟩
          have P7 := Lib.hid (P6.out.below hb7)
          have E1b := Lib.hid (show OwnB w7 w.heap.size (.slice A1 nZ c1) zs from own_turns E1.out (Turns.of_below (S := fun _ => False) hb7) (fun _ _ q => q))
          obtain ⟨A2, c2, hf2⟩ := hbag.form
          obtain ⟨n2, hn2⟩ : ∃ n, n = L2.length := ⟨_, rfl⟩
          rw [← hn2] at hf2
          subst hf2
          have E2 := Lib.hid (show BagAt w7 w.heap.size (.slice A2 n2 c2) L2 from hbag.base P6.out.bel.size)
          have HM2 := Lib.hid hm2
          have G7 := Lib.hid (G6.out.below hb7 G6.out.lt)
          have d7 := P7.out.o.cell (show [Value.int .i32 ver, .slice Au nU cu, .slice none 0 0, .int .u32 lk][1]? = some (.slice Au nU cu) from rfl)
          obtain ⟨R, hR⟩ : ∃ R, R = O ++ [Value.slice A1 nZ c1, .int .u32 sq, Value.slice A2 n2 c2] := ⟨_, rfl⟩
          have hbw := fun W => build_whole HOL.out A1 nZ c1 sq A2 n2 c2 W
          rw [← hR] at hbw
          have HBW := Lib.hid hbw
          have HRL := Lib.hid (show R.length = 36 by rw [hR, List.length_append, HOL.out]; rfl)
          obtain ⟨xn, hxn⟩ : ∃ xn : InV, xn = ⟨x.p, .slice A1 nZ c1, .slice A2 n2 c2, L2⟩ := ⟨_, rfl⟩
          have HRX := Lib.hid (show R = inC xn by rw [hR, hxn, inC_op, HO.out, HSQ.out])
          have HXN := Lib.hid (show El w7 w.heap.size xn by rw [hxn]; exact ⟨HOK.out, by rw [← HZS.out]; exact E1b.out, E2.out, HM2.out.trans HEQ.out⟩)
          have HXP := Lib.hid (show xn.p = x.p by rw [hxn])
          have HR1 := Lib.hid (show ∀ u ∈ R, u.oneCell' = true from fun u hu => HXN.out.is.one u (by rw [← HRX.out]; exact hu))
          clear hbag hm2 hb7 hn2 hR hxn E1b hbw
          refine hK.out _ _ ?_ (fun hHeld => ?_)
          · exact G7.out
          clear hK K
          try simp only [Act.put, List.setIfInBounds_toArray, List.set_cons_zero, List.set_cons_succ]
          refine wpAnyH_take (i := 12) (oi := { dst := some 36, op := Go.Op.build 49 #[(0, Go.Operand.tmp 27), (1, Go.Operand.tmp 30), (2, Go.Operand.tmp 32), (3, Go.Operand.tmp 35)], type := 49, pos := "ref.go:218", after := #[{ on := 3, ground := Go.Ground.data }, { on := 6, ground := Go.Ground.data }, { on := 8, ground := Go.Ground.data }, { on := 11, ground := Go.Ground.data }], guard := none }) (v := (.agg R.toArray)) rfl (by kernel_rfl) (by kernel_rfl) (by kernel_rfl) (fun _ _ _ h => h) (yieldsIf_build (by rfl) 49 _ rfl (.agg R.toArray) (fun W => by (simp only [List.map_toArray, List.map_cons, List.map_nil]; exact HBW.out W))) (by assumption) ?_
          try simp only [Act.put, List.setIfInBounds_toArray, List.set_cons_zero, List.set_cons_succ]
          refine wpAnyH_ready (rs := [13]) (by kernel_rfl) (by simp) ?_
          refine AllReadyH.cons (o := { dst := some 37, op := Go.Op.buildSlice 22 1 #[(0, Go.Operand.tmp 36)], type := 22, pos := "ref.go:218", after := #[{ on := 12, ground := Go.Ground.data }], guard := none }) rfl (fun K hK => ?_) (AllReadyH.nil)
          refine op_one_tin (.tmp 36) rfl R rfl HRL.out ?_
          have b8 : Below w7.heap.size w7 (w7.alloc (.cells R.toArray 49)) := (Below.refl _ w7).alloc (Nat.le_refl _) _
          have P8 := Lib.hid (P7.out.below b8)
          have G8 := Lib.hid (G7.out.below b8 G7.out.lt)
          have X8 := Lib.hid (HXN.out.apart (Turns.of_below (S := fun _ => False) b8) none_apart)
          have N8 := Lib.hid (show (w7.alloc (.cells R.toArray 49)).rangeAt w7.heap.size 0 R from (VRow.new w7 49 R).range (fun q v hv => by rw [Nat.zero_add]; exact hv))
          have d8 := P8.out.o.cell (show [Value.int .i32 ver, .slice Au nU cu, .slice none 0 0, .int .u32 lk][1]? = some (.slice Au nU cu) from rfl)
          have Z8 := Lib.hid (show w.heap.size ≤ (w7.alloc (.cells R.toArray 49)).heap.size from P8.out.bel.size)
          have I8 := Lib.hid (show (w7.alloc (.cells R.toArray 49)).ownsRow w.heap.size 49 36 (.slice Au nU cu) nU (X'.flatMap inC) by have q := P8.out.ins; unfold InsO at q; rw [← HNU.out] at q; exact q)
          clear b8
          refine hK.out _ _ ?_ (fun hHeld => ?_)
          · exact G8.out
          clear hK K
          try simp only [Act.put, List.setIfInBounds_toArray, List.set_cons_zero, List.set_cons_succ]
          refine wpAnyH_ready (rs := [14]) (by kernel_rfl) (by simp) ?_
          refine AllReadyH.cons (o := { dst := some 38, op := Go.Op.call { callee := Go.Callee.builtin Go.Builtin.append, args := #[Go.Operand.tmp 25, Go.Operand.tmp 37], argTypes := #[22, 22] }, type := 22, pos := "ref.go:218", after := #[{ on := 1, ground := Go.Ground.data }, { on := 13, ground := Go.Ground.data }, { on := 11, ground := Go.Ground.chain }], guard := none }) rfl (fun K hK => ?_) (AllReadyH.nil)
          refine op_append_tin (.tmp 25) (.tmp 37) rfl w.heap.size _ nU _ rfl I8.out w7.heap.size 1 R rfl HRL.out N8.out HR1.out HBD.out Z8.out ?_
          intro v1 w9 hown1 hg1 ho1
          have P9' := P8.out.snocI (v' := v1) (x := xn) (by rw [← HNU.out, ← HRX.out]; exact hown1) hg1 X8.out
          have G9 := Lib.hid (G8.out.turns (S := fun q => (Value.slice Au nU cu).ownBlock = some q) (Turns.grown (Turns.refl _ _) hg1 (fun q hq _ => hq)) (fun q => HGX.out q))
          obtain ⟨A3, c3, rfl⟩ := own_form hown1
          have P9 := Lib.hid P9'
          have d9 := P9.out.o.cell (show [Value.int .i32 ver, .slice Au nU cu, .slice none 0 0, .int .u32 lk][1]? = some (.slice Au nU cu) from rfl)
          have f9 := P9.out.o.free 1
          clear hown1 hg1 ho1 P9'
          refine hK.out _ _ ?_ (fun hHeld => ?_)
          · exact G9.out
          clear hK K
          try simp only [Act.put, List.setIfInBounds_toArray, List.set_cons_zero, List.set_cons_succ]
          refine wpAnyH_take (i := 15) (oi := { dst := some 39, op := Go.Op.fieldAddr 26 (Go.Operand.tmp 3) 1, type := 0, pos := "ref.go:218", after := #[{ on := 0, ground := Go.Ground.phase }, { on := 1, ground := Go.Ground.phase }, { on := 2, ground := Go.Ground.phase }, { on := 3, ground := Go.Ground.phase }, { on := 4, ground := Go.Ground.phase }, { on := 5, ground := Go.Ground.phase }, { on := 6, ground := Go.Ground.phase }, { on := 7, ground := Go.Ground.phase }, { on := 8, ground := Go.Ground.phase }, { on := 9, ground := Go.Ground.phase }, { on := 10, ground := Go.Ground.phase }, { on := 11, ground := Go.Ground.phase }, { on := 12, ground := Go.Ground.phase }, { on := 13, ground := Go.Ground.phase }, { on := 14, ground := Go.Ground.phase }], guard := none }) (v := ?a_6_1_11_13_14v15) rfl (by kernel_rfl) (by kernel_rfl) (by kernel_rfl) (fun _ _ _ h => h) (Or.inl ⟨by rfl, ?a_6_1_11_13_14y15⟩) (by assumption) ?a_6_1_11_13_14r15
          case a_6_1_11_13_14y15 => (intro w hSw; (try dsimp only at hSw); go_simp; try (with_reducible rfl))
          case a_6_1_11_13_14r15 =>
          try simp only [Act.put, List.setIfInBounds_toArray, List.set_cons_zero, List.set_cons_succ]
          refine wpAnyH_ready (rs := [16]) (by kernel_rfl) (by simp) ?_
          refine AllReadyH.cons (o := { dst := none, op := Go.Op.store 22 (Go.Operand.tmp 39) (Go.Operand.tmp 38), type := 0, pos := "ref.go:218", after := #[{ on := 15, ground := Go.Ground.data }, { on := 14, ground := Go.Ground.data }, { on := 14, ground := Go.Ground.chain }, { on := 0, ground := Go.Ground.phase }, { on := 1, ground := Go.Ground.phase }, { on := 2, ground := Go.Ground.phase }, { on := 3, ground := Go.Ground.phase }, { on := 4, ground := Go.Ground.phase }, { on := 5, ground := Go.Ground.phase }, { on := 6, ground := Go.Ground.phase }, { on := 7, ground := Go.Ground.phase }, { on := 8, ground := Go.Ground.phase }, { on := 9, ground := Go.Ground.phase }, { on := 10, ground := Go.Ground.phase }, { on := 11, ground := Go.Ground.phase }, { on := 12, ground := Go.Ground.phase }, { on := 13, ground := Go.Ground.phase }, { on := 14, ground := Go.Ground.phase }], guard := none }) rfl (fun K hK => ?_) (AllReadyH.nil)
          go_simp
          have PA := Lib.hid (P9.out.put (by have := HGO.out; omega) HN1.out HN2.out 1 (.slice A3 (nU + 1) c3) (.slice A3 (nU + 1) c3) (.slice none 0 0) rfl)
          have GA := Lib.hid (G9.out.turns (S := fun q => q = GO) (Turns.setCell (S := fun q => q = GO) (Turns.refl _ w9) (p := ⟨GO, 1, none⟩) (fun _ => rfl) (.slice A3 (nU + 1) c3)) HNX2.out)
          refine hK.out _ _ ?_ (fun hHeld => ?_)
          · exact GA.out
          clear hK K
          try simp only [Act.put]
          refine wpAnyH_done (by kernel_rfl) ?_ _
          go_wp2_with fail
          exact ⟨⟨j + 1, _, _, hlt, by first | rfl | (rw [wrap_small2 (by omega) (by omega)]; rfl), Lib.hid PA.out, Lib.hid (by rw [HTK.out, List.map_append, HM.out, List.map_cons, List.map_nil, HXP.out])⟩, meas_n hlt⟩
        · as_aux_lemma =>
          go_simp
          refine HRS.out.mono ?_
          rintro e w7 ⟨v2, L2, rfl, hbag, hm2, hb7⟩
          have P7 := Lib.hid (P6.out.below hb7)
          have E1b := Lib.hid (show OwnB w7 w.heap.size (.slice A1 nZ c1) zs from own_turns E1.out (Turns.of_below (S := fun _ => False) hb7) (fun _ _ q => q))
          obtain ⟨A2, c2, hf2⟩ := hbag.form
          obtain ⟨n2, hn2⟩ : ∃ n, n = L2.length := ⟨_, rfl⟩
          rw [← hn2] at hf2
          subst hf2
          have E2 := Lib.hid (show BagAt w7 w.heap.size (.slice A2 n2 c2) L2 from hbag.base P6.out.bel.size)
          have HM2 := Lib.hid hm2
          have G7 := Lib.hid (G6.out.below hb7 G6.out.lt)
          have d7 := P7.out.o.cell (show [Value.int .i32 ver, .slice Au nU cu, .slice none 0 0, .int .u32 lk][1]? = some (.slice Au nU cu) from rfl)
          obtain ⟨R, hR⟩ : ∃ R, R = O ++ [Value.slice A1 nZ c1, .int .u32 sq, Value.slice A2 n2 c2] := ⟨_, rfl⟩
          have hbw := fun W => build_whole HOL.out A1 nZ c1 sq A2 n2 c2 W
          rw [← hR] at hbw
          have HBW := Lib.hid hbw
          have HRL := Lib.hid (show R.length = 36 by rw [hR, List.length_append, HOL.out]; rfl)
          obtain ⟨xn, hxn⟩ : ∃ xn : InV, xn = ⟨x.p, .slice A1 nZ c1, .slice A2 n2 c2, L2⟩ := ⟨_, rfl⟩
          have HRX := Lib.hid (show R = inC xn by rw [hR, hxn, inC_op, HO.out, HSQ.out])
          have HXN := Lib.hid (show El w7 w.heap.size xn by rw [hxn]; exact ⟨HOK.out, by rw [← HZS.out]; exact E1b.out, E2.out, HM2.out.trans HEQ.out⟩)
          have HXP := Lib.hid (show xn.p = x.p by rw [hxn])
          have HR1 := Lib.hid (show ∀ u ∈ R, u.oneCell' = true from fun u hu => HXN.out.is.one u (by rw [← HRX.out]; exact hu))
          clear hbag hm2 hb7 hn2 hR hxn E1b hbw
          refine hK.out _ _ ?_ (fun hHeld => ?_)
          · exact G7.out
          clear hK K
          try simp only [Act.put, List.setIfInBounds_toArray, List.set_cons_zero, List.set_cons_succ]
          refine wpAnyH_take (i := 12) (oi := { dst := some 36, op := Go.Op.build 49 #[(0, Go.Operand.tmp 27), (1, Go.Operand.tmp 30), (2, Go.Operand.tmp 32), (3, Go.Operand.tmp 35)], type := 49, pos := "ref.go:218", after := #[{ on := 3, ground := Go.Ground.data }, { on := 6, ground := Go.Ground.data }, { on := 8, ground := Go.Ground.data }, { on := 11, ground := Go.Ground.data }], guard := none }) (v := (.agg R.toArray)) rfl (by kernel_rfl) (by kernel_rfl) (by kernel_rfl) (fun _ _ _ h => h) (yieldsIf_build (by rfl) 49 _ rfl (.agg R.toArray) (fun W => by (simp only [List.map_toArray, List.map_cons, List.map_nil]; exact HBW.out W))) (by assumption) ?_
          try simp only [Act.put, List.setIfInBounds_toArray, List.set_cons_zero, List.set_cons_succ]
          refine wpAnyH_ready (rs := [1, 13]) (by kernel_rfl) (by simp) ?_
          refine AllReadyH.cons (o := { dst := some 25, op := Go.Op.load 22 (Go.Operand.tmp 24), type := 22, pos := "ref.go:218", after := #[{ on := 0, ground := Go.Ground.data }], guard := none }) rfl (fun K hK => ?_) (AllReadyH.cons (o := { dst := some 37, op := Go.Op.buildSlice 22 1 #[(0, Go.Operand.tmp 36)], type := 22, pos := "ref.go:218", after := #[{ on := 12, ground := Go.Ground.data }], guard := none }) rfl (fun K hK => ?_) (AllReadyH.nil))
          · as_aux_lemma =>
            go_simp
            refine hK.out _ _ ?_ (fun hHeld => ?_)
            · exact G7.out
            clear hK K
            try simp only [Act.put, List.setIfInBounds_toArray, List.set_cons_zero, List.set_cons_succ]
            refine wpAnyH_ready (rs := [13]) (by kernel_rfl) (by simp) ?_
            refine AllReadyH.cons (o := { dst := some 37, op := Go.Op.buildSlice 22 1 #[(0, Go.Operand.tmp 36)], type := 22, pos := "ref.go:218", after := #[{ on := 12, ground := Go.Ground.data }], guard := none }) rfl (fun K hK => ?_) (AllReadyH.nil)
            refine op_one_tin (.tmp 36) rfl R rfl HRL.out ?_
            have b8 : Below w7.heap.size w7 (w7.alloc (.cells R.toArray 49)) := (Below.refl _ w7).alloc (Nat.le_refl _) _
            have P8 := Lib.hid (P7.out.below b8)
            have G8 := Lib.hid (G7.out.below b8 G7.out.lt)
            have X8 := Lib.hid (HXN.out.apart (Turns.of_below (S := fun _ => False) b8) none_apart)
            have N8 := Lib.hid (show (w7.alloc (.cells R.toArray 49)).rangeAt w7.heap.size 0 R from (VRow.new w7 49 R).range (fun q v hv => by rw [Nat.zero_add]; exact hv))
            have d8 := P8.out.o.cell (show [Value.int .i32 ver, .slice Au nU cu, .slice none 0 0, .int .u32 lk][1]? = some (.slice Au nU cu) from rfl)
            have Z8 := Lib.hid (show w.heap.size ≤ (w7.alloc (.cells R.toArray 49)).heap.size from P8.out.bel.size)
            have I8 := Lib.hid (show (w7.alloc (.cells R.toArray 49)).ownsRow w.heap.size 49 36 (.slice Au nU cu) nU (X'.flatMap inC) by have q := P8.out.ins; unfold InsO at q; rw [← HNU.out] at q; exact q)
            clear b8
            refine hK.out _ _ ?_ (fun hHeld => ?_)
            · exact G8.out
            clear hK K
            try simp only [Act.put, List.setIfInBounds_toArray, List.set_cons_zero, List.set_cons_succ]
            refine wpAnyH_ready (rs := [14]) (by kernel_rfl) (by simp) ?_
            refine AllReadyH.cons (o := { dst := some 38, op := Go.Op.call { callee := Go.Callee.builtin Go.Builtin.append, args := #[Go.Operand.tmp 25, Go.Operand.tmp 37], argTypes := #[22, 22] }, type := 22, pos := "ref.go:218", after := #[{ on := 1, ground := Go.Ground.data }, { on := 13, ground := Go.Ground.data }, { on := 11, ground := Go.Ground.chain }], guard := none }) rfl (fun K hK => ?_) (AllReadyH.nil)
            refine op_append_tin (.tmp 25) (.tmp 37) rfl w.heap.size _ nU _ rfl I8.out w7.heap.size 1 R rfl HRL.out N8.out HR1.out HBD.out Z8.out ?_
            intro v1 w9 hown1 hg1 ho1
            have P9' := P8.out.snocI (v' := v1) (x := xn) (by rw [← HNU.out, ← HRX.out]; exact hown1) hg1 X8.out
            have G9 := Lib.hid (G8.out.turns (S := fun q => (Value.slice Au nU cu).ownBlock = some q) (Turns.grown (Turns.refl _ _) hg1 (fun q hq _ => hq)) (fun q => HGX.out q))
            obtain ⟨A3, c3, rfl⟩ := own_form hown1
            have P9 := Lib.hid P9'
            have d9 := P9.out.o.cell (show [Value.int .i32 ver, .slice Au nU cu, .slice none 0 0, .int .u32 lk][1]? = some (.slice Au nU cu) from rfl)
            have f9 := P9.out.o.free 1
            clear hown1 hg1 ho1 P9'
            refine hK.out _ _ ?_ (fun hHeld => ?_)
            · exact G9.out
            clear hK K
            try simp only [Act.put, List.setIfInBounds_toArray, List.set_cons_zero, List.set_cons_succ]
            refine wpAnyH_take (i := 15) (oi := { dst := some 39, op := Go.Op.fieldAddr 26 (Go.Operand.tmp 3) 1, type := 0, pos := "ref.go:218", after := #[{ on := 0, ground := Go.Ground.phase }, { on := 1, ground := Go.Ground.phase }, { on := 2, ground := Go.Ground.phase }, { on := 3, ground := Go.Ground.phase }, { on := 4, ground := Go.Ground.phase }, { on := 5, ground := Go.Ground.phase }, { on := 6, ground := Go.Ground.phase }, { on := 7, ground := Go.Ground.phase }, { on := 8, ground := Go.Ground.phase }, { on := 9, ground := Go.Ground.phase }, { on := 10, ground := Go.Ground.phase }, { on := 11, ground := Go.Ground.phase }, { on := 12, ground := Go.Ground.phase }, { on := 13, ground := Go.Ground.phase }, { on := 14, ground := Go.Ground.phase }], guard := none }) (v := ?a_6_11_1_13_14v15) rfl (by kernel_rfl) (by kernel_rfl) (by kernel_rfl) (fun _ _ _ h => h) (Or.inl ⟨by rfl, ?a_6_11_1_13_14y15⟩) (by assumption) ?a_6_11_1_13_14r15
            case a_6_11_1_13_14y15 => (intro w hSw; (try dsimp only at hSw); go_simp; try (with_reducible rfl))
            case a_6_11_1_13_14r15 =>
            try simp only [Act.put, List.setIfInBounds_toArray, List.set_cons_zero, List.set_cons_succ]
            refine wpAnyH_ready (rs := [16]) (by kernel_rfl) (by simp) ?_
            refine AllReadyH.cons (o := { dst := none, op := Go.Op.store 22 (Go.Operand.tmp 39) (Go.Operand.tmp 38), type := 0, pos := "ref.go:218", after := #[{ on := 15, ground := Go.Ground.data }, { on := 14, ground := Go.Ground.data }, { on := 14, ground := Go.Ground.chain }, { on := 0, ground := Go.Ground.phase }, { on := 1, ground := Go.Ground.phase }, { on := 2, ground := Go.Ground.phase }, { on := 3, ground := Go.Ground.phase }, { on := 4, ground := Go.Ground.phase }, { on := 5, ground := Go.Ground.phase }, { on := 6, ground := Go.Ground.phase }, { on := 7, ground := Go.Ground.phase }, { on := 8, ground := Go.Ground.phase }, { on := 9, ground := Go.Ground.phase }, { on := 10, ground := Go.Ground.phase }, { on := 11, ground := Go.Ground.phase }, { on := 12, ground := Go.Ground.phase }, { on := 13, ground := Go.Ground.phase }, { on := 14, ground := Go.Ground.phase }], guard := none }) rfl (fun K hK => ?_) (AllReadyH.nil)
            go_simp
            have PA := Lib.hid (P9.out.put (by have := HGO.out; omega) HN1.out HN2.out 1 (.slice A3 (nU + 1) c3) (.slice A3 (nU + 1) c3) (.slice none 0 0) rfl)
            have GA := Lib.hid (G9.out.turns (S := fun q => q = GO) (Turns.setCell (S := fun q => q = GO) (Turns.refl _ w9) (p := ⟨GO, 1, none⟩) (fun _ => rfl) (.slice A3 (nU + 1) c3)) HNX2.out)
            refine hK.out _ _ ?_ (fun hHeld => ?_)
            · exact GA.out
            clear hK K
            try simp only [Act.put]
            refine wpAnyH_done (by kernel_rfl) ?_ _
            go_wp2_with fail
            exact ⟨⟨j + 1, _, _, hlt, by first | rfl | (rw [wrap_small2 (by omega) (by omega)]; rfl), Lib.hid PA.out, Lib.hid (by rw [HTK.out, List.map_append, HM.out, List.map_cons, List.map_nil, HXP.out])⟩, meas_n hlt⟩
          · as_aux_lemma =>
            refine op_one_tin (.tmp 36) rfl R rfl HRL.out ?_
            have b8 : Below w7.heap.size w7 (w7.alloc (.cells R.toArray 49)) := (Below.refl _ w7).alloc (Nat.le_refl _) _
            have P8 := Lib.hid (P7.out.below b8)
            have G8 := Lib.hid (G7.out.below b8 G7.out.lt)
            have X8 := Lib.hid (HXN.out.apart (Turns.of_below (S := fun _ => False) b8) none_apart)
            have N8 := Lib.hid (show (w7.alloc (.cells R.toArray 49)).rangeAt w7.heap.size 0 R from (VRow.new w7 49 R).range (fun q v hv => by rw [Nat.zero_add]; exact hv))
            have d8 := P8.out.o.cell (show [Value.int .i32 ver, .slice Au nU cu, .slice none 0 0, .int .u32 lk][1]? = some (.slice Au nU cu) from rfl)
            have Z8 := Lib.hid (show w.heap.size ≤ (w7.alloc (.cells R.toArray 49)).heap.size from P8.out.bel.size)
            have I8 := Lib.hid (show (w7.alloc (.cells R.toArray 49)).ownsRow w.heap.size 49 36 (.slice Au nU cu) nU (X'.flatMap inC) by have q := P8.out.ins; unfold InsO at q; rw [← HNU.out] at q; exact q)
            clear b8
            refine hK.out _ _ ?_ (fun hHeld => ?_)
            · exact G8.out
            clear hK K
            try simp only [Act.put, List.setIfInBounds_toArray, List.set_cons_zero, List.set_cons_succ]
            refine wpAnyH_ready (rs := [1]) (by kernel_rfl) (by simp) ?_
            refine AllReadyH.cons (o := { dst := some 25, op := Go.Op.load 22 (Go.Operand.tmp 24), type := 22, pos := "ref.go:218", after := #[{ on := 0, ground := Go.Ground.data }], guard := none }) rfl (fun K hK => ?_) (AllReadyH.nil)
            go_simp
            refine hK.out _ _ ?_ (fun hHeld => ?_)
            · exact G8.out
            clear hK K
            try simp only [Act.put, List.setIfInBounds_toArray, List.set_cons_zero, List.set_cons_succ]
            refine wpAnyH_ready (rs := [14]) (by kernel_rfl) (by simp) ?_
            refine AllReadyH.cons (o := { dst := some 38, op := Go.Op.call { callee := Go.Callee.builtin Go.Builtin.append, args := #[Go.Operand.tmp 25, Go.Operand.tmp 37], argTypes := #[22, 22] }, type := 22, pos := "ref.go:218", after := #[{ on := 1, ground := Go.Ground.data }, { on := 13, ground := Go.Ground.data }, { on := 11, ground := Go.Ground.chain }], guard := none }) rfl (fun K hK => ?_) (AllReadyH.nil)
            refine op_append_tin (.tmp 25) (.tmp 37) rfl w.heap.size _ nU _ rfl I8.out w7.heap.size 1 R rfl HRL.out N8.out HR1.out HBD.out Z8.out ?_
            intro v1 w9 hown1 hg1 ho1
            have P9' := P8.out.snocI (v' := v1) (x := xn) (by rw [← HNU.out, ← HRX.out]; exact hown1) hg1 X8.out
            have G9 := Lib.hid (G8.out.turns (S := fun q => (Value.slice Au nU cu).ownBlock = some q) (Turns.grown (Turns.refl _ _) hg1 (fun q hq _ => hq)) (fun q => HGX.out q))
            obtain ⟨A3, c3, rfl⟩ := own_form hown1
            have P9 := Lib.hid P9'
            have d9 := P9.out.o.cell (show [Value.int .i32 ver, .slice Au nU cu, .slice none 0 0, .int .u32 lk][1]? = some (.slice Au nU cu) from rfl)
            have f9 := P9.out.o.free 1
            clear hown1 hg1 ho1 P9'
            refine hK.out _ _ ?_ (fun hHeld => ?_)
            · exact G9.out
            clear hK K
            try simp only [Act.put, List.setIfInBounds_toArray, List.set_cons_zero, List.set_cons_succ]
            refine wpAnyH_take (i := 15) (oi := { dst := some 39, op := Go.Op.fieldAddr 26 (Go.Operand.tmp 3) 1, type := 0, pos := "ref.go:218", after := #[{ on := 0, ground := Go.Ground.phase }, { on := 1, ground := Go.Ground.phase }, { on := 2, ground := Go.Ground.phase }, { on := 3, ground := Go.Ground.phase }, { on := 4, ground := Go.Ground.phase }, { on := 5, ground := Go.Ground.phase }, { on := 6, ground := Go.Ground.phase }, { on := 7, ground := Go.Ground.phase }, { on := 8, ground := Go.Ground.phase }, { on := 9, ground := Go.Ground.phase }, { on := 10, ground := Go.Ground.phase }, { on := 11, ground := Go.Ground.phase }, { on := 12, ground := Go.Ground.phase }, { on := 13, ground := Go.Ground.phase }, { on := 14, ground := Go.Ground.phase }], guard := none }) (v := ?a_6_11_13_1_14v15) rfl (by kernel_rfl) (by kernel_rfl) (by kernel_rfl) (fun _ _ _ h => h) (Or.inl ⟨by rfl, ?a_6_11_13_1_14y15⟩) (by assumption) ?a_6_11_13_1_14r15
            case a_6_11_13_1_14y15 => (intro w hSw; (try dsimp only at hSw); go_simp; try (with_reducible rfl))
            case a_6_11_13_1_14r15 =>
            try simp only [Act.put, List.setIfInBounds_toArray, List.set_cons_zero, List.set_cons_succ]
            refine wpAnyH_ready (rs := [16]) (by kernel_rfl) (by simp) ?_
            refine AllReadyH.cons (o := { dst := none, op := Go.Op.store 22 (Go.Operand.tmp 39) (Go.Operand.tmp 38), type := 0, pos := "ref.go:218", after := #[{ on := 15, ground := Go.Ground.data }, { on := 14, ground := Go.Ground.data }, { on := 14, ground := Go.Ground.chain }, { on := 0, ground := Go.Ground.phase }, { on := 1, ground := Go.Ground.phase }, { on := 2, ground := Go.Ground.phase }, { on := 3, ground := Go.Ground.phase }, { on := 4, ground := Go.Ground.phase }, { on := 5, ground := Go.Ground.phase }, { on := 6, ground := Go.Ground.phase }, { on := 7, ground := Go.Ground.phase }, { on := 8, ground := Go.Ground.phase }, { on := 9, ground := Go.Ground.phase }, { on := 10, ground := Go.Ground.phase }, { on := 11, ground := Go.Ground.phase }, { on := 12, ground := Go.Ground.phase }, { on := 13, ground := Go.Ground.phase }, { on := 14, ground := Go.Ground.phase }], guard := none }) rfl (fun K hK => ?_) (AllReadyH.nil)
            go_simp
            have PA := Lib.hid (P9.out.put (by have := HGO.out; omega) HN1.out HN2.out 1 (.slice A3 (nU + 1) c3) (.slice A3 (nU + 1) c3) (.slice none 0 0) rfl)
            have GA := Lib.hid (G9.out.turns (S := fun q => q = GO) (Turns.setCell (S := fun q => q = GO) (Turns.refl _ w9) (p := ⟨GO, 1, none⟩) (fun _ => rfl) (.slice A3 (nU + 1) c3)) HNX2.out)
            refine hK.out _ _ ?_ (fun hHeld => ?_)
            · exact GA.out
            clear hK K
            try simp only [Act.put]
            refine wpAnyH_done (by kernel_rfl) ?_ _
            go_wp2_with fail
            exact ⟨⟨j + 1, _, _, hlt, by first | rfl | (rw [wrap_small2 (by omega) (by omega)]; rfl), Lib.hid PA.out, Lib.hid (by rw [HTK.out, List.map_append, HM.out, List.map_cons, List.map_nil, HXP.out])⟩, meas_n hlt⟩
    · as_aux_lemma =>
      have dj : decide ((j : Int) < (nX : Int)) = false := decide_eq_false (by omega)
      have hjn : j = X.length := by rw [← HX.out]; omega
      have hm := hM.out
      rw [hjn, List.take_length, HT.out.ei] at hm
      have HMI := Lib.hid hm
      have P3 := Lib.hid hP.out
      obtain ⟨ui, hui⟩ : ∃ z, z = u := ⟨_, rfl⟩
      subst hui
      clear hM hm hjn hP hj
      go_wp2_with fail
      clear q1
      go_loopw [6] (fun s wr => ∃ (j : Nat) (v : Value) (Y' : List OutV), j ≤ nY ∧ s = .int .i64 (j : Int) ∧ Hid (CpAt w wr GB GO GR TC ver lk ui v ui v X' Y') ∧ Hid (Y'.map (·.p) = (Y.take j).map (·.p))) (fun s _ => nY - (intOf s).toNat)
      case atStart => exact ⟨0, _, [], Nat.zero_le _, rfl, Lib.hid P3.out, Lib.hid rfl⟩
      case round =>
        obtain ⟨j, u, Y', hj, rfl, hP, hM⟩ := hrel
        obtain ⟨w5, rfl⟩ : ∃ z : World, z = wr := ⟨_, rfl⟩
        have q2 := hP.out.t.cell T2.out
        by_cases hlt : j < nY
        · as_aux_lemma =>
          have dj : decide ((j : Int) < (nY : Int)) = true := decide_eq_true (by omega)
          obtain ⟨y, hy⟩ : ∃ y, Y[j]? = some y := ⟨_, List.getElem?_eq_getElem (by rw [← HY.out]; exact hlt)⟩
          obtain ⟨b, o, c', ef, hnc, _, hbB, hrg, hiy⟩ := HT.out.outs.at hy
          injection ef with ef1 ef2 ef3
          subst ef1 ef3
          have hym := List.mem_of_getElem? hy
          have hsy := HZ.out.sO y hym
          have hok := hiy.ok
          have htk : (Y.take (j + 1)).map (·.p) = (Y.take j).map (·.p) ++ [y.p] := by rw [List.take_add_one, hy, List.map_append]; rfl
          have hjl : Y'.length = j := by
            have q := congrArg List.length hM.out
            rw [List.length_map, List.length_map, List.length_take, ← HY.out] at q
            omega
          obtain ⟨As, cs, hsf⟩ := hiy.sc.form
          obtain ⟨nZ, hnZ⟩ : ∃ n, n = y.p.sc.length := ⟨_, rfl⟩
          obtain ⟨zs, hzs⟩ : ∃ z, z = y.p.sc := ⟨_, rfl⟩
          obtain ⟨yv, hyv⟩ : ∃ n, n = y.p.v := ⟨_, rfl⟩
          have hby := hiy.sc
          rw [hsf, ← hnZ] at hby
          rw [← hnZ] at hsf
          have c0 : w.cell? ⟨b, o + j * 2, none⟩ = some (.int .i64 yv) := by rw [hyv]; exact hrg 0 _ rfl
          have c1 : w.cell? ⟨b, o + j * 2 + 1, none⟩ = some (.slice As nZ cs) := by rw [← hsf]; exact hrg 1 _ rfl
          have hbw : b < w.heap.size := Nat.lt_of_lt_of_le hbB HB.out
          obtain ⟨Au, cu, huf⟩ := hP.out.outs.form
          subst huf
          obtain ⟨nU, hnU⟩ : ∃ n, n = Y'.length := ⟨_, rfl⟩
          rw [← hnU] at hP
          have HTK := Lib.hid htk
          have HM := Lib.hid hM.out
          have HOK := Lib.hid hok
          have HNZ := Lib.hid (show nZ = zs.length by rw [hnZ, hzs])
          have HZS := Lib.hid hzs
          have HYV := Lib.hid hyv
          have HNU := Lib.hid hnU
          have HBD := Lib.hid (show (nU + 1) * 32 ≤ 140737488355328 by have := HZ.out.nO; have := HY.out; omega)
          have hzsz : zs.length < 140737488355328 := by rw [hzs]; exact hsy
          have HBY := Lib.hid (show Byt w B (.slice As nZ cs) zs by rw [hzs]; exact hby)
          have hcw : nY ≤ cp2 := by rw [HY.out]; exact hnc
          have P5 := Lib.hid hP.out
          have HSB := Lib.hid (show ∀ W, Below w5.drew.heap.size w5.drew W → (W.cell? ⟨GB, 2, none⟩ = some (.slice (some ⟨b, o, none⟩) nY cp2) ∧ W.cell? ⟨b, o + j * 2, none⟩ = some (.int .i64 yv) ∧ W.cell? ⟨b, o + j * 2 + 1, none⟩ = some (.slice As nZ cs)) from fun W h => by
            have bb := P5.out.bel.drew.trans (h.mono P5.out.bel.size)
            exact ⟨(h.cell (p := ⟨GB, 2, none⟩) P5.out.t.lt).trans q2, (bb.cell (p := ⟨b, _, none⟩) hbw).trans c0, (bb.cell (p := ⟨b, _, none⟩) hbw).trans c1⟩)
          have HSW := Lib.hid (show ∀ (S : Nat → Prop) (W0 W : World), Turns S W0 W → (∀ q, S q → w.heap.size ≤ q) → (¬ S GB) → (W0.cell? ⟨GB, 2, none⟩ = some (.slice (some ⟨b, o, none⟩) nY cp2) ∧ W0.cell? ⟨b, o + j * 2, none⟩ = some (.int .i64 yv) ∧ W0.cell? ⟨b, o + j * 2 + 1, none⟩ = some (.slice As nZ cs)) → w.heap.size ≤ W0.heap.size → GB < W0.heap.size →
              (W.cell? ⟨GB, 2, none⟩ = some (.slice (some ⟨b, o, none⟩) nY cp2) ∧ W.cell? ⟨b, o + j * 2, none⟩ = some (.int .i64 yv) ∧ W.cell? ⟨b, o + j * 2 + 1, none⟩ = some (.slice As nZ cs)) from fun S W0 W ht hS hG h hs hg =>
            ⟨(ht.cell (p := ⟨GB, 2, none⟩) hg hG).trans h.1, (ht.cell (p := ⟨b, _, none⟩) (by show b < _; omega) (fun e => by have := hS _ e; have e' : w.heap.size ≤ b := this; omega)).trans h.2.1, (ht.cell (p := ⟨b, _, none⟩) (by show b < _; omega) (fun e => by have := hS _ e; have e' : w.heap.size ≤ b := this; omega)).trans h.2.2⟩)
          have HS0 := Lib.hid (HSB.out w5.drew (Below.refl _ _))
          have d5 : w5.drew.cell? ⟨GO, 2, none⟩ = some (.slice Au nU cu) := P5.out.o.cell (show [Value.int .i32 ver, ui, .slice Au nU cu, .int .u32 lk][2]? = some (.slice Au nU cu) from rfl)
          have HRC := Lib.hid (rcopy_any B _ zs w5.drew (HBY.out.below (P5.out.bel.mono HB.out).drew) (by omega))
          clear htk hM hok hnZ hzs hyv hnU hby hsf hrg hy hym hnc hbB hiy hjl c0 c1 hbw hsy ef2
          go_upto_region 10 with fail
          clear hP q2
          refine wp_region_held_drew (S := (fun w' => w'.cell? ⟨GB, 2, none⟩ = some (.slice (some ⟨b, o, none⟩) nY cp2) ∧ w'.cell? ⟨b, o + j * 2, none⟩ = some (.int .i64 yv) ∧ w'.cell? ⟨b, o + j * 2 + 1, none⟩ = some (.slice As nZ cs))) (by kernel_rfl) ?_ (fun hHeld => ?_)
          · exact HS0.out
          refine wpAnyH_take (i := 0) (oi := { dst := some 47, op := Go.Op.fieldAddr 26 (Go.Operand.tmp 3) 2, type := 0, pos := "ref.go:221", after := #[], guard := none }) (v := ?bv0) rfl (by kernel_rfl) (by kernel_rfl) (by kernel_rfl) (fun _ _ _ h => h) (Or.inl ⟨by rfl, ?by0⟩) (by assumption) ?br0
          case by0 => (intro w hSw; (try dsimp only at hSw); go_simp; try (with_reducible rfl))
          case br0 =>
          try simp only [Act.put, List.setIfInBounds_toArray, List.set_cons_zero, List.set_cons_succ]
          refine wpAnyH_take (i := 2) (oi := { dst := some 49, op := Go.Op.fieldAddr 26 (Go.Operand.tmp 1) 2, type := 0, pos := "ref.go:221", after := #[], guard := none }) (v := ?bv2) rfl (by kernel_rfl) (by kernel_rfl) (by kernel_rfl) (fun _ _ _ h => h) (Or.inl ⟨by rfl, ?by2⟩) (by assumption) ?br2
          case by2 => (intro w hSw; (try dsimp only at hSw); go_simp; try (with_reducible rfl))
          case br2 =>
          try simp only [Act.put, List.setIfInBounds_toArray, List.set_cons_zero, List.set_cons_succ]
          refine wpAnyH_take (i := 3) (oi := { dst := some 50, op := Go.Op.load 23 (Go.Operand.tmp 49), type := 23, pos := "ref.go:221", after := #[{ on := 2, ground := Go.Ground.data }], guard := none }) (v := (.slice (some ⟨b, o, none⟩) nY cp2)) rfl (by kernel_rfl) (by kernel_rfl) (by kernel_rfl) (fun _ _ _ h => h) (Or.inl ⟨by rfl, ?by3⟩) (by assumption) ?br3
          case by3 => (intro w hSw; (try dsimp only at hSw); go_simp; try (simp [hSw.1]))
          case br3 =>
          try simp only [Act.put, List.setIfInBounds_toArray, List.set_cons_zero, List.set_cons_succ]
          refine wpAnyH_take (i := 4) (oi := { dst := some 51, op := Go.Op.move (Go.Operand.tmp 6), type := 3, pos := "ref.go:221", after := #[], guard := none }) (v := ?bv4) rfl (by kernel_rfl) (by kernel_rfl) (by kernel_rfl) (fun _ _ _ h => h) (Or.inl ⟨by rfl, ?by4⟩) (by assumption) ?br4
          case by4 => (intro w hSw; (try dsimp only at hSw); go_simp; try (with_reducible rfl))
          case br4 =>
          try simp only [Act.put, List.setIfInBounds_toArray, List.set_cons_zero, List.set_cons_succ]
          refine wpAnyH_take (i := 5) (oi := { dst := some 52, op := Go.Op.indexAddr 23 (Go.Operand.tmp 50) (Go.Operand.tmp 51), type := 0, pos := "ref.go:221", after := #[{ on := 3, ground := Go.Ground.data }, { on := 4, ground := Go.Ground.data }], guard := none }) (v := ?bv5) rfl (by kernel_rfl) (by kernel_rfl) (by kernel_rfl) (fun _ _ _ h => h) (Or.inl ⟨by rfl, ?by5⟩) (by assumption) ?br5
          case by5 => (intro w hSw; (try dsimp only at hSw); go_simp; try (with_reducible rfl))
          case br5 =>
          try simp only [Act.put, List.setIfInBounds_toArray, List.set_cons_zero, List.set_cons_succ]
          refine wpAnyH_take (i := 6) (oi := { dst := some 53, op := Go.Op.fieldAddr 54 (Go.Operand.tmp 52) 0, type := 0, pos := "ref.go:221", after := #[{ on := 5, ground := Go.Ground.data }], guard := none }) (v := ?bv6) rfl (by kernel_rfl) (by kernel_rfl) (by kernel_rfl) (fun _ _ _ h => h) (Or.inl ⟨by rfl, ?by6⟩) (by assumption) ?br6
          case by6 => (intro w hSw; (try dsimp only at hSw); go_simp; try (with_reducible rfl))
          case br6 =>
          try simp only [Act.put, List.setIfInBounds_toArray, List.set_cons_zero, List.set_cons_succ]
          refine wpAnyH_take (i := 7) (oi := { dst := some 54, op := Go.Op.load 2 (Go.Operand.tmp 53), type := 2, pos := "ref.go:221", after := #[{ on := 6, ground := Go.Ground.data }], guard := none }) (v := (.int .i64 yv)) rfl (by kernel_rfl) (by kernel_rfl) (by kernel_rfl) (fun _ _ _ h => h) (Or.inl ⟨by rfl, ?by7⟩) (by assumption) ?br7
          case by7 => (intro w hSw; (try dsimp only at hSw); go_simp; try (simp [hSw.2.1]))
          case br7 =>
          try simp only [Act.put, List.setIfInBounds_toArray, List.set_cons_zero, List.set_cons_succ]
          refine wpAnyH_take (i := 8) (oi := { dst := some 55, op := Go.Op.fieldAddr 26 (Go.Operand.tmp 1) 2, type := 0, pos := "ref.go:221", after := #[], guard := none }) (v := ?bv8) rfl (by kernel_rfl) (by kernel_rfl) (by kernel_rfl) (fun _ _ _ h => h) (Or.inl ⟨by rfl, ?by8⟩) (by assumption) ?br8
          case by8 => (intro w hSw; (try dsimp only at hSw); go_simp; try (with_reducible rfl))
          case br8 =>
          try simp only [Act.put, List.setIfInBounds_toArray, List.set_cons_zero, List.set_cons_succ]
          refine wpAnyH_take (i := 9) (oi := { dst := some 56, op := Go.Op.load 23 (Go.Operand.tmp 55), type := 23, pos := "ref.go:221", after := #[{ on := 8, ground := Go.Ground.data }], guard := none }) (v := (.slice (some ⟨b, o, none⟩) nY cp2)) rfl (by kernel_rfl) (by kernel_rfl) (by kernel_rfl) (fun _ _ _ h => h) (Or.inl ⟨by rfl, ?by9⟩) (by assumption) ?br9
          case by9 => (intro w hSw; (try dsimp only at hSw); go_simp; try (simp [hSw.1]))
          case br9 =>
          try simp only [Act.put, List.setIfInBounds_toArray, List.set_cons_zero, List.set_cons_succ]
          refine wpAnyH_take (i := 10) (oi := { dst := some 57, op := Go.Op.move (Go.Operand.tmp 6), type := 3, pos := "ref.go:221", after := #[], guard := none }) (v := ?bv10) rfl (by kernel_rfl) (by kernel_rfl) (by kernel_rfl) (fun _ _ _ h => h) (Or.inl ⟨by rfl, ?by10⟩) (by assumption) ?br10
          case by10 => (intro w hSw; (try dsimp only at hSw); go_simp; try (with_reducible rfl))
          case br10 =>
          try simp only [Act.put, List.setIfInBounds_toArray, List.set_cons_zero, List.set_cons_succ]
          refine wpAnyH_take (i := 11) (oi := { dst := some 58, op := Go.Op.indexAddr 23 (Go.Operand.tmp 56) (Go.Operand.tmp 57), type := 0, pos := "ref.go:221", after := #[{ on := 9, ground := Go.Ground.data }, { on := 10, ground := Go.Ground.data }], guard := none }) (v := ?bv11) rfl (by kernel_rfl) (by kernel_rfl) (by kernel_rfl) (fun _ _ _ h => h) (Or.inl ⟨by rfl, ?by11⟩) (by assumption) ?br11
          case by11 => (intro w hSw; (try dsimp only at hSw); go_simp; try (with_reducible rfl))
          case br11 =>
          try simp only [Act.put, List.setIfInBounds_toArray, List.set_cons_zero, List.set_cons_succ]
          refine wpAnyH_take (i := 12) (oi := { dst := some 59, op := Go.Op.fieldAddr 54 (Go.Operand.tmp 58) 1, type := 0, pos := "ref.go:221", after := #[{ on := 11, ground := Go.Ground.data }], guard := none }) (v := ?bv12) rfl (by kernel_rfl) (by kernel_rfl) (by kernel_rfl) (fun _ _ _ h => h) (Or.inl ⟨by rfl, ?by12⟩) (by assumption) ?br12
          case by12 => (intro w hSw; (try dsimp only at hSw); go_simp; try (with_reducible rfl))
          case br12 =>
          try simp only [Act.put, List.setIfInBounds_toArray, List.set_cons_zero, List.set_cons_succ]
          refine wpAnyH_take (i := 13) (oi := { dst := some 60, op := Go.Op.load 27 (Go.Operand.tmp 59), type := 27, pos := "ref.go:221", after := #[{ on := 12, ground := Go.Ground.data }], guard := none }) (v := (.slice As nZ cs)) rfl (by kernel_rfl) (by kernel_rfl) (by kernel_rfl) (fun _ _ _ h => h) (Or.inl ⟨by rfl, ?by13⟩) (by assumption) ?br13
          case by13 => (intro w hSw; (try dsimp only at hSw); go_simp; try (simp [hSw.2.2]))
          case br13 =>
          try simp only [Act.put, List.setIfInBounds_toArray, List.set_cons_zero, List.set_cons_succ]
          refine wpAnyH_ready (rs := [1, 14]) (by kernel_rfl) (by simp) ?_
          refine AllReadyH.cons (o := { dst := some 48, op := Go.Op.load 23 (Go.Operand.tmp 47), type := 23, pos := "ref.go:221", after := #[{ on := 0, ground := Go.Ground.data }], guard := none }) rfl (fun K hK => ?_) (AllReadyH.cons (o := { dst := some 61, op := Go.Op.call { callee := Go.Callee.value (Go.Operand.func 21), args := #[Go.Operand.tmp 60], argTypes := #[27] }, type := 27, pos := "ref.go:221", after := #[{ on := 13, ground := Go.Ground.data }], guard := none }) rfl (fun K hK => ?_) (AllReadyH.nil))
          · as_aux_lemma =>
            go_simp
            refine hK.out _ _ ?_ (fun hHeld => ?_)
            · exact HS0.out
            clear hK K
            try simp only [Act.put, List.setIfInBounds_toArray, List.set_cons_zero, List.set_cons_succ]
            refine wpAnyH_ready (rs := [14]) (by kernel_rfl) (by simp) ?_
            refine AllReadyH.cons (o := { dst := some 61, op := Go.Op.call { callee := Go.Callee.value (Go.Operand.func 21), args := #[Go.Operand.tmp 60], argTypes := #[27] }, type := 27, pos := "ref.go:221", after := #[{ on := 13, ground := Go.Ground.data }], guard := none }) rfl (fun K hK => ?_) (AllReadyH.nil)
            go_simp
            refine HRC.out.mono ?_
            rintro e w6 ⟨A1, c1, rfl, hown6, hb6⟩
            have hE1 : OwnB w6 w5.heap.size (.slice A1 nZ c1) zs := by rw [HNZ.out]; exact hown6
            have P6 := Lib.hid ((P5.out.below (Below.refl _ w5).drew).below hb6)
            have E1 := Lib.hid (show OwnB w6 w.heap.size (.slice A1 nZ c1) zs from own_le hE1 P5.out.bel.size)
            have G6 := Lib.hid (HSB.out w6 hb6)
            have d6 := P6.out.o.cell (show [Value.int .i32 ver, ui, .slice Au nU cu, .int .u32 lk][2]? = some (.slice Au nU cu) from rfl)
            rw [← HNZ.out]
            obtain ⟨R, hR⟩ : ∃ R, R = [Value.int .i64 yv, Value.slice A1 nZ c1] := ⟨_, rfl⟩
            have hbw := fun W => build_tout yv A1 nZ c1 W
            rw [← hR] at hbw
            have HBW := Lib.hid hbw
            have HRL := Lib.hid (show R.length = 2 by rw [hR]; rfl)
            obtain ⟨xn, hxn⟩ : ∃ xn : OutV, xn = ⟨y.p, .slice A1 nZ c1⟩ := ⟨_, rfl⟩
            have HRX := Lib.hid (show R = outC xn by rw [hR, hxn, HYV.out]; rfl)
            have HXN := Lib.hid (show ElO w6 w.heap.size xn by rw [hxn]; exact ⟨HOK.out, by rw [← HZS.out]; exact E1.out⟩)
            have HXP := Lib.hid (show xn.p = y.p by rw [hxn])
            have HR1 := Lib.hid (show ∀ u ∈ R, u.oneCell' = true from fun u hu => HXN.out.is.one u (by rw [← HRX.out]; exact hu))
            have HB6 := Lib.hid hb6
            clear hown6 hb6 hE1 hR hxn hbw
            refine hK.out _ _ ?_ (fun hHeld => ?_)
            · exact G6.out
            clear hK K
            try simp only [Act.put, List.setIfInBounds_toArray, List.set_cons_zero, List.set_cons_succ]
            refine wpAnyH_take (i := 15) (oi := { dst := some 62, op := Go.Op.build 54 #[(0, Go.Operand.tmp 54), (1, Go.Operand.tmp 61)], type := 54, pos := "ref.go:221", after := #[{ on := 7, ground := Go.Ground.data }, { on := 14, ground := Go.Ground.data }], guard := none }) (v := (.agg R.toArray)) rfl (by kernel_rfl) (by kernel_rfl) (by kernel_rfl) (fun _ _ _ h => h) (yieldsIf_build (by rfl) 54 _ rfl (.agg R.toArray) (fun W => by (simp only [List.map_toArray, List.map_cons, List.map_nil]; exact HBW.out W))) (by assumption) ?_
            try simp only [Act.put, List.setIfInBounds_toArray, List.set_cons_zero, List.set_cons_succ]
            refine wpAnyH_ready (rs := [16]) (by kernel_rfl) (by simp) ?_
            refine AllReadyH.cons (o := { dst := some 63, op := Go.Op.buildSlice 23 1 #[(0, Go.Operand.tmp 62)], type := 23, pos := "ref.go:221", after := #[{ on := 15, ground := Go.Ground.data }], guard := none }) rfl (fun K hK => ?_) (AllReadyH.nil)
            refine op_one_tout (.tmp 62) rfl R rfl HRL.out ?_
            have b8 : Below w6.heap.size w6 (w6.alloc (.cells R.toArray 54)) := (Below.refl _ w6).alloc (Nat.le_refl _) _
            have P8 := Lib.hid (P6.out.below b8)
            have G8 := Lib.hid (HSB.out _ (HB6.out.trans (b8.mono HB6.out.size)))
            have X8 := Lib.hid (HXN.out.apart (Turns.of_below (S := fun _ => False) b8) none_apart)
            have N8 := Lib.hid (show (w6.alloc (.cells R.toArray 54)).rangeAt w6.heap.size 0 R from (VRow.new w6 54 R).range (fun q v hv => by rw [Nat.zero_add]; exact hv))
            have d8 := P8.out.o.cell (show [Value.int .i32 ver, ui, .slice Au nU cu, .int .u32 lk][2]? = some (.slice Au nU cu) from rfl)
            have Z8 := Lib.hid (show w.heap.size ≤ (w6.alloc (.cells R.toArray 54)).heap.size from P8.out.bel.size)
            have I8 := Lib.hid (show (w6.alloc (.cells R.toArray 54)).ownsRow w.heap.size 54 2 (.slice Au nU cu) nU (Y'.flatMap outC) by have q := P8.out.outs; unfold OutsO at q; rw [← HNU.out] at q; exact q)
            clear b8
            refine hK.out _ _ ?_ (fun hHeld => ?_)
            · exact G8.out
            clear hK K
            try simp only [Act.put, List.setIfInBounds_toArray, List.set_cons_zero, List.set_cons_succ]
            refine wpAnyH_ready (rs := [17]) (by kernel_rfl) (by simp) ?_
            refine AllReadyH.cons (o := { dst := some 64, op := Go.Op.call { callee := Go.Callee.builtin Go.Builtin.append, args := #[Go.Operand.tmp 48, Go.Operand.tmp 63], argTypes := #[23, 23] }, type := 23, pos := "ref.go:221", after := #[{ on := 1, ground := Go.Ground.data }, { on := 16, ground := Go.Ground.data }, { on := 14, ground := Go.Ground.chain }], guard := none }) rfl (fun K hK => ?_) (AllReadyH.nil)
            refine op_append_tout (.tmp 48) (.tmp 63) rfl w.heap.size _ nU _ rfl I8.out w6.heap.size 1 R rfl HRL.out N8.out HR1.out HBD.out Z8.out ?_
            intro v1 w9 hown1 hg1 ho1
            have P9' := P8.out.snocO (v' := v1) (x := xn) (by rw [← HNU.out, ← HRX.out]; exact hown1) hg1 X8.out
            have bg := Below.refl w.heap.size w
            have G9 := Lib.hid (HSW.out _ _ _ (Turns.grown (Turns.refl (fun q => (Value.slice Au nU cu).ownBlock = some q) _) hg1 (fun q hq _ => hq)) (fun q hq => (P8.out.outs.lt q hq).1) (fun hq => own_block_o P8.out.outs P8.out.t (by decide) hq) G8.out P8.out.bel.size P8.out.t.lt)
            obtain ⟨A3, c3, rfl⟩ := own_form hown1
            have P9 := Lib.hid P9'
            have d9 := P9.out.o.cell (show [Value.int .i32 ver, ui, .slice Au nU cu, .int .u32 lk][2]? = some (.slice Au nU cu) from rfl)
            have f9 := P9.out.o.free 2
            clear hown1 hg1 ho1 P9' bg
            refine hK.out _ _ ?_ (fun hHeld => ?_)
            · exact G9.out
            clear hK K
            try simp only [Act.put, List.setIfInBounds_toArray, List.set_cons_zero, List.set_cons_succ]
            refine wpAnyH_take (i := 18) (oi := { dst := some 65, op := Go.Op.fieldAddr 26 (Go.Operand.tmp 3) 2, type := 0, pos := "ref.go:221", after := #[{ on := 0, ground := Go.Ground.phase }, { on := 1, ground := Go.Ground.phase }, { on := 2, ground := Go.Ground.phase }, { on := 3, ground := Go.Ground.phase }, { on := 4, ground := Go.Ground.phase }, { on := 5, ground := Go.Ground.phase }, { on := 6, ground := Go.Ground.phase }, { on := 7, ground := Go.Ground.phase }, { on := 8, ground := Go.Ground.phase }, { on := 9, ground := Go.Ground.phase }, { on := 10, ground := Go.Ground.phase }, { on := 11, ground := Go.Ground.phase }, { on := 12, ground := Go.Ground.phase }, { on := 13, ground := Go.Ground.phase }, { on := 14, ground := Go.Ground.phase }, { on := 15, ground := Go.Ground.phase }, { on := 16, ground := Go.Ground.phase }, { on := 17, ground := Go.Ground.phase }], guard := none }) (v := ?b_1_14_16_17v18) rfl (by kernel_rfl) (by kernel_rfl) (by kernel_rfl) (fun _ _ _ h => h) (Or.inl ⟨by rfl, ?b_1_14_16_17y18⟩) (by assumption) ?b_1_14_16_17r18
            case b_1_14_16_17y18 => (intro w hSw; (try dsimp only at hSw); go_simp; try (with_reducible rfl))
            case b_1_14_16_17r18 =>
            try simp only [Act.put, List.setIfInBounds_toArray, List.set_cons_zero, List.set_cons_succ]
            refine wpAnyH_ready (rs := [19]) (by kernel_rfl) (by simp) ?_
            refine AllReadyH.cons (o := { dst := none, op := Go.Op.store 23 (Go.Operand.tmp 65) (Go.Operand.tmp 64), type := 0, pos := "ref.go:221", after := #[{ on := 18, ground := Go.Ground.data }, { on := 17, ground := Go.Ground.data }, { on := 17, ground := Go.Ground.chain }, { on := 0, ground := Go.Ground.phase }, { on := 1, ground := Go.Ground.phase }, { on := 2, ground := Go.Ground.phase }, { on := 3, ground := Go.Ground.phase }, { on := 4, ground := Go.Ground.phase }, { on := 5, ground := Go.Ground.phase }, { on := 6, ground := Go.Ground.phase }, { on := 7, ground := Go.Ground.phase }, { on := 8, ground := Go.Ground.phase }, { on := 9, ground := Go.Ground.phase }, { on := 10, ground := Go.Ground.phase }, { on := 11, ground := Go.Ground.phase }, { on := 12, ground := Go.Ground.phase }, { on := 13, ground := Go.Ground.phase }, { on := 14, ground := Go.Ground.phase }, { on := 15, ground := Go.Ground.phase }, { on := 16, ground := Go.Ground.phase }, { on := 17, ground := Go.Ground.phase }], guard := none }) rfl (fun K hK => ?_) (AllReadyH.nil)
            go_simp
            have PA := Lib.hid (P9.out.put (by have := HGO.out; omega) HN1.out HN2.out 2 (.slice A3 (nU + 1) c3) ui (.slice A3 (nU + 1) c3) rfl)
            have GA := Lib.hid (HSW.out _ _ _ (Turns.setCell (S := fun q => q = GO) (Turns.refl _ w9) (p := ⟨GO, 2, none⟩) (fun _ => rfl) (.slice A3 (nU + 1) c3)) (fun q hq => by have q' : q = GO := hq; have := HGO.out; omega) (fun hq => HN1.out hq) G9.out P9.out.bel.size P9.out.t.lt)
            refine hK.out _ _ ?_ (fun hHeld => ?_)
            · exact GA.out
            clear hK K
            try simp only [Act.put]
            refine wpAnyH_done (by kernel_rfl) ?_ _
            go_wp2_with fail
            exact ⟨⟨j + 1, _, _, hlt, by first | rfl | (rw [wrap_small2 (by omega) (by omega)]; rfl), Lib.hid PA.out, Lib.hid (by rw [HTK.out, List.map_append, HM.out, List.map_cons, List.map_nil, HXP.out])⟩, meas_n hlt⟩
          · as_aux_lemma =>
            go_simp
            refine HRC.out.mono ?_
            rintro e w6 ⟨A1, c1, rfl, hown6, hb6⟩
            have hE1 : OwnB w6 w5.heap.size (.slice A1 nZ c1) zs := by rw [HNZ.out]; exact hown6
            have P6 := Lib.hid ((P5.out.below (Below.refl _ w5).drew).below hb6)
            have E1 := Lib.hid (show OwnB w6 w.heap.size (.slice A1 nZ c1) zs from own_le hE1 P5.out.bel.size)
            have G6 := Lib.hid (HSB.out w6 hb6)
            have d6 := P6.out.o.cell (show [Value.int .i32 ver, ui, .slice Au nU cu, .int .u32 lk][2]? = some (.slice Au nU cu) from rfl)
            rw [← HNZ.out]
            obtain ⟨R, hR⟩ : ∃ R, R = [Value.int .i64 yv, Value.slice A1 nZ c1] := ⟨_, rfl⟩
            have hbw := fun W => build_tout yv A1 nZ c1 W
            rw [← hR] at hbw
            have HBW := Lib.hid hbw
            have HRL := Lib.hid (show R.length = 2 by rw [hR]; rfl)
            obtain ⟨xn, hxn⟩ : ∃ xn : OutV, xn = ⟨y.p, .slice A1 nZ c1⟩ := ⟨_, rfl⟩
            have HRX := Lib.hid (show R = outC xn by rw [hR, hxn, HYV.out]; rfl)
            have HXN := Lib.hid (show ElO w6 w.heap.size xn by rw [hxn]; exact ⟨HOK.out, by rw [← HZS.out]; exact E1.out⟩)
            have HXP := Lib.hid (show xn.p = y.p by rw [hxn])
            have HR1 := Lib.hid (show ∀ u ∈ R, u.oneCell' = true from fun u hu => HXN.out.is.one u (by rw [← HRX.out]; exact hu))
            have HB6 := Lib.hid hb6
            clear hown6 hb6 hE1 hR hxn hbw
            refine hK.out _ _ ?_ (fun hHeld => ?_)
            · exact G6.out
            clear hK K
            try simp only [Act.put, List.setIfInBounds_toArray, List.set_cons_zero, List.set_cons_succ]
            refine wpAnyH_take (i := 15) (oi := { dst := some 62, op := Go.Op.build 54 #[(0, Go.Operand.tmp 54), (1, Go.Operand.tmp 61)], type := 54, pos := "ref.go:221", after := #[{ on := 7, ground := Go.Ground.data }, { on := 14, ground := Go.Ground.data }], guard := none }) (v := (.agg R.toArray)) rfl (by kernel_rfl) (by kernel_rfl) (by kernel_rfl) (fun _ _ _ h => h) (yieldsIf_build (by rfl) 54 _ rfl (.agg R.toArray) (fun W => by (simp only [List.map_toArray, List.map_cons, List.map_nil]; exact HBW.out W))) (by assumption) ?_
            try simp only [Act.put, List.setIfInBounds_toArray, List.set_cons_zero, List.set_cons_succ]
            refine wpAnyH_ready (rs := [1, 16]) (by kernel_rfl) (by simp) ?_
            refine AllReadyH.cons (o := { dst := some 48, op := Go.Op.load 23 (Go.Operand.tmp 47), type := 23, pos := "ref.go:221", after := #[{ on := 0, ground := Go.Ground.data }], guard := none }) rfl (fun K hK => ?_) (AllReadyH.cons (o := { dst := some 63, op := Go.Op.buildSlice 23 1 #[(0, Go.Operand.tmp 62)], type := 23, pos := "ref.go:221", after := #[{ on := 15, ground := Go.Ground.data }], guard := none }) rfl (fun K hK => ?_) (AllReadyH.nil))
            · as_aux_lemma =>
              go_simp
              refine hK.out _ _ ?_ (fun hHeld => ?_)
              · exact G6.out
              clear hK K
              try simp only [Act.put, List.setIfInBounds_toArray, List.set_cons_zero, List.set_cons_succ]
              refine wpAnyH_ready (rs := [16]) (by kernel_rfl) (by simp) ?_
              refine AllReadyH.cons (o := { dst := some 63, op := Go.Op.buildSlice 23 1 #[(0, Go.Operand.tmp 62)], type := 23, pos := "ref.go:221", after := #[{ on := 15, ground := Go.Ground.data }], guard := none }) rfl (fun K hK => ?_) (AllReadyH.nil)
              refine op_one_tout (.tmp 62) rfl R rfl HRL.out ?_
              have b8 : Below w6.heap.size w6 (w6.alloc (.cells R.toArray 54)) := (Below.refl _ w6).alloc (Nat.le_refl _) _
              have P8 := Lib.hid (P6.out.below b8)
              have G8 := Lib.hid (HSB.out _ (HB6.out.trans (b8.mono HB6.out.size)))
              have X8 := Lib.hid (HXN.out.apart (Turns.of_below (S := fun _ => False) b8) none_apart)
              have N8 := Lib.hid (show (w6.alloc (.cells R.toArray 54)).rangeAt w6.heap.size 0 R from (VRow.new w6 54 R).range (fun q v hv => by rw [Nat.zero_add]; exact hv))
              have d8 := P8.out.o.cell (show [Value.int .i32 ver, ui, .slice Au nU cu, .int .u32 lk][2]? = some (.slice Au nU cu) from rfl)
              have Z8 := Lib.hid (show w.heap.size ≤ (w6.alloc (.cells R.toArray 54)).heap.size from P8.out.bel.size)
              have I8 := Lib.hid (show (w6.alloc (.cells R.toArray 54)).ownsRow w.heap.size 54 2 (.slice Au nU cu) nU (Y'.flatMap outC) by have q := P8.out.outs; unfold OutsO at q; rw [← HNU.out] at q; exact q)
              clear b8
              refine hK.out _ _ ?_ (fun hHeld => ?_)
              · exact G8.out
              clear hK K
              try simp only [Act.put, List.setIfInBounds_toArray, List.set_cons_zero, List.set_cons_succ]
              refine wpAnyH_ready (rs := [17]) (by kernel_rfl) (by simp) ?_
              refine AllReadyH.cons (o := { dst := some 64, op := Go.Op.call { callee := Go.Callee.builtin Go.Builtin.append, args := #[Go.Operand.tmp 48, Go.Operand.tmp 63], argTypes := #[23, 23] }, type := 23, pos := "ref.go:221", after := #[{ on := 1, ground := Go.Ground.data }, { on := 16, ground := Go.Ground.data }, { on := 14, ground := Go.Ground.chain }], guard := none }) rfl (fun K hK => ?_) (AllReadyH.nil)
              refine op_append_tout (.tmp 48) (.tmp 63) rfl w.heap.size _ nU _ rfl I8.out w6.heap.size 1 R rfl HRL.out N8.out HR1.out HBD.out Z8.out ?_
              intro v1 w9 hown1 hg1 ho1
              have P9' := P8.out.snocO (v' := v1) (x := xn) (by rw [← HNU.out, ← HRX.out]; exact hown1) hg1 X8.out
              have bg := Below.refl w.heap.size w
              have G9 := Lib.hid (HSW.out _ _ _ (Turns.grown (Turns.refl (fun q => (Value.slice Au nU cu).ownBlock = some q) _) hg1 (fun q hq _ => hq)) (fun q hq => (P8.out.outs.lt q hq).1) (fun hq => own_block_o P8.out.outs P8.out.t (by decide) hq) G8.out P8.out.bel.size P8.out.t.lt)
              obtain ⟨A3, c3, rfl⟩ := own_form hown1
              have P9 := Lib.hid P9'
              have d9 := P9.out.o.cell (show [Value.int .i32 ver, ui, .slice Au nU cu, .int .u32 lk][2]? = some (.slice Au nU cu) from rfl)
              have f9 := P9.out.o.free 2
              clear hown1 hg1 ho1 P9' bg
              refine hK.out _ _ ?_ (fun hHeld => ?_)
              · exact G9.out
              clear hK K
              try simp only [Act.put, List.setIfInBounds_toArray, List.set_cons_zero, List.set_cons_succ]
              refine wpAnyH_take (i := 18) (oi := { dst := some 65, op := Go.Op.fieldAddr 26 (Go.Operand.tmp 3) 2, type := 0, pos := "ref.go:221", after := #[{ on := 0, ground := Go.Ground.phase }, { on := 1, ground := Go.Ground.phase }, { on := 2, ground := Go.Ground.phase }, { on := 3, ground := Go.Ground.phase }, { on := 4, ground := Go.Ground.phase }, { on := 5, ground := Go.Ground.phase }, { on := 6, ground := Go.Ground.phase }, { on := 7, ground := Go.Ground.phase }, { on := 8, ground := Go.Ground.phase }, { on := 9, ground := Go.Ground.phase }, { on := 10, ground := Go.Ground.phase }, { on := 11, ground := Go.Ground.phase }, { on := 12, ground := Go.Ground.phase }, { on := 13, ground := Go.Ground.phase }, { on := 14, ground := Go.Ground.phase }, { on := 15, ground := Go.Ground.phase }, { on := 16, ground := Go.Ground.phase }, { on := 17, ground := Go.Ground.phase }], guard := none }) (v := ?b_14_1_16_17v18) rfl (by kernel_rfl) (by kernel_rfl) (by kernel_rfl) (fun _ _ _ h => h) (Or.inl ⟨by rfl, ?b_14_1_16_17y18⟩) (by assumption) ?b_14_1_16_17r18
              case b_14_1_16_17y18 => (intro w hSw; (try dsimp only at hSw); go_simp; try (with_reducible rfl))
              case b_14_1_16_17r18 =>
              try simp only [Act.put, List.setIfInBounds_toArray, List.set_cons_zero, List.set_cons_succ]
              refine wpAnyH_ready (rs := [19]) (by kernel_rfl) (by simp) ?_
              refine AllReadyH.cons (o := { dst := none, op := Go.Op.store 23 (Go.Operand.tmp 65) (Go.Operand.tmp 64), type := 0, pos := "ref.go:221", after := #[{ on := 18, ground := Go.Ground.data }, { on := 17, ground := Go.Ground.data }, { on := 17, ground := Go.Ground.chain }, { on := 0, ground := Go.Ground.phase }, { on := 1, ground := Go.Ground.phase }, { on := 2, ground := Go.Ground.phase }, { on := 3, ground := Go.Ground.phase }, { on := 4, ground := Go.Ground.phase }, { on := 5, ground := Go.Ground.phase }, { on := 6, ground := Go.Ground.phase }, { on := 7, ground := Go.Ground.phase }, { on := 8, ground := Go.Ground.phase }, { on := 9, ground := Go.Ground.phase }, { on := 10, ground := Go.Ground.phase }, { on := 11, ground := Go.Ground.phase }, { on := 12, ground := Go.Ground.phase }, { on := 13, ground := Go.Ground.phase }, { on := 14, ground := Go.Ground.phase }, { on := 15, ground := Go.Ground.phase }, { on := 16, ground := Go.Ground.phase }, { on := 17, ground := Go.Ground.phase }], guard := none }) rfl (fun K hK => ?_) (AllReadyH.nil)
              go_simp
              have PA := Lib.hid (P9.out.put (by have := HGO.out; omega) HN1.out HN2.out 2 (.slice A3 (nU + 1) c3) ui (.slice A3 (nU + 1) c3) rfl)
              have GA := Lib.hid (HSW.out _ _ _ (Turns.setCell (S := fun q => q = GO) (Turns.refl _ w9) (p := ⟨GO, 2, none⟩) (fun _ => rfl) (.slice A3 (nU + 1) c3)) (fun q hq => by have q' : q = GO := hq; have := HGO.out; omega) (fun hq => HN1.out hq) G9.out P9.out.bel.size P9.out.t.lt)
              refine hK.out _ _ ?_ (fun hHeld => ?_)
              · exact GA.out
              clear hK K
              try simp only [Act.put]
              refine wpAnyH_done (by kernel_rfl) ?_ _
              go_wp2_with fail
              exact ⟨⟨j + 1, _, _, hlt, by first | rfl | (rw [wrap_small2 (by omega) (by omega)]; rfl), Lib.hid PA.out, Lib.hid (by rw [HTK.out, List.map_append, HM.out, List.map_cons, List.map_nil, HXP.out])⟩, meas_n hlt⟩
            · as_aux_lemma =>
              refine op_one_tout (.tmp 62) rfl R rfl HRL.out ?_
              have b8 : Below w6.heap.size w6 (w6.alloc (.cells R.toArray 54)) := (Below.refl _ w6).alloc (Nat.le_refl _) _
              have P8 := Lib.hid (P6.out.below b8)
              have G8 := Lib.hid (HSB.out _ (HB6.out.trans (b8.mono HB6.out.size)))
              have X8 := Lib.hid (HXN.out.apart (Turns.of_below (S := fun _ => False) b8) none_apart)
              have N8 := Lib.hid (show (w6.alloc (.cells R.toArray 54)).rangeAt w6.heap.size 0 R from (VRow.new w6 54 R).range (fun q v hv => by rw [Nat.zero_add]; exact hv))
              have d8 := P8.out.o.cell (show [Value.int .i32 ver, ui, .slice Au nU cu, .int .u32 lk][2]? = some (.slice Au nU cu) from rfl)
              have Z8 := Lib.hid (show w.heap.size ≤ (w6.alloc (.cells R.toArray 54)).heap.size from P8.out.bel.size)
              have I8 := Lib.hid (show (w6.alloc (.cells R.toArray 54)).ownsRow w.heap.size 54 2 (.slice Au nU cu) nU (Y'.flatMap outC) by have q := P8.out.outs; unfold OutsO at q; rw [← HNU.out] at q; exact q)
              clear b8
              refine hK.out _ _ ?_ (fun hHeld => ?_)
              · exact G8.out
              clear hK K
              try simp only [Act.put, List.setIfInBounds_toArray, List.set_cons_zero, List.set_cons_succ]
              refine wpAnyH_ready (rs := [1]) (by kernel_rfl) (by simp) ?_
              refine AllReadyH.cons (o := { dst := some 48, op := Go.Op.load 23 (Go.Operand.tmp 47), type := 23, pos := "ref.go:221", after := #[{ on := 0, ground := Go.Ground.data }], guard := none }) rfl (fun K hK => ?_) (AllReadyH.nil)
              go_simp
              refine hK.out _ _ ?_ (fun hHeld => ?_)
              · exact G8.out
              clear hK K
              try simp only [Act.put, List.setIfInBounds_toArray, List.set_cons_zero, List.set_cons_succ]
              refine wpAnyH_ready (rs := [17]) (by kernel_rfl) (by simp) ?_
              refine AllReadyH.cons (o := { dst := some 64, op := Go.Op.call { callee := Go.Callee.builtin Go.Builtin.append, args := #[Go.Operand.tmp 48, Go.Operand.tmp 63], argTypes := #[23, 23] }, type := 23, pos := "ref.go:221", after := #[{ on := 1, ground := Go.Ground.data }, { on := 16, ground := Go.Ground.data }, { on := 14, ground := Go.Ground.chain }], guard := none }) rfl (fun K hK => ?_) (AllReadyH.nil)
              refine op_append_tout (.tmp 48) (.tmp 63) rfl w.heap.size _ nU _ rfl I8.out w6.heap.size 1 R rfl HRL.out N8.out HR1.out HBD.out Z8.out ?_
              intro v1 w9 hown1 hg1 ho1
              have P9' := P8.out.snocO (v' := v1) (x := xn) (by rw [← HNU.out, ← HRX.out]; exact hown1) hg1 X8.out
              have bg := Below.refl w.heap.size w
              have G9 := Lib.hid (HSW.out _ _ _ (Turns.grown (Turns.refl (fun q => (Value.slice Au nU cu).ownBlock = some q) _) hg1 (fun q hq _ => hq)) (fun q hq => (P8.out.outs.lt q hq).1) (fun hq => own_block_o P8.out.outs P8.out.t (by decide) hq) G8.out P8.out.bel.size P8.out.t.lt)
              obtain ⟨A3, c3, rfl⟩ := own_form hown1
              have P9 := Lib.hid P9'
              have d9 := P9.out.o.cell (show [Value.int .i32 ver, ui, .slice Au nU cu, .int .u32 lk][2]? = some (.slice Au nU cu) from rfl)
              have f9 := P9.out.o.free 2
              clear hown1 hg1 ho1 P9' bg
              refine hK.out _ _ ?_ (fun hHeld => ?_)
              · exact G9.out
              clear hK K
              try simp only [Act.put, List.setIfInBounds_toArray, List.set_cons_zero, List.set_cons_succ]
              refine wpAnyH_take (i := 18) (oi := { dst := some 65, op := Go.Op.fieldAddr 26 (Go.Operand.tmp 3) 2, type := 0, pos := "ref.go:221", after := #[{ on := 0, ground := Go.Ground.phase }, { on := 1, ground := Go.Ground.phase }, { on := 2, ground := Go.Ground.phase }, { on := 3, ground := Go.Ground.phase }, { on := 4, ground := Go.Ground.phase }, { on := 5, ground := Go.Ground.phase }, { on := 6, ground := Go.Ground.phase }, { on := 7, ground := Go.Ground.phase }, { on := 8, ground := Go.Ground.phase }, { on := 9, ground := Go.Ground.phase }, { on := 10, ground := Go.Ground.phase }, { on := 11, ground := Go.Ground.phase }, { on := 12, ground := Go.Ground.phase }, { on := 13, ground := Go.Ground.phase }, { on := 14, ground := Go.Ground.phase }, { on := 15, ground := Go.Ground.phase }, { on := 16, ground := Go.Ground.phase }, { on := 17, ground := Go.Ground.phase }], guard := none }) (v := ?b_14_16_1_17v18) rfl (by kernel_rfl) (by kernel_rfl) (by kernel_rfl) (fun _ _ _ h => h) (Or.inl ⟨by rfl, ?b_14_16_1_17y18⟩) (by assumption) ?b_14_16_1_17r18
              case b_14_16_1_17y18 => (intro w hSw; (try dsimp only at hSw); go_simp; try (with_reducible rfl))
              case b_14_16_1_17r18 =>
              try simp only [Act.put, List.setIfInBounds_toArray, List.set_cons_zero, List.set_cons_succ]
              refine wpAnyH_ready (rs := [19]) (by kernel_rfl) (by simp) ?_
              refine AllReadyH.cons (o := { dst := none, op := Go.Op.store 23 (Go.Operand.tmp 65) (Go.Operand.tmp 64), type := 0, pos := "ref.go:221", after := #[{ on := 18, ground := Go.Ground.data }, { on := 17, ground := Go.Ground.data }, { on := 17, ground := Go.Ground.chain }, { on := 0, ground := Go.Ground.phase }, { on := 1, ground := Go.Ground.phase }, { on := 2, ground := Go.Ground.phase }, { on := 3, ground := Go.Ground.phase }, { on := 4, ground := Go.Ground.phase }, { on := 5, ground := Go.Ground.phase }, { on := 6, ground := Go.Ground.phase }, { on := 7, ground := Go.Ground.phase }, { on := 8, ground := Go.Ground.phase }, { on := 9, ground := Go.Ground.phase }, { on := 10, ground := Go.Ground.phase }, { on := 11, ground := Go.Ground.phase }, { on := 12, ground := Go.Ground.phase }, { on := 13, ground := Go.Ground.phase }, { on := 14, ground := Go.Ground.phase }, { on := 15, ground := Go.Ground.phase }, { on := 16, ground := Go.Ground.phase }, { on := 17, ground := Go.Ground.phase }], guard := none }) rfl (fun K hK => ?_) (AllReadyH.nil)
              go_simp
              have PA := Lib.hid (P9.out.put (by have := HGO.out; omega) HN1.out HN2.out 2 (.slice A3 (nU + 1) c3) ui (.slice A3 (nU + 1) c3) rfl)
              have GA := Lib.hid (HSW.out _ _ _ (Turns.setCell (S := fun q => q = GO) (Turns.refl _ w9) (p := ⟨GO, 2, none⟩) (fun _ => rfl) (.slice A3 (nU + 1) c3)) (fun q hq => by have q' : q = GO := hq; have := HGO.out; omega) (fun hq => HN1.out hq) G9.out P9.out.bel.size P9.out.t.lt)
              refine hK.out _ _ ?_ (fun hHeld => ?_)
              · exact GA.out
              clear hK K
              try simp only [Act.put]
              refine wpAnyH_done (by kernel_rfl) ?_ _
              go_wp2_with fail
              exact ⟨⟨j + 1, _, _, hlt, by first | rfl | (rw [wrap_small2 (by omega) (by omega)]; rfl), Lib.hid PA.out, Lib.hid (by rw [HTK.out, List.map_append, HM.out, List.map_cons, List.map_nil, HXP.out])⟩, meas_n hlt⟩
        · as_aux_lemma =>
          have dj : decide ((j : Int) < (nY : Int)) = false := decide_eq_false (by omega)
          have hjn : j = Y.length := by rw [← HY.out]; omega
          have hm := hM.out
          rw [hjn, List.take_length, HT.out.eo] at hm
          have HMO := Lib.hid hm
          have P5 := Lib.hid hP.out
          obtain ⟨FC, hFC⟩ : ∃ z, z = [Value.int .i32 ver, ui, u, Value.int .u32 lk] := ⟨_, rfl⟩
          have ro : VRow w5 GO 26 FC := by rw [hFC]; exact P5.out.o
          have rr : VRow w5 GR 26 ZT := by rw [HZT.out]; exact P5.out.r
          have HFS := Lib.hid (show (Tryd.prog.info? 26).map (·.size) = some FC.length by rw [hFC]; exact size_tx)
          have HFL := Lib.hid (show ZT.length = FC.length by rw [hFC, HZT.out]; rfl)
          obtain ⟨Ai, ci, hif⟩ := P5.out.ins.form
          obtain ⟨Ao, co, hof⟩ := P5.out.outs.form
          have HF1 := Lib.hid (show FC.toArray.all (·.oneCell') = true by rw [hFC, hif, hof]; exact arr_one (fun v hv => by simp only [List.mem_cons, List.not_mem_nil, or_false] at hv; rcases hv with rfl | rfl | rfl | rfl <;> rfl))
          have HFC := Lib.hid hFC
          have RO := Lib.hid ro
          have RR := Lib.hid rr
          clear hM hm hjn hP hj hFC ro rr hif hof
          go_wp2_with (first
            | (refine wpList_load_vrow rfl 26 (.tmp 3) rfl rfl RO.out Tryd.underlying26 HFS.out ?_)
            | (refine wpList_store_vrow rfl 26 (.tmp 2) _ rfl rfl rfl RR.out HFS.out HFL.out HF1.out ?_))
          refine bodyPost_ret (v := .agg FC.toArray) ?_ rfl ?_
          · obtain ⟨fr, hrw⟩ : ∃ fr, (w5.setRow GR FC.toArray).heap[GR]? = some (.cells FC.toArray 26 fr) := ⟨_, RR.out.setRow FC⟩
            exact results_cell_row Tryd.results10 _ _ GR 26 FC.toArray fr _ rfl hrw Tryd.underlying26 rfl (by rw [List.size_toArray]; exact HFS.out)
          · have tt : Turns (fun q => q = GR) w5 (w5.setRow GR FC.toArray) := Turns.setRow (S := fun q => q = GR) (Turns.refl _ w5) (fun _ => rfl) _
            have hc := RR.out
            have hS : ∀ k, k = GR → k < w5.heap.size → ∃ cs T m, w5.heap[k]? = some (.cells cs T m) ∧ 27 ≠ T ∧ 5 ≠ T := fun k q _ => by subst q; exact ⟨_, _, _, hc, by decide, by decide⟩
            refine ⟨ui, u, by rw [HFC.out, HVER.out, HLK.out]; rfl, X', Y', own_apart P5.out.ins tt (fun k q _ => by subst q; exact ⟨_, _, _, hc, by decide⟩), own_apart P5.out.outs tt (fun k q _ => by subst q; exact ⟨_, _, _, hc, by decide⟩), fun x hx => (P5.out.eI x hx).apart tt hS, fun y hy => (P5.out.eO y hy).apart tt hS, HMI.out, HMO.out, below_setRow P5.out.bel HNR.out _⟩
end Go.Proofs.YthelmclpmalofaaDoor
