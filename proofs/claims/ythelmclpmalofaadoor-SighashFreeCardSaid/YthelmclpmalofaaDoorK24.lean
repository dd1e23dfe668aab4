/-
  Texts joined: TvFx. Conditions: those of each.
-/
import Derived.Test.YthelmclpmalofaaDoorK23
/-
  The copy, when its parts may be another's. Conditions: none.
-/
namespace Go.Proofs.YthelmclpmalofaaDoor
open Go.RowKit

structure FX (w6 wx : World) (G : Nat) (ver lk : Int) (iv ov : Value) (X : List InV) (Y : List OutV) : Prop where
  t : VRow wx G 26 [.int .i32 ver, iv, ov, .int .u32 lk]
  hG : w6.heap.size ≤ G
  ki : ∀ W, Turns (fun q => q = G) wx W → InsR W W.heap.size iv X
  ko : ∀ W, Turns (fun q => q = G) wx W → OutsR W W.heap.size ov Y
  bel : Below w6.heap.size w6 wx
  lI : ∀ x ∈ X, x.p.sc.length ≤ 300
  lO : ∀ y ∈ Y, y.p.sc.length ≤ 300
section
variable {w6 wx w' : World} {G : Nat} {ver lk : Int} {iv ov : Value} {X : List InV} {Y : List OutV}
theorem FX.below (h : FX w6 wx G ver lk iv ov X Y) (hb : Below wx.heap.size wx w') : FX w6 w' G ver lk iv ov X Y :=
  ⟨h.t.below hb h.t.lt, h.hG, fun W hW => h.ki W ((Turns.of_below (S := fun q => q = G) hb).trans hW (fun _ _ q => q)), fun W hW => h.ko W ((Turns.of_below (S := fun q => q = G) hb).trans hW (fun _ _ q => q)), h.bel.trans (hb.mono h.bel.size), h.lI, h.lO⟩
theorem FX.of (h : XAt w6 wx G ver lk iv ov X Y) (lO : ∀ y ∈ Y, y.p.sc.length ≤ 300) : FX w6 wx G ver lk iv ov X Y := by
  have hS : ∀ k, k = G → k < wx.heap.size → ∃ cs T m, wx.heap[k]? = some (.cells cs T m) ∧ 27 ≠ T ∧ 5 ≠ T := fun k q _ => by subst q; exact ⟨_, _, _, h.t, by decide, by decide⟩
  refine ⟨h.t, h.hG, fun W hW => ?_, fun W hW => ?_, h.bel, fun x hx => (h.eI x hx).le, lO⟩
  · have hb : Below w6.heap.size w6 W := h.bel.trans (hW.below_of h.bel.size (fun q hq e => by have := h.hG; omega))
    exact ⟨RowR.of_own (own_apart h.ins hW (fun k q _ => by subst q; exact ⟨_, _, _, h.t, by decide⟩)), fun x hx => ((h.eI x hx).apart hW hS).is hb⟩
  · exact ⟨RowR.of_own (own_apart h.outs hW (fun k q _ => by subst q; exact ⟨_, _, _, h.t, by decide⟩)), fun y hy => ((h.eO y hy).apart hW hS).is⟩
theorem FX.putO (h : FX w6 wx G ver lk iv ov X Y) {vo : Value} {Y' : List OutV} (hk : ∀ W, Turns (fun q => q = G) wx W → OutsR W W.heap.size vo Y') (lO : ∀ y ∈ Y', y.p.sc.length ≤ 300) : FX w6 (wx.setCell ⟨G, 2, none⟩ vo) G ver lk iv vo X Y' := by
  have tt : Turns (fun q => q = G) wx (wx.setCell ⟨G, 2, none⟩ vo) := Turns.setCell (S := fun q => q = G) (Turns.refl _ wx) (p := ⟨G, 2, none⟩) (fun _ => rfl) _
  exact ⟨h.t.set 2 vo, h.hG, fun W hW => h.ki W (tt.trans hW (fun _ _ q => q)), fun W hW => hk W (tt.trans hW (fun _ _ q => q)), h.bel.setCell h.hG vo, h.lI, lO⟩
/-- What is older than the copy may be its outputs. -/
theorem FX.old (h : FX w6 wx G ver lk iv ov X Y) {vo : Value} {Y' : List OutV} (ho : OutsR w6 w6.heap.size vo Y') : ∀ W, Turns (fun q => q = G) wx W → OutsR W W.heap.size vo Y' := fun W hW => by
  have hb : Below w6.heap.size w6 W := h.bel.trans (hW.below_of h.bel.size (fun q hq e => by have := h.hG; omega))
  exact (ho.below hb).more hb.size
end
theorem fit10 {w : World} {B : Nat} {ver lk : Int} {iv ov : Value} {X : List InV} {Y : List OutV} (hI : InsR w B iv X) (hO : OutsR w B ov Y) (lI : ∀ x ∈ X, x.p.sc.length ≤ 300) (lO : ∀ y ∈ Y, y.p.sc.length ≤ 300) (hX : X.length ≤ 20) (hY : Y.length ≤ 20) : (TxP.mk ver (X.map (·.p)) (Y.map (·.p)) lk).fit := by
  refine ⟨by show (X.map (·.p)).length ≤ 20; rw [List.length_map]; exact hX, by show (Y.map (·.p)).length ≤ 20; rw [List.length_map]; exact hY, fun p hp => ?_, fun p hp => ?_⟩
  · obtain ⟨x, hx, rfl⟩ := List.mem_map.1 hp
    exact ⟨(hI.each x hx).ok, by have := lI x hx; omega⟩
  · obtain ⟨y, hy, rfl⟩ := List.mem_map.1 hp
    exact ⟨(hO.each y hy).ok, by have := lO y hy; omega⟩
theorem wpList_store_one {op : Oper} {ops : Array Oper} {rest : List Oper} {a : Act} {w : World} {Q : Exit → Act → World → Prop} (hgd : op.guard = none) (ty : TypeId) (x y : Operand) (ho : op.op = .store ty x y)
    {b o : Nat} {v old : Value} (hx : a.eval x = .pointer (some ⟨b, o, none⟩)) (hy : a.eval y = v) (hcs : v.cells = #[v]) (h1 : v.oneCell' = true) (hi : (Tryd.prog.info? ty).map (·.size) = some 1) (hc : w.cell? ⟨b, o, none⟩ = some old) (hf : w.frozen? ⟨b, o, none⟩ = false)
    (h : wpList Tryd.prog ops Q rest (a.put op.dst undef) (w.setCell ⟨b, o, none⟩ v)) : wpList Tryd.prog ops Q (op :: rest) a w :=
  wpList_plain hgd fun _ hK => wp_store_one ty x y ho hx hy hcs h1 hi hc hf (hK _ _ h)
/-- The outputs as far as the one that is signed, and another's. -/
theorem FX.src {w6 wx : World} {G n c m c4 I : Nat} {ver lk : Int} {iv : Value} {A A4 : Option Addr} {X : List InV} {Y YU : List OutV} (h : FX w6 wx G ver lk iv (.slice A n c) X Y) (hn : n = Y.length) (hI : I < n) (hU : OutsR w6 w6.heap.size (.slice A4 m c4) YU) (hm : m = YU.length) :
    ∃ b o D1 D2, A = some ⟨b, o, none⟩ ∧ D1 = (Y.take (I + 1)).flatMap outC ∧ D2 = YU.flatMap outC ∧ D1.length = (I + 1) * 2 ∧ D2.length = m * 2 ∧ (∀ u ∈ D1, u.oneCell' = true) ∧ (∀ u ∈ D2, u.oneCell' = true) ∧
      (∀ W, Below wx.heap.size wx W → (I + 1 ≠ 0 → ∃ b' o', (some ⟨b, o, none⟩ : Option Addr) = some ⟨b', o', none⟩ ∧ W.rangeAt b' o' D1)) ∧ (∀ W, Below wx.heap.size wx W → (m ≠ 0 → ∃ b' o', A4 = some ⟨b', o', none⟩ ∧ W.rangeAt b' o' D2)) := by
  have hO := h.ko wx (Turns.refl _ _)
  obtain ⟨b, o, hA, hb, hr⟩ := hO.src hn (by omega)
  have h1l : (Y.take (I + 1)).length = I + 1 := by rw [List.length_take]; omega
  refine ⟨b, o, _, _, hA, rfl, rfl, by rw [flat_len outC 2 _ (fun e _ => outC_length e), h1l], by rw [flat_len outC 2 _ (fun e _ => outC_length e), hm], one_of_outs (w := wx) (B := wx.heap.size) (fun x hx => hO.each x (List.mem_of_mem_take hx)), one_of_outs hU.each, fun W hW _ => ⟨b, o, rfl, fun q v hv => ?_⟩, fun W hW h0 => ?_⟩
  · refine (hW.cell (p := ⟨b, _, none⟩) hb).trans (hr q v ?_)
    rw [← flat_take outC 2 Y (fun e _ => outC_length e), List.getElem?_take] at hv
    split at hv
    · exact hv
    · cases hv
  · obtain ⟨b', o', e, hb', hr'⟩ := hU.src hm h0
    have hbb : Below w6.heap.size w6 W := h.bel.trans (hW.mono h.bel.size)
    exact ⟨b', o', e, fun q v hv => (hbb.cell (p := ⟨b', _, none⟩) hb').trans (hr' q v hv)⟩
theorem FX.mix {w6 wx x3 : World} {G I k : Nat} {ver lk : Int} {iv vo vo' v3 : Value} {X : List InV} {Y YU : List OutV} (h : FX w6 wx G ver lk iv vo X Y) (hb : Below wx.heap.size wx x3) (hI : I < Y.length) (hU : OutsR w6 w6.heap.size vo' YU) (lU : ∀ y ∈ YU, y.p.sc.length ≤ 300)
    (hk : k = I + 1 + YU.length) (ho : x3.ownsRow wx.heap.size 54 2 v3 k ((Y.take (I + 1)).flatMap outC ++ YU.flatMap outC)) : FX w6 (x3.setCell ⟨G, 2, none⟩ v3) G ver lk iv v3 X (Y.take (I + 1) ++ YU) := by
  have h3 := h.below hb
  refine h3.putO (fun W hW => ?_) (fun y hy => ?_)
  · have h1l : (Y.take (I + 1)).length = I + 1 := by rw [List.length_take]; omega
    have hown : OutsO x3 wx.heap.size v3 (Y.take (I + 1) ++ YU) := by
      unfold OutsO
      rw [List.length_append, h1l, List.flatMap_append, ← hk]
      exact ho
    refine ⟨RowR.of_own (own_apart hown hW (fun q e _ => by subst e; exact ⟨_, _, _, h3.t, by decide⟩)), fun y hy => ?_⟩
    rcases List.mem_append.1 hy with hy | hy
    · exact (h3.ko W hW).each y (List.mem_of_mem_take hy)
    · exact (h3.old hU W hW).each y hy
  · rcases List.mem_append.1 hy with hy | hy
    · exact h.lO y (List.mem_of_mem_take hy)
    · exact lU y hy
theorem OS.mix {I : Nat} {K : Int} {l l' m : List OutP} (h3 : chosenF K = 3) (hI : I < l'.length) (he : l' = l) : OS I K l (l'.take (I + 1) ++ m) := by
  subst he
  refine ⟨fun q => by rw [h3] at q; exact absurd q (by decide), fun _ => ?_⟩
  rw [List.getElem?_append_left (by rw [List.length_take]; omega), List.getElem?_take, if_pos (by omega)]
theorem run_zero_touts (W : World) : (Instr.buildSlice 23 0 #[]).run Tryd.prog W = .ok (.slice (some ⟨W.heap.size, 0, none⟩) 0 0) (W.alloc (.cells #[] 54)) := by kernel_rfl
theorem op_zero_touts {w : World} {o : Oper} {a : Act} {K : Act → World → Prop} {Q : Exit → Act → World → Prop} (ho : o.op = .buildSlice 23 0 #[])
    (h : K (a.put o.dst (.slice (some ⟨w.heap.size, 0, none⟩) 0 0)) (w.alloc (.cells #[] 54))) : o.wp Tryd.prog a w K Q := by
  have hrun := run_zero_touts w
  unfold Oper.wp execOp
  simp only [ho, List.map_toArray, List.map_nil, hrun, Sem.run_bind, Sem.run_pure, Result.andThen_ok]
  exact h
theorem wp_load_one {op : Oper} {a : Act} {w : World} {K : Act → World → Prop} {Q : Exit → Act → World → Prop} (x : Operand) (ho : op.op = .load 23 x)
    {b o : Nat} {v : Value} (hx : a.eval x = .pointer (some ⟨b, o, none⟩)) (hc : w.cell? ⟨b, o, none⟩ = some v) (h : K (a.put op.dst v) w) : op.wp Tryd.prog a w K Q := by
  have hagg : (isAgg 23).run Tryd.prog w = .ok false w := by
    unfold isAgg
    rw [Sem.run_bind, run_underlying Tryd.underlying23 w]
    rfl
  unfold Oper.wp execOp
  simp [ho, hx, Instr.loadAt, Instr.sureAddr, loadVar, hagg, run_load, hc]
  exact h
end Go.Proofs.YthelmclpmalofaaDoor
