/-
  Texts joined: TvKa, TvFm, TvFs. Conditions: those of each.
-/
import Derived.Test.YthelmclpmalofaaDoorK22
/-
  What is fixed of the signed digests (awake). Conditions: the roots are laid.
-/
namespace Go.Proofs.YthelmclpmalofaaDoor
open Go.RowKit

theorem wpList_wanted {ops : Array Oper} {rest : List Oper} {o : Oper} {a : Act} {w : World} {Q : Exit → Act → World → Prop} (hw : Region.wanted o (yielded ops a.tmps) = true)
    (h : ∀ K : Act → World → Prop, (∀ a w, wpList Tryd.prog ops Q rest a w → K a w) → o.wp Tryd.prog a w K Q) : wpList Tryd.prog ops Q (o :: rest) a w :=
  wpList_step fun K hK => by simp only [hw, if_true]; exact h K hK
theorem wpList_load_vrowg {ops : Array Oper} {rest : List Oper} {op : Oper} {a : Act} {w : World} {Q : Exit → Act → World → Prop} (hw : Region.wanted op (yielded ops a.tmps) = true) (ty : TypeId) (x : Operand) (ho : op.op = .load ty x)
    {g : Nat} {t : TypeId} {vs : List Value} {d : TypeDesc} (hx : a.eval x = .pointer (some ⟨g, 0, none⟩)) (h : VRow w g t vs) (hu : Tryd.prog.underlying ty = some d) (hd : d.isRow = true) (hi : (Tryd.prog.info? ty).map (·.size) = some vs.length)
    (hn : wpList Tryd.prog ops Q rest (a.put op.dst (.agg vs.toArray)) w) : wpList Tryd.prog ops Q (op :: rest) a w :=
  wpList_wanted hw fun _ hK => wp_load_mid ty x ho g 0 hx vs d (fun j v hv => by rw [Nat.zero_add]; exact h.cell hv) hu hd hi (hK _ _ hn)
theorem wpList_build_litg {ops : Array Oper} {rest : List Oper} {op : Oper} {a : Act} {w : World} {Q : Exit → Act → World → Prop} (hw : Region.wanted op (yielded ops a.tmps) = true) (ty : TypeId) (parts : Array (Nat × Operand)) (v : Value) (ho : op.op = .build ty parts)
    (hx : ∀ w, (Instr.build ty (parts.map fun p => (p.1, a.eval p.2))).run Tryd.prog w = .ok v w)
    (hn : wpList Tryd.prog ops Q rest (a.put op.dst v) w) : wpList Tryd.prog ops Q (op :: rest) a w :=
  wpList_wanted hw fun K hK => by
    unfold Oper.wp execOp
    have hx2 := hx w
    simp only [ho, hx2, Sem.run_bind, Sem.run_pure, Result.andThen_ok]
    exact hK _ _ hn
def p0 : InP := ⟨List.replicate 32 0, 0, [], 0, []⟩
def t0 : TxP := ⟨0, [p0], [], 0⟩
theorem p0_ok : p0.ok := ⟨rfl, by decide, by decide, by decide, by decide⟩
theorem t0_ok : t0.ok := ⟨by decide, by decide, by decide, by decide⟩
theorem t0_fit : t0.fit := ⟨by decide, by decide, fun p hp => by obtain rfl : p = p0 := (by simpa [t0] using hp); exact ⟨p0_ok, by decide⟩, fun p hp => absurd hp (by simp [t0])⟩
theorem legD_single : legD t0 0 [] 3 = oneB := by
  unfold legD
  rw [if_neg (fun h => absurd (h.2 (by decide)) (by decide))]
theorem legD_ne : (legD t0 0 [] 1 == oneB) = false := by decide +kernel
theorem inC_zero : inC (bareV p0) = zTin := rfl
theorem build_tin0 (W : World) : (Instr.build 49 #[]).run Tryd.prog W = .ok (.agg zTin.toArray) W := by kernel_rfl
theorem build_tx1 (A : Option Addr) (n c : Nat) (W : World) : (Instr.build 26 #[(1, .slice A n c)]).run Tryd.prog W = .ok (.agg [Value.int .i32 0, .slice A n c, .slice none 0 0, .int .u32 0].toArray) W := by kernel_rfl
set_option maxRecDepth 100000 in
set_option maxHeartbeats 3200000 in
theorem awake_any (w : World) (hroots : Roots w) : Calls Tryd.prog 7 #[] w fun e w' => e = .returned (.bool true) ∧ Below w.heap.size w w' := by
  have hbi := build_tin0
  obtain ⟨ZI, hZI⟩ : ∃ z, z = zTin := ⟨_, rfl⟩
  have HZL := Lib.hid (show ZI.length = 36 by rw [hZI]; rfl)
  rw [← hZI] at hbi
  have b1 : Below w.heap.size w (w.alloc (.cells ZI.toArray 49)) := (Below.refl _ w).alloc (Nat.le_refl _) _
  have r1 := VRow.new w 49 ZI
  have s1 : (w.alloc (.cells ZI.toArray 49)).heap.size = w.heap.size + 1 := by simp
  obtain ⟨w1, hw1⟩ : ∃ z, z = w.alloc (.cells ZI.toArray 49) := ⟨_, rfl⟩
  obtain ⟨G1, hG1⟩ : ∃ z, z = w.heap.size := ⟨_, rfl⟩
  rw [← hw1] at b1 r1 s1
  rw [← hG1] at r1 s1
  have HW1 := Lib.hid hw1
  have HG1 := Lib.hid hG1
  obtain ⟨TC, hTC⟩ : ∃ z, z = txC t0 (.slice (some ⟨G1, 0, none⟩) 1 1) (.slice none 0 0) := ⟨_, rfl⟩
  have hbx : ∀ W, (Instr.build 26 #[(1, .slice (some ⟨G1, 0, none⟩) 1 1)]).run Tryd.prog W = .ok (.agg TC.toArray) W := fun W => by rw [hTC]; exact build_tx1 _ _ _ W
  have HBI := Lib.hid hbi
  have HBX := Lib.hid hbx
  have HTS := Lib.hid (show (Tryd.prog.info? 26).map (·.size) = some TC.length by rw [hTC]; exact size_tx)
  obtain ⟨ZT, hZT⟩ : ∃ z, z = [Value.int .i32 0, .slice none 0 0, .slice none 0 0, .int .u32 0] := ⟨_, rfl⟩
  have hzt := zero_ttx
  rw [← hZT] at hzt
  have HTL := Lib.hid (show ZT.length = TC.length by rw [hTC, hZT]; rfl)
  have HT1 := Lib.hid (show TC.toArray.all (·.oneCell') = true by rw [hTC]; exact arr_one (fun v hv => by unfold txC at hv; simp only [List.mem_cons, List.not_mem_nil, or_false] at hv; rcases hv with rfl | rfl | rfl | rfl <;> rfl))
  have r2 := VRow.new w1 26 ZT
  have r3 := r2.setRow TC
  have b3 : Below w1.heap.size w1 ((w1.alloc (.cells ZT.toArray 26)).setRow w1.heap.size TC.toArray) := below_setRow ((Below.refl _ w1).alloc (Nat.le_refl _) _) (Nat.le_refl _) _
  obtain ⟨w2, hw2⟩ : ∃ z, z = (w1.alloc (.cells ZT.toArray 26)).setRow w1.heap.size TC.toArray := ⟨_, rfl⟩
  obtain ⟨G2, hG2⟩ : ∃ z, z = w1.heap.size := ⟨_, rfl⟩
  rw [← hw2] at r3 b3
  rw [← hG2] at r3 r2
  have R2 := Lib.hid r2
  have R3 := Lib.hid r3
  have HW2 := Lib.hid hw2
  have HG2 := Lib.hid hG2
  have HB2 := Lib.hid (show Below w.heap.size w w2 from b1.trans (b3.mono b1.size))
  have hT2 : TxR w2 w2.heap.size t0 (.slice (some ⟨G1, 0, none⟩) 1 1) (.slice none 0 0) [bareV p0] [] := by
    have r1' := r1.below b3 r1.lt
    refine ⟨t0_ok, ⟨⟨_, _, rfl, Nat.le_refl _, by unfold maxLen; omega, fun _ => ⟨G1, 0, rfl, r1'.lt, ?_⟩⟩, fun x hx => ?_⟩, OutsR.nil _ _, rfl, rfl⟩
    · rw [List.flatMap_cons, List.flatMap_nil, List.append_nil, inC_zero, ← hZI]
      exact r1'.range (fun j v hv => by rw [Nat.zero_add]; exact hv)
    · obtain rfl : x = bareV p0 := (by simpa using hx)
      exact bareV_is p0_ok rfl rfl
  have HC3 := Lib.hid (show ∀ W, Below w2.heap.size w2 W → Calls Tryd.prog 12 #[.agg TC.toArray, .int .i64 0, .slice none 0 0, .int .u8 3] W fun e w' => e = .returned (digV oneB) ∧ Below W.heap.size W w' from fun W hW => by
    have q := legacyA_any w2.heap.size t0 _ _ (.slice none 0 0) [bareV p0] [] 0 [] 3 W (hT2.below hW) (Byt.nil W _) hW.size t0_fit (by decide) (by decide) (by decide) (by decide) ((hroots.below HB2.out).below hW)
    rw [legD_single, ← hTC] at q
    exact q)
  have HC1 := Lib.hid (show ∀ W, Below w2.heap.size w2 W → Calls Tryd.prog 12 #[.agg TC.toArray, .int .i64 0, .slice none 0 0, .int .u8 1] W fun e w' => e = .returned (digV (legD t0 0 [] 1)) ∧ Below W.heap.size W w' from fun W hW => by
    have q := legacyA_any w2.heap.size t0 _ _ (.slice none 0 0) [bareV p0] [] 0 [] 1 W (hT2.below hW) (Byt.nil W _) hW.size t0_fit (by decide) (by decide) (by decide) (by decide) ((hroots.below HB2.out).below hW)
    rw [← hTC] at q
    exact q)
  have heq1 := fun W => eq_32 oneB oneB rfl rfl W
  have heq2 := fun W => eq_32 _ _ (legD_len t0 0 [] 1) (rfl : oneB.length = 32) W
  rw [legD_ne] at heq2
  simp only [beq_self_eq_true] at heq1
  have hb1 := build_one
  obtain ⟨DV, hDV⟩ : ∃ V : Array Value, Value.agg V = digV (legD t0 0 [] 1) := ⟨_, rfl⟩
  obtain ⟨OV, hOV⟩ : ∃ V : Array Value, Value.agg V = digV oneB := ⟨_, rfl⟩
  rw [← hDV] at HC1 heq2
  simp only [← hOV] at HC3 heq1 heq2 hb1
  have HE1 := Lib.hid heq1
  have HE2 := Lib.hid heq2
  have HBO := Lib.hid hb1
  have HK1 := Lib.hid (fun W => known_any 131 W (by decide) (by decide))
  have HK2 := Lib.hid (fun W => known_any 4 W (by decide) (by decide))
  clear hT2 hb1 heq1 heq2 b1 b3 r1 r2 r3 s1 hw1 hw2 hG1 hG2 hTC hZT hZI hbi hbx hroots hDV hOV
  go_enter Tryd.func7, Tryd.ntmps7
  go_upto_region 2 with (first
    | (refine wpList_build_lit rfl 49 _ (.agg ZI.toArray) rfl (fun W => by (simp only [List.map_toArray, List.map_nil]; exact HBI.out W)) ?_)
    | (refine wpList_one_tin rfl (.tmp 2) rfl ZI rfl HZL.out ?_; rw [← HW1.out, show w.heap.size = G1 from HG1.out.symm])
    | (refine wpList_build_lit rfl 26 _ (.agg TC.toArray) rfl (fun W => by (simp only [List.map_toArray, List.map_cons, List.map_nil]; exact HBX.out W)) ?_)
    | (refine wpList_store_vrow rfl 26 (.tmp 1) (.tmp 4) rfl rfl rfl (VRow.new _ _ ZT) HTS.out HTL.out HT1.out ?_))
  change Code.wp _ _ _ _ ((w1.alloc (.cells ZT.toArray 26)).setRow w1.heap.size TC.toArray)
  rw [← HW2.out, show w1.heap.size = G2 from HG2.out.symm]
  try dsimp only [Act.put]
  clear HW1 HW2 R2
  have he1 := HE1.out
  have he2 := HE2.out
  go_wp2_with (first
    | (refine wpList_load_vrow rfl 26 (.tmp 1) rfl rfl R3.out Tryd.underlying26 HTS.out ?_))
  refine (HC3.out w2 (Below.refl _ _)).mono ?_
  rintro e w3 ⟨rfl, hb3⟩
  have R3' := Lib.hid (R3.out.below hb3 R3.out.lt)
  have HB3 := Lib.hid hb3
  clear hb3
  go_wp2_with (first
    | (refine wpList_build_lit rfl 36 _ (.agg OV) rfl (fun W => by (simp only [List.map_toArray, List.map_cons, List.map_nil]; exact HBO.out W)) ?_)
    | (refine wpList_load_vrowg (by rfl) 26 (.tmp 1) rfl rfl R3'.out Tryd.underlying26 rfl HTS.out ?_))
  refine (HC1.out w3 HB3.out).mono ?_
  rintro e w4 ⟨rfl, hb4⟩
  have HB4 := Lib.hid (HB3.out.trans (hb4.mono HB3.out.size))
  clear hb4
  go_wp2_with (first
    | (refine wpList_build_litg (by rfl) 36 _ (.agg OV) rfl (fun W => by (simp only [List.map_toArray, List.map_cons, List.map_nil]; exact HBO.out W)) ?_))
  refine (HK1.out w4).mono ?_
  rintro e w5 ⟨rfl, rfl⟩
  rw [show knownF 131 = true by decide]
  go_wp2_with fail
  refine (HK2.out w4).mono ?_
  rintro e w5 ⟨rfl, rfl⟩
  rw [show knownF 4 = false by decide]
  go_wp2_with fail
  go_ret
  exact ⟨rfl, HB2.out.trans (HB4.out.mono HB2.out.size)⟩
end Go.Proofs.YthelmclpmalofaaDoor

/-
  What isn't signed may change: in plain words, and in memory. Conditions: none.
-/
namespace Go.Proofs.YthelmclpmalofaaDoor
open Go.RowKit

/-- What is signed of the inputs is the same. -/
structure SS (I : Nat) (K : Int) (l l' : List InP) : Prop where
  len : l.length ≤ l'.length
  lenA : aloneF K = false → l'.length = l.length
  same : ∀ (k : Nat) (p : InP), l[k]? = some p → ∃ p', l'[k]? = some p' ∧ (k = I → p'.h = p.h ∧ p'.ix = p.ix ∧ p'.sq = p.sq) ∧ (aloneF K = false → p'.h = p.h ∧ p'.ix = p.ix ∧ (chosenF K = 1 → p'.sq = p.sq))
theorem SS.refl (I : Nat) (K : Int) (l : List InP) : SS I K l l := ⟨Nat.le_refl _, fun _ => rfl, fun _ p h => ⟨p, h, fun _ => ⟨rfl, rfl, rfl⟩, fun _ => ⟨rfl, rfl, fun _ => rfl⟩⟩⟩
theorem SS.set {I : Nat} {K : Int} {l l' : List InP} (h : SS I K l l') {k : Nat} {q q' : InP} (hq : l'[k]? = some q) (c1 : k = I → q'.h = q.h ∧ q'.ix = q.ix ∧ q'.sq = q.sq) (c2 : aloneF K = false → q'.h = q.h ∧ q'.ix = q.ix ∧ (chosenF K = 1 → q'.sq = q.sq)) : SS I K l (l'.set k q') := by
  refine ⟨by rw [List.length_set]; exact h.len, fun ha => by rw [List.length_set]; exact h.lenA ha, fun j p hp => ?_⟩
  obtain ⟨p', hp', a1, a2⟩ := h.same j p hp
  by_cases e : k = j
  · subst e
    rw [hq] at hp'
    obtain rfl := Option.some.inj hp'
    refine ⟨q', by rw [List.getElem?_set_self (List.getElem?_eq_some_iff.1 hq).1], fun hk => ?_, fun ha => ?_⟩
    · obtain ⟨x1, x2, x3⟩ := a1 hk
      obtain ⟨y1, y2, y3⟩ := c1 hk
      exact ⟨y1.trans x1, y2.trans x2, y3.trans x3⟩
    · obtain ⟨x1, x2, x3⟩ := a2 ha
      obtain ⟨y1, y2, y3⟩ := c2 ha
      exact ⟨y1.trans x1, y2.trans x2, fun hc => (y3 hc).trans (x3 hc)⟩
  · exact ⟨p', by rw [List.getElem?_set_ne e]; exact hp', a1, a2⟩
theorem SS.app {I : Nat} {K : Int} {l l' : List InP} (h : SS I K l l') (ha : aloneF K = true) (m : List InP) : SS I K l (l' ++ m) := by
  refine ⟨by rw [List.length_append]; have := h.len; omega, fun hf => by rw [ha] at hf; exact absurd hf (by decide), fun j p hp => ?_⟩
  obtain ⟨p', hp', a1, a2⟩ := h.same j p hp
  exact ⟨p', by rw [List.getElem?_append_left (List.getElem?_eq_some_iff.1 hp').1]; exact hp', a1, a2⟩
theorem SS.leg {I : Nat} {K : Int} {l l' : List InP} (h : SS I K l l') (hI : I < l.length) (sc : List UInt8) : legIns l' I sc K = legIns l I sc K := by
  obtain ⟨p, hp⟩ : ∃ p, l[I]? = some p := ⟨_, List.getElem?_eq_getElem hI⟩
  obtain ⟨p', hp', h1, _⟩ := h.same I p hp
  obtain ⟨e1, e2, e3⟩ := h1 rfl
  have ho : ownP sc p' = ownP sc p := by unfold ownP; rw [e1, e2, e3]
  cases ha : aloneF K
  · rw [legIns_all hp' ha, legIns_all hp ha, ho]
    have hm : l'.map (otherP K) = l.map (otherP K) := by
      apply List.ext_getElem?
      intro k
      rw [List.getElem?_map, List.getElem?_map]
      cases hk : l[k]? with
      | none =>
        have := h.lenA ha
        rw [List.getElem?_eq_none (by have := List.getElem?_eq_none_iff.1 hk; omega)]
      | some q =>
        obtain ⟨q', hq', _, h2⟩ := h.same k q hk
        obtain ⟨a1, a2, a3⟩ := h2 ha
        rw [hq']
        show some (otherP K q') = some (otherP K q)
        unfold otherP
        rw [a1, a2]
        by_cases c : chosenF K = 1
        · rw [if_pos c, if_pos c, a3 c]
        · rw [if_neg c, if_neg c]
    rw [hm]
  · rw [legIns_alone hp' ha, legIns_alone hp ha, ho]
theorem SS.flat {I : Nat} {K : Int} {l l' : List InP} (h : SS I K l l') (ha : aloneF K = false) (f : InP → List UInt8) (hf : ∀ p p' : InP, p'.h = p.h → p'.ix = p.ix → (chosenF K = 1 → p'.sq = p.sq) → f p' = f p) : l'.flatMap f = l.flatMap f := by
  have hm : l'.map f = l.map f := by
    apply List.ext_getElem?
    intro k
    rw [List.getElem?_map, List.getElem?_map]
    cases hk : l[k]? with
    | none =>
      have := h.lenA ha
      rw [List.getElem?_eq_none (by have := List.getElem?_eq_none_iff.1 hk; omega)]
    | some q =>
      obtain ⟨q', hq', _, h2⟩ := h.same k q hk
      obtain ⟨a1, a2, a3⟩ := h2 ha
      rw [hq']
      show some (f q') = some (f q)
      rw [hf q q' a1 a2 a3]
  rw [List.flatMap_def, List.flatMap_def, hm]
theorem SS.prevs {I : Nat} {K : Int} {l l' : List InP} (h : SS I K l l') : prevsD l' K = prevsD l K := by
  unfold prevsD
  by_cases ha : aloneF K = true
  · rw [if_pos ha, if_pos ha]
  · rw [if_neg ha, if_neg ha, h.flat (by simpa using ha) prevB (fun p p' e1 e2 _ => by unfold prevB; rw [e1, e2])]
theorem SS.seqs {I : Nat} {K : Int} {l l' : List InP} (h : SS I K l l') : seqsD l' K = seqsD l K := by
  unfold seqsD
  by_cases ha : aloneF K = true ∨ chosenF K ≠ 1
  · rw [if_pos ha, if_pos ha]
  · have hc : chosenF K = 1 := Decidable.byContradiction fun q => ha (.inr q)
    have hf : aloneF K = false := by
      cases he : aloneF K
      · rfl
      · exact absurd (.inl he) ha
    rw [if_neg ha, if_neg ha, h.flat hf seqB (fun p p' _ _ e3 => by unfold seqB; rw [e3 hc])]
/-- What is signed of the outputs is the same. -/
structure OS (I : Nat) (K : Int) (l l' : List OutP) : Prop where
  all : chosenF K = 1 → l' = l
  one : chosenF K = 3 → l'[I]? = l[I]?
theorem OS.refl (I : Nat) (K : Int) (l : List OutP) : OS I K l l := ⟨fun _ => rfl, fun _ => rfl⟩
theorem OS.leg {I : Nat} {K : Int} {l l' : List OutP} (h : OS I K l l') : legOuts l' I K = legOuts l I K := by
  unfold legOuts
  rcases chosen_is K with c | c | c
  · rw [c, if_neg (by decide), if_neg (by decide), if_neg (by decide), if_neg (by decide), h.all c]
  · rw [c, if_pos rfl, if_pos rfl]
  · rw [c, if_neg (by decide), if_pos rfl, if_neg (by decide), if_pos rfl, h.one c]
theorem OS.lt {I : Nat} {K : Int} {l l' : List OutP} (h : OS I K l l') (c : chosenF K = 3) : I < l'.length ↔ I < l.length := by
  have e := h.one c
  constructor
  · intro q
    rw [List.getElem?_eq_getElem q] at e
    exact (List.getElem?_eq_some_iff.1 e.symm).1
  · intro q
    rw [List.getElem?_eq_getElem q] at e
    exact (List.getElem?_eq_some_iff.1 e).1
theorem OS.outs {I : Nat} {K : Int} {l l' : List OutP} (h : OS I K l l') : outsD l' (I : Int) K = outsD l (I : Int) K := by
  unfold outsD
  rcases chosen_is K with c | c | c
  · rw [if_pos c, if_pos c, h.all c]
  · have q1 : ¬ chosenF K = 1 := by rw [c]; decide
    have q2 : ¬ (chosenF K = 3 ∧ 0 ≤ (I : Int)) := fun q => by rw [c] at q; exact absurd q.1 (by decide)
    rw [if_neg q1, if_neg q1, if_neg q2, if_neg q2]
  · have q1 : ¬ chosenF K = 1 := by rw [c]; decide
    have q2 : chosenF K = 3 ∧ 0 ≤ (I : Int) := ⟨c, by omega⟩
    rw [if_neg q1, if_neg q1, if_pos q2, if_pos q2, Int.toNat_natCast, h.one c]
theorem legD_free {I : Nat} {K : Int} {t x : TxP} (hi : SS I K t.ins x.ins) (ho : OS I K t.outs x.outs) (hv : x.ver = t.ver) (hl : x.lock = t.lock) (hI : I < t.ins.length) (sc : List UInt8) : legD x (I : Int) sc K = legD t (I : Int) sc K := by
  have h1 := hi.len
  have hb : legB x I sc K = legB t I sc K := by
    unfold legB legTx
    rw [hi.leg hI, ho.leg, hv, hl]
  unfold legD
  by_cases c : chosenF K = 3 → I < t.outs.length
  · rw [if_pos ⟨⟨by omega, by omega⟩, fun q => by have := (ho.lt q).2 (c q); omega⟩, if_pos ⟨⟨by omega, by omega⟩, fun q => by have := c q; omega⟩, Int.toNat_natCast, hb]
  · rw [if_neg (fun q => c (fun z => by have := (ho.lt z).1 (by have := q.2 z; omega); exact this)), if_neg (fun q => c (fun z => by have := q.2 z; omega))]
theorem witD_free {I : Nat} {K : Int} {t x : TxP} (hi : SS I K t.ins x.ins) (ho : OS I K t.outs x.outs) (hv : x.ver = t.ver) (hl : x.lock = t.lock) (hI : I < t.ins.length) (sc : List UInt8) (val : Int) : witD x (I : Int) sc val K = witD t (I : Int) sc val K := by
  obtain ⟨p, hp⟩ : ∃ p, t.ins[I]? = some p := ⟨_, List.getElem?_eq_getElem hI⟩
  obtain ⟨p', hp', h1, _⟩ := hi.same I p hp
  obtain ⟨e1, e2, e3⟩ := h1 rfl
  unfold witD
  rw [if_pos (by omega), if_pos (by omega), Int.toNat_natCast, hp, hp', hi.prevs, hi.seqs, ho.outs]
  show sha256 (sha256 (witM x p' _ _ _ _ _ _)) = sha256 (sha256 (witM t p _ _ _ _ _ _))
  unfold witM prevB seqB
  rw [e1, e2, e3, hl]
  unfold headB
  rw [hv]

/-- An input of the copy: what lies behind it is the copy's own, or older. -/
structure Mx (w6 wr : World) (x : InV) : Prop where
  ok : x.p.ok
  sc : OwnB wr w6.heap.size x.sv x.p.sc ∨ Byt w6 w6.heap.size x.sv x.p.sc
  wt : BagAt wr w6.heap.size x.wv x.wl ∨ BagR w6 w6.heap.size x.wv x.wl
  eq : x.wl.map (·.2) = x.p.wt
  le : x.p.sc.length ≤ 300
theorem Mx.apart {w6 wr w' : World} {x : InV} {S : Nat → Prop} (h : Mx w6 wr x) (ht : Turns S wr w') (hS : ∀ k, S k → k < wr.heap.size → ∃ cs T m, wr.heap[k]? = some (.cells cs T m) ∧ 27 ≠ T ∧ 5 ≠ T) : Mx w6 w' x :=
  ⟨h.ok, h.sc.imp (fun q => own_apart q ht (fun k hk hl => by obtain ⟨cs, T, m, e, _, n2⟩ := hS k hk hl; exact ⟨cs, T, m, e, n2⟩)) id, h.wt.imp (fun q => bag_apart q ht hS) id, h.eq, h.le⟩
theorem Mx.is {w6 wr : World} {x : InV} (h : Mx w6 wr x) (hb : Below w6.heap.size w6 wr) : InIs wr wr.heap.size x :=
  ⟨h.ok, h.sc.elim Byt.of_own (fun q => (q.below hb).more hb.size), h.wt.elim BagAt.toR (fun q => (q.below hb).more hb.size), h.eq⟩
theorem Mx.of_El {w6 wr : World} {x : InV} (h : El wr w6.heap.size x) (hl : x.p.sc.length ≤ 300) : Mx w6 wr x := ⟨h.ok, .inl h.sc, .inl h.wt, h.eq, hl⟩
theorem Mx.of_In {w6 wr : World} {x : InV} (h : InIs w6 w6.heap.size x) (hl : x.p.sc.length ≤ 300) : Mx w6 wr x := ⟨h.ok, .inr h.sc, .inr h.wt, h.eq, hl⟩

/-- The copy in memory. -/
structure XAt (w6 wr : World) (G : Nat) (ver lk : Int) (iv ov : Value) (X : List InV) (Y : List OutV) : Prop where
  t : VRow wr G 26 [.int .i32 ver, iv, ov, .int .u32 lk]
  hG : w6.heap.size ≤ G
  ins : InsO wr w6.heap.size iv X
  outs : OutsO wr w6.heap.size ov Y
  eI : ∀ x ∈ X, Mx w6 wr x
  eO : ∀ y ∈ Y, ElO wr w6.heap.size y
  bel : Below w6.heap.size w6 wr
section
variable {w6 wr w' : World} {G : Nat} {ver lk : Int} {iv ov : Value} {X : List InV} {Y : List OutV}
theorem XAt.drew (h : XAt w6 wr G ver lk iv ov X Y) : XAt w6 wr.drew G ver lk iv ov X Y :=
  ⟨h.t, h.hG, h.ins, h.outs, fun x hx => (h.eI x hx).apart (Turns.of_below (S := fun _ => False) (Below.refl _ wr).drew) none_apart, fun x hx => (h.eO x hx).apart (Turns.of_below (S := fun _ => False) (Below.refl _ wr).drew) none_apart, h.bel.drew⟩
/-- Cells of the inputs' row are written. -/
theorem XAt.row {g n c : Nat} {X' : List InV} (h : XAt w6 wr G ver lk (.slice (some ⟨g, 0, none⟩) n c) ov X Y) (tt : Turns (fun q => q = g) wr w') (hI : InsO w' w6.heap.size (.slice (some ⟨g, 0, none⟩) n c) X') (eX : ∀ x ∈ X', Mx w6 wr x) :
    XAt w6 w' G ver lk (.slice (some ⟨g, 0, none⟩) n c) ov X' Y := by
  have hgl := h.ins.lt g rfl
  obtain ⟨cs, hgt⟩ : ∃ cs, wr.heap[g]? = some (.cells cs 49 (0, 0)) := by
    rcases h.ins.2 with ⟨e, _⟩ | ⟨g', cap, cur, e, _, hg, _⟩
    · cases e
    · injection e with e _ _
      injection e with e
      injection e with e
      subst e
      exact ⟨_, hg⟩
  have hS : ∀ k, k = g → k < wr.heap.size → ∃ cs T m, wr.heap[k]? = some (.cells cs T m) ∧ 27 ≠ T ∧ 5 ≠ T := fun k q _ => by subst q; exact ⟨_, _, _, hgt, by decide, by decide⟩
  have hne : ¬ G = g := fun e => by
    subst e
    have hr' : wr.heap[G]? = _ := h.t
    rw [hr'] at hgt
    injection hgt with hgt
    injection hgt with _ hgt
    exact absurd hgt (by decide)
  exact ⟨h.t.turns tt hne, h.hG, hI, own_apart h.outs tt (fun k q _ => by subst q; exact ⟨_, _, _, hgt, by decide⟩), fun y hy => (eX y hy).apart tt hS, fun y hy => (h.eO y hy).apart tt hS, h.bel.trans (tt.below_of h.bel.size (fun q _ e => by subst e; exact absurd hgl.1 (by omega)))⟩
theorem XAt.setI {g c i j : Nat} {x x' : InV} {u : Value} (h : XAt w6 wr G ver lk (.slice (some ⟨g, 0, none⟩) X.length c) ov X Y) (hi : X[i]? = some x) (hj : j < 36) (hx : inC x' = (inC x).set j u) (he : Mx w6 wr x') :
    XAt w6 (wr.setCell ⟨g, i * 36 + j, none⟩ u) G ver lk (.slice (some ⟨g, 0, none⟩) X.length c) ov (X.set i x') Y := by
  refine XAt.row h (Turns.setCell (S := fun q => q = g) (Turns.refl _ wr) (p := ⟨g, _, none⟩) (fun _ => rfl) _) ?_ (fun y hy => ?_)
  · have q := (World.ownsRow.stored h.ins (i * 36 + j) u).1
    rw [flat_set inC 36 X (fun e he => inC_length (h.eI e he).ok) i x x' j u hi hj hx] at q
    unfold InsO
    rw [List.length_set]
    exact q
  · rcases List.mem_or_eq_of_mem_set hy with hy | rfl
    · exact h.eI y hy
    · exact he
theorem flat_part {α : Type} (f : α → List Value) (n m : Nat) (C : List Value) : ∀ (X : List α), (∀ e ∈ X, (f e).length = n) → ∀ (i : Nat) (e e' : α), X[i]? = some e → C.length = m → m ≤ n → f e' = C ++ (f e).drop m → (X.flatMap f).take (i * n) ++ C ++ (X.flatMap f).drop (i * n + C.length) = (X.set i e').flatMap f
  | [], _, i, e, _, h, _, _, _ => by simp at h
  | a :: X, hf, 0, e, e', h, hC, hm, he => by
    obtain rfl : a = e := by simpa using h
    have ha := hf a (by simp)
    rw [List.flatMap_cons, Nat.zero_mul, List.take_zero, List.nil_append, List.set_cons_zero, List.flatMap_cons, he, Nat.zero_add, List.drop_append, hC, ha, show m - n = 0 by omega, List.drop_zero, List.append_assoc]
  | a :: X, hf, i + 1, e, e', h, hC, hm, he => by
    have h' : X[i]? = some e := by simpa using h
    have ha := hf a (by simp)
    have ih := flat_part f n m C X (fun e he => hf e (by simp [he])) i e e' h' hC hm he
    rw [List.flatMap_cons, List.set_cons_succ, List.flatMap_cons, ← ih, List.take_append, List.drop_append, ha, List.take_of_length_le (by rw [ha, Nat.add_mul]; omega), List.drop_of_length_le (by rw [ha, Nat.add_mul]; omega),
      show (i + 1) * n - n = i * n by rw [Nat.add_mul]; omega, show (i + 1) * n + C.length - n = i * n + C.length by rw [Nat.add_mul]; omega]
    simp only [List.nil_append, List.append_assoc]
theorem XAt.setP {g c i : Nat} {x x' : InV} {O : List Value} (h : XAt w6 wr G ver lk (.slice (some ⟨g, 0, none⟩) X.length c) ov X Y) (hi : X[i]? = some x) (hO : O.length = 33) (hx : inC x' = O ++ (inC x).drop 33) (he : Mx w6 wr x') :
    XAt w6 (wr.setCells g (i * 36) O) G ver lk (.slice (some ⟨g, 0, none⟩) X.length c) ov (X.set i x') Y := by
  refine XAt.row h (Turns.setCells (S := fun q => q = g) (fun _ => rfl) O (Turns.refl _ wr)) ?_ (fun y hy => ?_)
  · have hfl := flat_len inC 36 X (fun e he => inC_length (h.eI e he).ok)
    have hil := (List.getElem?_eq_some_iff.1 hi).1
    have q := ownsRow_setCells O (o := i * 36) h.ins (by rw [hO, hfl]; omega)
    rw [flat_part inC 36 33 O X (fun e he => inC_length (h.eI e he).ok) i x x' hi hO (by decide) hx] at q
    unfold InsO
    rw [List.length_set]
    exact q
  · rcases List.mem_or_eq_of_mem_set hy with hy | rfl
    · exact h.eI y hy
    · exact he
theorem XAt.cellI {g c i j : Nat} {x : InV} {v : Value} (h : XAt w6 wr G ver lk (.slice (some ⟨g, 0, none⟩) X.length c) ov X Y) (hi : X[i]? = some x) (hv : (inC x)[j]? = some v) : wr.cell? ⟨g, i * 36 + j, none⟩ = some v ∧ wr.frozen? ⟨g, i * 36 + j, none⟩ = false := by
  have hx := flat_in inC 36 X (fun e he => inC_length (h.eI e he).ok) i x hi j v hv
  have hl := (List.getElem?_eq_some_iff.1 hx).1
  have hf := flat_len inC 36 X (fun e he => inC_length (h.eI e he).ok)
  exact ⟨(World.ownsRow.cellAt h.ins _ (by omega)).trans hx, World.ownsRow.frozenAt h.ins _⟩
end
end Go.Proofs.YthelmclpmalofaaDoor

/-
  A store of one cell, as a step. Conditions: none.
-/
namespace Go.Proofs.YthelmclpmalofaaDoor
open Go.RowKit

theorem run_store_one {w : World} {ty : TypeId} {b o : Nat} {v old : Value} (hcs : v.cells = #[v]) (h1 : v.oneCell' = true) (hi : (Tryd.prog.info? ty).map (·.size) = some 1) (hc : w.cell? ⟨b, o, none⟩ = some old) (hf : w.frozen? ⟨b, o, none⟩ = false) :
    (Instr.storeAt ty (.pointer (some ⟨b, o, none⟩)) v).run Tryd.prog w = .ok () (w.setCell ⟨b, o, none⟩ v) := by
  cases hq : Tryd.prog.info? ty with
  | none => rw [hq] at hi; cases hi
  | some i =>
    have hs : i.size = 1 := by rw [hq] at hi; simpa using hi
    have ha : (⟨b, o, none⟩ : Addr).add 0 = ⟨b, o, none⟩ := by unfold Addr.add; simp
    simp [Instr.storeAt, Instr.sureAddr, storeVar, hcs, sizeOf, typeInfo, hq, hs, storeCells, run_store, h1, hc, hf, ha]
theorem wp_store_one {op : Oper} {a : Act} {w : World} {K : Act → World → Prop} {Q : Exit → Act → World → Prop} (ty : TypeId) (x y : Operand) (ho : op.op = .store ty x y)
    {b o : Nat} {v old : Value} (hx : a.eval x = .pointer (some ⟨b, o, none⟩)) (hy : a.eval y = v) (hcs : v.cells = #[v]) (h1 : v.oneCell' = true) (hi : (Tryd.prog.info? ty).map (·.size) = some 1) (hc : w.cell? ⟨b, o, none⟩ = some old) (hf : w.frozen? ⟨b, o, none⟩ = false)
    (h : K (a.put op.dst undef) (w.setCell ⟨b, o, none⟩ v)) : op.wp Tryd.prog a w K Q := by
  unfold Oper.wp execOp
  simp only [ho, hx, hy, run_store_one hcs h1 hi hc hf, Sem.run_bind, Sem.run_pure, Result.andThen_ok]
  exact h
theorem size_bs : (Tryd.prog.info? 27).map (·.size) = some 1 := by kernel_rfl
theorem size_bag : (Tryd.prog.info? 47).map (·.size) = some 1 := by kernel_rfl
theorem size_u32 : (Tryd.prog.info? 24).map (·.size) = some 1 := by kernel_rfl
theorem size_tins : (Tryd.prog.info? 22).map (·.size) = some 1 := by kernel_rfl
theorem size_touts : (Tryd.prog.info? 23).map (·.size) = some 1 := by kernel_rfl

def xSc (x q : InV) : InV := ⟨{ x.p with sc := q.p.sc }, q.sv, x.wv, x.wl⟩
def xWt (x q : InV) : InV := ⟨{ x.p with wt := q.p.wt }, x.sv, q.wv, q.wl⟩
def xSq (x q : InV) : InV := ⟨{ x.p with sq := q.p.sq }, x.sv, x.wv, x.wl⟩
def xPr (x q : InV) : InV := ⟨{ x.p with h := q.p.h, ix := q.p.ix }, x.sv, x.wv, x.wl⟩
theorem inC_set34 {x : InV} (h : x.p.ok) (z : Int) : inC ⟨{ x.p with sq := z }, x.sv, x.wv, x.wl⟩ = (inC x).set 34 (.int .u32 z) := by
  have hl : (x.p.h.map bv).length = 32 := by rw [List.length_map, h.hl]
  unfold inC
  rw [List.set_append_right _ _ (by omega), hl]
  rfl
theorem inC_pr {x q : InV} (h : x.p.ok) : inC (xPr x q) = opC q.p.h q.p.ix ++ (inC x).drop 33 := by
  rw [inC_op, inC_op x, List.drop_append, opC_length _ h.hl, List.drop_of_length_le (by rw [opC_length _ h.hl]; omega), Nat.sub_self, List.drop_zero, List.nil_append]
  rfl
section
variable {w6 wr : World} {G n : Nat} {ver lk : Int} {ov : Value} {X : List InV} {Y : List OutV} {g c i : Nat} {x q : InV}
theorem XAt.putSc (h : XAt w6 wr G ver lk (.slice (some ⟨g, 0, none⟩) n c) ov X Y) (hn : X.length = n) (hi : X[i]? = some x) (hq : InIs w6 w6.heap.size q) (hle : q.p.sc.length ≤ 300) :
    XAt w6 (wr.setCell ⟨g, i * 36 + 33, none⟩ q.sv) G ver lk (.slice (some ⟨g, 0, none⟩) n c) ov (X.set i (xSc x q)) Y := by
  subst hn
  have hx := h.eI x (List.mem_of_getElem? hi)
  exact h.setI hi (by decide) (inC_set33 hx.ok _ _) ⟨⟨hx.ok.hl, hx.ok.ix0, hx.ok.ix1, hx.ok.sq0, hx.ok.sq1⟩, .inr hq.sc, hx.wt, hx.eq, hle⟩
theorem XAt.putWt (h : XAt w6 wr G ver lk (.slice (some ⟨g, 0, none⟩) n c) ov X Y) (hn : X.length = n) (hi : X[i]? = some x) (hq : InIs w6 w6.heap.size q) :
    XAt w6 (wr.setCell ⟨g, i * 36 + 35, none⟩ q.wv) G ver lk (.slice (some ⟨g, 0, none⟩) n c) ov (X.set i (xWt x q)) Y := by
  subst hn
  have hx := h.eI x (List.mem_of_getElem? hi)
  exact h.setI hi (by decide) (inC_set35 hx.ok _ _ _) ⟨⟨hx.ok.hl, hx.ok.ix0, hx.ok.ix1, hx.ok.sq0, hx.ok.sq1⟩, hx.sc, .inr hq.wt, hq.eq, hx.le⟩
theorem XAt.putSq (h : XAt w6 wr G ver lk (.slice (some ⟨g, 0, none⟩) n c) ov X Y) (hn : X.length = n) (hi : X[i]? = some x) (hq : InIs w6 w6.heap.size q) :
    XAt w6 (wr.setCell ⟨g, i * 36 + 34, none⟩ (.int .u32 q.p.sq)) G ver lk (.slice (some ⟨g, 0, none⟩) n c) ov (X.set i (xSq x q)) Y := by
  subst hn
  have hx := h.eI x (List.mem_of_getElem? hi)
  exact h.setI hi (by decide) (inC_set34 hx.ok _) ⟨⟨hx.ok.hl, hx.ok.ix0, hx.ok.ix1, hq.ok.sq0, hq.ok.sq1⟩, hx.sc, hx.wt, hx.eq, hx.le⟩
theorem XAt.putPr (h : XAt w6 wr G ver lk (.slice (some ⟨g, 0, none⟩) n c) ov X Y) (hn : X.length = n) (hi : X[i]? = some x) (hq : InIs w6 w6.heap.size q) :
    XAt w6 (wr.setCells g (i * 36) (opC q.p.h q.p.ix)) G ver lk (.slice (some ⟨g, 0, none⟩) n c) ov (X.set i (xPr x q)) Y := by
  subst hn
  have hx := h.eI x (List.mem_of_getElem? hi)
  exact h.setP hi (opC_length _ hq.ok.hl) (inC_pr hx.ok) ⟨⟨hq.ok.hl, hq.ok.ix0, hq.ok.ix1, hx.ok.sq0, hx.ok.sq1⟩, hx.sc, hx.wt, hx.eq, hx.le⟩
/-- A cell of the copy's inputs is there and may be written. -/
theorem XAt.can (h : XAt w6 wr G ver lk (.slice (some ⟨g, 0, none⟩) n c) ov X Y) (hn : X.length = n) (hi : i < n) {j : Nat} (hj : j < 36) : ∃ old, wr.cell? ⟨g, i * 36 + j, none⟩ = some old ∧ wr.frozen? ⟨g, i * 36 + j, none⟩ = false := by
  subst hn
  obtain ⟨x, hx⟩ : ∃ x, X[i]? = some x := ⟨_, List.getElem?_eq_getElem hi⟩
  obtain ⟨v, hv⟩ : ∃ v, (inC x)[j]? = some v := ⟨_, List.getElem?_eq_getElem (by rw [inC_length (h.eI x (List.mem_of_getElem? hx)).ok]; exact hj)⟩
  exact ⟨v, h.cellI hx hv⟩
theorem XAt.there (h : XAt w6 wr G ver lk (.slice (some ⟨g, 0, none⟩) n c) ov X Y) (hn : X.length = n) (hi : i < n) {m : Nat} (hm : m ≤ 36) : wr.there g (i * 36) m := fun j hj => by
  obtain ⟨old, h1, h2⟩ := h.can hn hi (show j < 36 by omega)
  exact ⟨by rw [h1]; rfl, h2⟩
end
theorem SS.put {I : Nat} {K : Int} {l : List InP} {X : List InV} {i : Nat} {x x' : InV} (h : SS I K l (X.map (·.p))) (hi : X[i]? = some x) (c1 : i = I → x'.p.h = x.p.h ∧ x'.p.ix = x.p.ix ∧ x'.p.sq = x.p.sq) (c2 : aloneF K = false → x'.p.h = x.p.h ∧ x'.p.ix = x.p.ix ∧ (chosenF K = 1 → x'.p.sq = x.p.sq)) : SS I K l ((X.set i x').map (·.p)) := by
  rw [List.map_set]
  exact h.set (q := x.p) (by rw [List.getElem?_map, hi]; rfl) c1 c2
theorem SS.sc {I : Nat} {K : Int} {l : List InP} {X : List InV} {i : Nat} {x : InV} (h : SS I K l (X.map (·.p))) (hi : X[i]? = some x) (q : InV) : SS I K l ((X.set i (xSc x q)).map (·.p)) := h.put hi (fun _ => ⟨rfl, rfl, rfl⟩) (fun _ => ⟨rfl, rfl, fun _ => rfl⟩)
theorem SS.wt {I : Nat} {K : Int} {l : List InP} {X : List InV} {i : Nat} {x : InV} (h : SS I K l (X.map (·.p))) (hi : X[i]? = some x) (q : InV) : SS I K l ((X.set i (xWt x q)).map (·.p)) := h.put hi (fun _ => ⟨rfl, rfl, rfl⟩) (fun _ => ⟨rfl, rfl, fun _ => rfl⟩)
theorem SS.sq {I : Nat} {K : Int} {l : List InP} {X : List InV} {i : Nat} {x : InV} (h : SS I K l (X.map (·.p))) (hi : X[i]? = some x) (q : InV) (hne : i ≠ I) (hc : aloneF K = true ∨ chosenF K ≠ 1) : SS I K l ((X.set i (xSq x q)).map (·.p)) :=
  h.put hi (fun e => absurd e hne) (fun ha => ⟨rfl, rfl, fun h1 => hc.elim (fun q => by rw [q] at ha; exact absurd ha (by decide)) (fun q => absurd h1 q)⟩)
theorem SS.pr {I : Nat} {K : Int} {l : List InP} {X : List InV} {i : Nat} {x : InV} (h : SS I K l (X.map (·.p))) (hi : X[i]? = some x) (q : InV) (hne : i ≠ I) (hc : aloneF K = true) : SS I K l ((X.set i (xPr x q)).map (·.p)) :=
  h.put hi (fun e => absurd e hne) (fun ha => by rw [hc] at ha; exact absurd ha (by decide))
theorem sz_of5 {X : List InV} {Y : List OutV} (hx : ∀ x ∈ X, x.in 5 300) (hX : X.length ≤ 5) (hy : ∀ y ∈ Y, y.p.sc.length ≤ 300) (hY : Y.length ≤ 5) : TxSz X Y :=
  ⟨by omega, by omega, fun x hm => ⟨by have := (hx x hm).sc; omega, by have := (hx x hm).wl; omega, fun p hp => by have := (hx x hm).it p hp; omega⟩, fun y hm => by have := hy y hm; omega⟩
/-- An append of nothing. -/
theorem run_append_none {w : World} {t ty e : TypeId} (ht : Tryd.prog.underlying t = some (.slice e)) (hi : (Tryd.prog.info? e).isSome = true) {A A' : Option Addr} {n c c' : Nat} (hn : n ≤ c) :
    (Builtin.append_ #[t, t] ty #[.slice A n c, .slice A' 0 c']).run Tryd.prog w = .ok (.slice A n c) w := by
  cases hq : Tryd.prog.info? e with
  | none => rw [hq] at hi; cases hi
  | some i =>
    cases A <;> cases A' <;> simp [Builtin.append_, run_underlying ht, Builtin.lenOf, Builtin.firstCells, sizeOf, typeInfo, hq, hn, storeCells, loadCells, loadCellsFrom]
theorem ownsRow_refl_grown (w : World) (r : Option Nat) : w.grownBy w r := ⟨rfl, rfl, rfl, Nat.le_refl _, fun _ _ _ => rfl⟩
/-- append of some inputs. -/
theorem run_append_tins {w : World} (ty : TypeId) (base : Nat) (v : Value) (n : Nat) (xs : List Value) (hown : w.ownsRow base 49 36 v n xs)
    (A : Option Addr) (m c : Nat) (D : List Value) (hl : D.length = m * 36) (hA : m ≠ 0 → ∃ b o, A = some ⟨b, o, none⟩ ∧ w.rangeAt b o D) (k0 : ∀ u ∈ D, u.oneCell' = true) (hb : (n + m) * 96 ≤ 140737488355328) (hbase : base ≤ w.heap.size) :
    ∃ v' w', (Builtin.append_ #[22, 22] ty #[v, .slice A m c]).run Tryd.prog w = .ok v' w' ∧ w'.ownsRow base 49 36 v' (n + m) (xs ++ D) ∧ w.grownBy w' v.ownBlock := by
  obtain ⟨i, hi, hz, hsz, hby⟩ := info_parts3 info_tin
  by_cases hm : m = 0
  · subst hm
    obtain rfl : D = [] := List.eq_nil_of_length_eq_zero (by omega)
    obtain ⟨A0, c0, rfl⟩ := own_form hown
    have hc := own_cap hown
    exact ⟨_, w, run_append_none Tryd.underlying22 (by rw [hi]; rfl) hc.1, by simpa using hown, ownsRow_refl_grown _ _⟩
  · obtain ⟨b, o, rfl, hr⟩ := hA hm
    obtain ⟨v', w', hrun, h2, h3, _, _⟩ := run_append_own_at (P := Tryd.prog) w base 22 ty 49 i _ 36 96 Tryd.underlying22 hi hz hsz hby rfl (by decide) v n xs hown ⟨b, o, none⟩ m c D hl
      (fun j u hu => by rw [Addr.add_mid]; exact hr j u hu) k0 (by unfold maxLen; omega) (by omega) hbase
    exact ⟨v', w', hrun, h2, h3⟩
theorem run_append_touts {w : World} (ty : TypeId) (base : Nat) (v : Value) (n : Nat) (xs : List Value) (hown : w.ownsRow base 54 2 v n xs)
    (A : Option Addr) (m c : Nat) (D : List Value) (hl : D.length = m * 2) (hA : m ≠ 0 → ∃ b o, A = some ⟨b, o, none⟩ ∧ w.rangeAt b o D) (k0 : ∀ u ∈ D, u.oneCell' = true) (hb : (n + m) * 32 ≤ 140737488355328) (hbase : base ≤ w.heap.size) :
    ∃ v' w', (Builtin.append_ #[23, 23] ty #[v, .slice A m c]).run Tryd.prog w = .ok v' w' ∧ w'.ownsRow base 54 2 v' (n + m) (xs ++ D) ∧ w.grownBy w' v.ownBlock := by
  obtain ⟨i, hi, hz, hsz, hby⟩ := info_parts3 info_tout
  by_cases hm : m = 0
  · subst hm
    obtain rfl : D = [] := List.eq_nil_of_length_eq_zero (by omega)
    obtain ⟨A0, c0, rfl⟩ := own_form hown
    have hc := own_cap hown
    exact ⟨_, w, run_append_none Tryd.underlying23 (by rw [hi]; rfl) hc.1, by simpa using hown, ownsRow_refl_grown _ _⟩
  · obtain ⟨b, o, rfl, hr⟩ := hA hm
    obtain ⟨v', w', hrun, h2, h3, _, _⟩ := run_append_own_at (P := Tryd.prog) w base 23 ty 54 i _ 2 32 Tryd.underlying23 hi hz hsz hby rfl (by decide) v n xs hown ⟨b, o, none⟩ m c D hl
      (fun j u hu => by rw [Addr.add_mid]; exact hr j u hu) k0 (by unfold maxLen; omega) (by omega) hbase
    exact ⟨v', w', hrun, h2, h3⟩
theorem wpList_append_tins {w : World} {ops : Array Oper} {rest : List Oper} {o : Oper} {a : Act} {Q : Exit → Act → World → Prop} (hgd : o.guard = none) (s x : Operand)
    (ho : o.op = .call { callee := .builtin .append, args := #[s, x], argTypes := #[22, 22] })
    (base : Nat) (v : Value) (n : Nat) (xs : List Value) (hs : a.eval s = v) (hown : w.ownsRow base 49 36 v n xs)
    (A : Option Addr) (m c : Nat) (D : List Value) (hx : a.eval x = .slice A m c) (hl : D.length = m * 36) (hA : m ≠ 0 → ∃ b o, A = some ⟨b, o, none⟩ ∧ w.rangeAt b o D) (k0 : ∀ u ∈ D, u.oneCell' = true) (hb : (n + m) * 96 ≤ 140737488355328) (hbase : base ≤ w.heap.size)
    (h : ∀ v' w', w'.ownsRow base 49 36 v' (n + m) (xs ++ D) → w.grownBy w' v.ownBlock → wpList Tryd.prog ops Q rest (a.put o.dst v') w') :
    wpList Tryd.prog ops Q (o :: rest) a w := by
  refine wpList_plain hgd fun K hK => ?_
  obtain ⟨v', w', hrun, h2, h3⟩ := run_append_tins o.type base v n xs hown A m c D hl hA k0 hb hbase
  unfold Oper.wp execOp
  simp only [ho, resolve, invoke, builtin, Sem.run_bind, Sem.run_pure, Result.andThen_ok, List.map_toArray, List.map_cons, List.map_nil, hs, hx, hrun]
  exact hK _ _ (h v' w' h2 h3)
theorem op_append_touts {w : World} {o : Oper} {a : Act} {K : Act → World → Prop} {Q : Exit → Act → World → Prop} (s x : Operand)
    (ho : o.op = .call { callee := .builtin .append, args := #[s, x], argTypes := #[23, 23] })
    (base : Nat) (v : Value) (n : Nat) (xs : List Value) (hs : a.eval s = v) (hown : w.ownsRow base 54 2 v n xs)
    (A : Option Addr) (m c : Nat) (D : List Value) (hx : a.eval x = .slice A m c) (hl : D.length = m * 2) (hA : m ≠ 0 → ∃ b o, A = some ⟨b, o, none⟩ ∧ w.rangeAt b o D) (k0 : ∀ u ∈ D, u.oneCell' = true) (hb : (n + m) * 32 ≤ 140737488355328) (hbase : base ≤ w.heap.size)
    (h : ∀ v' w', w'.ownsRow base 54 2 v' (n + m) (xs ++ D) → w.grownBy w' v.ownBlock → K (a.put o.dst v') w') :
    o.wp Tryd.prog a w K Q := by
  obtain ⟨v', w', hrun, h2, h3⟩ := run_append_touts o.type base v n xs hown A m c D hl hA k0 hb hbase
  unfold Oper.wp execOp
  simp only [ho, resolve, invoke, builtin, Sem.run_bind, Sem.run_pure, Result.andThen_ok, List.map_toArray, List.map_cons, List.map_nil, hs, hx, hrun]
  exact h v' w' h2 h3
theorem one_of_ins {w : World} {B : Nat} {X : List InV} (h : ∀ x ∈ X, InIs w B x) : ∀ u ∈ X.flatMap inC, u.oneCell' = true := fun u hu => by
  obtain ⟨x, hx, hux⟩ := List.mem_flatMap.1 hu
  exact (h x hx).one u hux
theorem one_of_outs {w : World} {B : Nat} {X : List OutV} (h : ∀ x ∈ X, OutIs w B x) : ∀ u ∈ X.flatMap outC, u.oneCell' = true := fun u hu => by
  obtain ⟨x, hx, hux⟩ := List.mem_flatMap.1 hu
  exact (h x hx).one u hux
theorem InsR.src {w : World} {B n c : Nat} {A : Option Addr} {X : List InV} (h : InsR w B (.slice A n c) X) (hn : n = X.length) : n ≠ 0 → ∃ b o, A = some ⟨b, o, none⟩ ∧ b < B ∧ w.rangeAt b o (X.flatMap inC) := fun h0 => by
  obtain ⟨A', c', e, _, _, h3⟩ := h.row
  injection e with e1 e2 e3
  subst e1
  exact h3 (by omega)
theorem OutsR.src {w : World} {B n c : Nat} {A : Option Addr} {X : List OutV} (h : OutsR w B (.slice A n c) X) (hn : n = X.length) : n ≠ 0 → ∃ b o, A = some ⟨b, o, none⟩ ∧ b < B ∧ w.rangeAt b o (X.flatMap outC) := fun h0 => by
  obtain ⟨A', c', e, _, _, h3⟩ := h.row
  injection e with e1 e2 e3
  subst e1
  exact h3 (by omega)
/-- More inputs behind the copy's, and the box told of it. -/
theorem XAt.app {w6 wr w' : World} {G m : Nat} {ver lk : Int} {iv ov v' : Value} {X XU : List InV} {Y : List OutV} (h : XAt w6 wr G ver lk iv ov X Y) (hown : w'.ownsRow w6.heap.size 49 36 v' (X.length + m) (X.flatMap inC ++ XU.flatMap inC)) (hg : wr.grownBy w' iv.ownBlock)
    (hm : XU.length = m) (hU : ∀ x ∈ XU, InIs w6 w6.heap.size x ∧ x.p.sc.length ≤ 300) : XAt w6 (w'.setCell ⟨G, 1, none⟩ v') G ver lk v' ov (X ++ XU) Y := by
  have tt : Turns (fun q => iv.ownBlock = some q) wr w' := (Turns.refl _ wr).grown hg (fun q hq _ => hq)
  have hS : ∀ k, iv.ownBlock = some k → k < wr.heap.size → ∃ cs T m, wr.heap[k]? = some (.cells cs T m) ∧ 49 = T := fun k hk _ => by
    rcases h.ins.2 with ⟨e, _⟩ | ⟨g', cap, cur, e, _, hg', _⟩
    · rw [e] at hk; cases hk
    · rw [e] at hk
      have : g' = k := by simpa [Value.ownBlock] using hk
      subst this
      exact ⟨_, _, _, hg', rfl⟩
  have hS2 : ∀ k, iv.ownBlock = some k → k < wr.heap.size → ∃ cs T m, wr.heap[k]? = some (.cells cs T m) ∧ 27 ≠ T ∧ 5 ≠ T := fun k hk hl => by obtain ⟨cs, T, m, e, rfl⟩ := hS k hk hl; exact ⟨cs, _, m, e, by decide, by decide⟩
  have hG : VRow w' G 26 [.int .i32 ver, iv, ov, .int .u32 lk] := h.t.turns tt (fun hk => by
    obtain ⟨cs, T, m, e, hT⟩ := hS G hk h.t.lt
    have hr : wr.heap[G]? = _ := h.t
    rw [hr] at e
    injection e with e
    injection e with _ e
    rw [← hT] at e
    exact absurd e (by decide))
  have hb : Below w6.heap.size w6 w' := h.bel.trans (tt.below_of h.bel.size (fun q hq e => by have := (h.ins.lt q e).1; omega))
  have t2 : Turns (fun q => q = G) w' (w'.setCell ⟨G, 1, none⟩ v') := Turns.setCell (S := fun q => q = G) (Turns.refl _ w') (p := ⟨G, 1, none⟩) (fun _ => rfl) _
  have hS3 : ∀ k, k = G → k < w'.heap.size → ∃ cs T m, w'.heap[k]? = some (.cells cs T m) ∧ 27 ≠ T ∧ 5 ≠ T := fun k q _ => by subst q; exact ⟨_, _, _, hG, by decide, by decide⟩
  refine ⟨hG.set 1 v', h.hG, ?_, own_apart (own_apart h.outs tt (fun k q l => by obtain ⟨cs, T, m, e, rfl⟩ := hS k q l; exact ⟨cs, _, m, e, by decide⟩)) t2 (fun k q _ => by subst q; exact ⟨_, _, _, hG, by decide⟩), fun x hx => ?_, fun y hy => ((h.eO y hy).apart tt hS2).apart t2 hS3, hb.setCell h.hG v'⟩
  · unfold InsO
    rw [List.length_append, hm, List.flatMap_append]
    exact own_apart hown t2 (fun k q _ => by subst q; exact ⟨_, _, _, hG, by decide⟩)
  · rcases List.mem_append.1 hx with hx | hx
    · exact ((h.eI x hx).apart tt hS2).apart t2 hS3
    · exact Mx.of_In (hU x hx).1 (hU x hx).2
end Go.Proofs.YthelmclpmalofaaDoor
