/-
  Texts joined: TvF. Conditions: those of each.
-/
import Derived.Test.YthelmclpmalofaaDoorK18
/-
  The references' Few: some transaction within the bounds. Conditions: sizes within the reach.
-/
namespace Go.Proofs.YthelmclpmalofaaDoor
open Go.RowKit

/-- What Few keeps: its transaction's box, the result's, and the rows. -/
structure FwAt (w wr : World) (G3 G6 : Nat) (ver lk : Int) (iv ov : Value) (X : List InV) (Y : List OutV) : Prop where
  t : VRow wr G3 26 [.int .i32 ver, iv, ov, .int .u32 lk]
  r : VRow wr G6 26 [.int .i32 0, .slice none 0 0, .slice none 0 0, .int .u32 0]
  ins : InsO wr w.heap.size iv X
  outs : OutsO wr w.heap.size ov Y
  eI : ∀ x ∈ X, El wr w.heap.size x
  eO : ∀ y ∈ Y, ElO wr w.heap.size y
  bel : Below w.heap.size w wr
section
variable {w wr w' : World} {G3 G6 : Nat} {ver lk : Int} {iv ov : Value} {X : List InV} {Y : List OutV}
theorem FwAt.drew (h : FwAt w wr G3 G6 ver lk iv ov X Y) : FwAt w wr.drew G3 G6 ver lk iv ov X Y :=
  ⟨h.t, h.r, h.ins, h.outs, fun x hx => (h.eI x hx).apart (Turns.of_below (S := fun _ => False) (Below.refl _ wr).drew) none_apart, fun x hx => (h.eO x hx).apart (Turns.of_below (S := fun _ => False) (Below.refl _ wr).drew) none_apart, h.bel.drew⟩
theorem FwAt.put (h : FwAt w wr G3 G6 ver lk iv ov X Y) (hO : w.heap.size ≤ G3) (h2 : G6 ≠ G3) (i : Nat) (v iv' ov' : Value) (X' : List InV) (Y' : List OutV) (he : [Value.int .i32 ver, iv, ov, Value.int .u32 lk].set i v = [.int .i32 ver, iv', ov', .int .u32 lk])
    (hI : InsO wr w.heap.size iv' X') (hO2 : OutsO wr w.heap.size ov' Y') (eI : ∀ x ∈ X', x ∈ X) (eO : ∀ x ∈ Y', x ∈ Y) : FwAt w (wr.setCell ⟨G3, i, none⟩ v) G3 G6 ver lk iv' ov' X' Y' := by
  have tt : Turns (fun q => q = G3) wr (wr.setCell ⟨G3, i, none⟩ v) := Turns.setCell (S := fun q => q = G3) (Turns.refl _ wr) (p := ⟨G3, i, none⟩) (fun _ => rfl) _
  have hc := h.t
  have hS : ∀ k, k = G3 → k < wr.heap.size → ∃ cs T m, wr.heap[k]? = some (.cells cs T m) ∧ 27 ≠ T ∧ 5 ≠ T := fun k q _ => by subst q; exact ⟨_, _, _, hc, by decide, by decide⟩
  refine ⟨?_, h.r.turns tt h2, own_apart hI tt (fun k q _ => by subst q; exact ⟨_, _, _, hc, by decide⟩), own_apart hO2 tt (fun k q _ => by subst q; exact ⟨_, _, _, hc, by decide⟩), fun x hx => (h.eI x (eI x hx)).apart tt hS, fun x hx => (h.eO x (eO x hx)).apart tt hS, h.bel.setCell hO v⟩
  rw [← he]
  exact h.t.set i v
/-- A cell of an input is written. -/
theorem FwAt.setI {g c i j : Nat} {x x' : InV} {u : Value} (h : FwAt w wr G3 G6 ver lk (.slice (some ⟨g, 0, none⟩) X.length c) ov X Y) (hi : X[i]? = some x) (hj : j < 36) (hx : inC x' = (inC x).set j u) (he : El wr w.heap.size x') :
    FwAt w (wr.setCell ⟨g, i * 36 + j, none⟩ u) G3 G6 ver lk (.slice (some ⟨g, 0, none⟩) X.length c) ov (X.set i x') Y := by
  have hin := h.ins
  have hgl := hin.lt g rfl
  obtain ⟨cs, hgt⟩ : ∃ cs, wr.heap[g]? = some (.cells cs 49 (0, 0)) := by
    rcases hin.2 with ⟨e, _⟩ | ⟨g', cap, cur, e, _, hg, _⟩
    · cases e
    · injection e with e _ _
      injection e with e
      injection e with e
      subst e
      exact ⟨_, hg⟩
  have tt : Turns (fun q => q = g) wr (wr.setCell ⟨g, i * 36 + j, none⟩ u) := Turns.setCell (S := fun q => q = g) (Turns.refl _ wr) (p := ⟨g, _, none⟩) (fun _ => rfl) _
  have hS : ∀ k, k = g → k < wr.heap.size → ∃ cs T m, wr.heap[k]? = some (.cells cs T m) ∧ 27 ≠ T ∧ 5 ≠ T := fun k q _ => by subst q; exact ⟨_, _, _, hgt, by decide, by decide⟩
  have hne : ∀ (G : Nat) (vs : List Value), VRow wr G 26 vs → ¬ G = g := fun G vs hr e => by
    subst e
    have hr' : wr.heap[G]? = _ := hr
    rw [hr'] at hgt
    injection hgt with hgt
    injection hgt with _ hgt
    exact absurd hgt (by decide)
  refine ⟨h.t.turns tt (hne _ _ h.t), h.r.turns tt (hne _ _ h.r), ?_, own_apart h.outs tt (fun k q _ => by subst q; exact ⟨_, _, _, hgt, by decide⟩), fun y hy => ?_, fun y hy => (h.eO y hy).apart tt hS, h.bel.setCell hgl.1 u⟩
  · have q := (World.ownsRow.stored hin (i * 36 + j) u).1
    rw [flat_set inC 36 X (fun e he => inC_length (h.eI e he).ok) i x x' j u hi hj hx] at q
    unfold InsO
    rw [List.length_set]
    exact q
  · rcases List.mem_or_eq_of_mem_set hy with hy | rfl
    · exact (h.eI y hy).apart tt hS
    · exact he.apart tt hS
theorem FwAt.setO {g c i j : Nat} {x x' : OutV} {u : Value} (h : FwAt w wr G3 G6 ver lk iv (.slice (some ⟨g, 0, none⟩) Y.length c) X Y) (hi : Y[i]? = some x) (hj : j < 2) (hx : outC x' = (outC x).set j u) (he : ElO wr w.heap.size x') :
    FwAt w (wr.setCell ⟨g, i * 2 + j, none⟩ u) G3 G6 ver lk iv (.slice (some ⟨g, 0, none⟩) Y.length c) X (Y.set i x') := by
  have hin := h.outs
  have hgl := hin.lt g rfl
  obtain ⟨cs, hgt⟩ : ∃ cs, wr.heap[g]? = some (.cells cs 54 (0, 0)) := by
    rcases hin.2 with ⟨e, _⟩ | ⟨g', cap, cur, e, _, hg, _⟩
    · cases e
    · injection e with e _ _
      injection e with e
      injection e with e
      subst e
      exact ⟨_, hg⟩
  have tt : Turns (fun q => q = g) wr (wr.setCell ⟨g, i * 2 + j, none⟩ u) := Turns.setCell (S := fun q => q = g) (Turns.refl _ wr) (p := ⟨g, _, none⟩) (fun _ => rfl) _
  have hS : ∀ k, k = g → k < wr.heap.size → ∃ cs T m, wr.heap[k]? = some (.cells cs T m) ∧ 27 ≠ T ∧ 5 ≠ T := fun k q _ => by subst q; exact ⟨_, _, _, hgt, by decide, by decide⟩
  have hne : ∀ (G : Nat) (vs : List Value), VRow wr G 26 vs → ¬ G = g := fun G vs hr e => by
    subst e
    have hr' : wr.heap[G]? = _ := hr
    rw [hr'] at hgt
    injection hgt with hgt
    injection hgt with _ hgt
    exact absurd hgt (by decide)
  refine ⟨h.t.turns tt (hne _ _ h.t), h.r.turns tt (hne _ _ h.r), own_apart h.ins tt (fun k q _ => by subst q; exact ⟨_, _, _, hgt, by decide⟩), ?_, fun y hy => (h.eI y hy).apart tt hS, fun y hy => ?_, h.bel.setCell hgl.1 u⟩
  · have q := (World.ownsRow.stored hin (i * 2 + j) u).1
    rw [flat_set outC 2 Y (fun e _ => outC_length e) i x x' j u hi hj hx] at q
    unfold OutsO
    rw [List.length_set]
    exact q
  · rcases List.mem_or_eq_of_mem_set hy with hy | rfl
    · exact (h.eO y hy).apart tt hS
    · exact he.apart tt hS
/-- A cell of a witness is written. -/
theorem FwAt.setB {g k : Nat} {u : Value} {zs : List UInt8} {cs : Array Value} {m : Nat × Nat} (h : FwAt w wr G3 G6 ver lk iv ov X Y) (hg : wr.heap[g]? = some (.cells cs 27 m)) (hb : w.heap.size ≤ g) (hu : OwnB wr w.heap.size u zs) :
    FwAt w (wr.setCell ⟨g, k, none⟩ u) G3 G6 ver lk iv ov (X.map fun x => setX x g k u zs) Y := by
  have tt : Turns (fun q => q = g) wr (wr.setCell ⟨g, k, none⟩ u) := Turns.setCell (S := fun q => q = g) (Turns.refl _ wr) (p := ⟨g, _, none⟩) (fun _ => rfl) _
  have hne : ∀ (G : Nat) (vs : List Value), VRow wr G 26 vs → ¬ G = g := fun G vs hr e => by
    subst e
    have hr' : wr.heap[G]? = _ := hr
    rw [hr'] at hg
    injection hg with hg
    injection hg with _ hg
    exact absurd hg (by decide)
  refine ⟨h.t.turns tt (hne _ _ h.t), h.r.turns tt (hne _ _ h.r), ?_, own_apart h.outs tt (fun k q _ => by subst q; exact ⟨_, _, _, hg, by decide⟩), fun y hy => ?_, fun y hy => ?_, h.bel.setCell hb u⟩
  · unfold InsO
    rw [List.length_map, setX_flat]
    exact own_apart h.ins tt (fun k q _ => by subst q; exact ⟨_, _, _, hg, by decide⟩)
  · obtain ⟨x, hx, rfl⟩ := List.mem_map.1 hy
    exact el_set (h.eI x hx) hg hu
  · exact ⟨(h.eO y hy).ok, own_apart (h.eO y hy).sc tt (fun k q _ => by subst q; exact ⟨_, _, _, hg, by decide⟩)⟩
theorem FwAt.cellI {g c i j : Nat} {x : InV} {v : Value} (h : FwAt w wr G3 G6 ver lk (.slice (some ⟨g, 0, none⟩) X.length c) ov X Y) (hi : X[i]? = some x) (hv : (inC x)[j]? = some v) : wr.cell? ⟨g, i * 36 + j, none⟩ = some v ∧ wr.frozen? ⟨g, i * 36 + j, none⟩ = false := by
  have hx := flat_in inC 36 X (fun e he => inC_length (h.eI e he).ok) i x hi j v hv
  have hl := (List.getElem?_eq_some_iff.1 hx).1
  have hf := flat_len inC 36 X (fun e he => inC_length (h.eI e he).ok)
  exact ⟨(World.ownsRow.cellAt h.ins _ (by omega)).trans hx, World.ownsRow.frozenAt h.ins _⟩
theorem FwAt.cellO {g c i j : Nat} {x : OutV} {v : Value} (h : FwAt w wr G3 G6 ver lk iv (.slice (some ⟨g, 0, none⟩) Y.length c) X Y) (hi : Y[i]? = some x) (hv : (outC x)[j]? = some v) : wr.cell? ⟨g, i * 2 + j, none⟩ = some v ∧ wr.frozen? ⟨g, i * 2 + j, none⟩ = false := by
  have hx := flat_in outC 2 Y (fun e _ => outC_length e) i x hi j v hv
  have hl := (List.getElem?_eq_some_iff.1 hx).1
  have hf := flat_len outC 2 Y (fun e _ => outC_length e)
  exact ⟨(World.ownsRow.cellAt h.outs _ (by omega)).trans hx, World.ownsRow.frozenAt h.outs _⟩
end
theorem inC_set33 {x : InV} (h : x.p.ok) (sc : List UInt8) (u : Value) : inC ⟨{ x.p with sc := sc }, u, x.wv, x.wl⟩ = (inC x).set 33 u := by
  have hl : (x.p.h.map bv).length = 32 := by rw [List.length_map, h.hl]
  unfold inC
  rw [List.set_append_right _ _ (by omega), hl]
  rfl
theorem inC_set35 {x : InV} (h : x.p.ok) (wt : List (List UInt8)) (u : Value) (L : List (Value × List UInt8)) : inC ⟨{ x.p with wt := wt }, x.sv, u, L⟩ = (inC x).set 35 u := by
  have hl : (x.p.h.map bv).length = 32 := by rw [List.length_map, h.hl]
  unfold inC
  rw [List.set_append_right _ _ (by omega), hl]
  rfl

set_option maxRecDepth 100000 in
set_option maxHeartbeats 25600000 in
theorem few_any (B n m : Nat) (t : TxP) (iv ov : Value) (X : List InV) (Y : List OutV) (w : World) (ht : TxR w B t iv ov X Y) (hB : B ≤ w.heap.size) (hz : TxSz X Y) (hn : n ≤ 20) (_hm : m ≤ 1000) :
    Calls Tryd.prog 20 #[.agg (txC t iv ov).toArray, .int .i64 (n : Int), .int .i64 (m : Int)] w fun e w' => ∃ t' iv' ov', e = .returned (.agg (txC t' iv' ov').toArray) ∧ ∃ X' Y', t'.ok ∧ InsO w' w.heap.size iv' X' ∧ OutsO w' w.heap.size ov' Y' ∧ (∀ x ∈ X', El w' w.heap.size x) ∧ (∀ y ∈ Y', ElO w' w.heap.size y) ∧ X'.map (·.p) = t'.ins ∧ Y'.map (·.p) = t'.outs ∧ (∀ x ∈ X', x.in n m) ∧ X'.length ≤ n ∧ (∀ y ∈ Y', y.p.sc.length ≤ m) ∧ Y'.length ≤ n ∧ Below w.heap.size w w' := by
  have hcp := fun W (hW : Below w.heap.size w W) => copyTx_any B t iv ov X Y W (ht.below (hW.mono hB)) (Nat.le_trans hB hW.size) hz
  have hok := ht.ok
  obtain ⟨TC, hTC⟩ : ∃ z, z = txC t iv ov := ⟨_, rfl⟩
  have hTl : TC.length = 4 := by rw [hTC]; rfl
  rw [← hTC]
  simp only [← hTC] at hcp
  have hzt := zero_ttx
  obtain ⟨ZT, hZT⟩ : ∃ z, z = [Value.int .i32 0, .slice none 0 0, .slice none 0 0, .int .u32 0] := ⟨_, rfl⟩
  rw [← hZT] at hzt
  obtain ⟨w1, hw1⟩ : ∃ z, z = (w.alloc (.cells TC.toArray 26)).alloc (.cells ZT.toArray 26) := ⟨_, rfl⟩
  have s1 : (w.alloc (.cells TC.toArray 26)).heap.size = w.heap.size + 1 := by simp
  have b1 : Below w.heap.size w (w.alloc (.cells TC.toArray 26)) := (Below.refl _ w).alloc (Nat.le_refl _) _
  have hb1 : Below w.heap.size w w1 := by rw [hw1]; exact b1.alloc (by rw [s1]; omega) _
  have r3 : VRow w1 w.heap.size 26 TC := by rw [hw1]; exact (VRow.new w 26 TC).below ((Below.refl _ _).alloc (Nat.le_refl _) _) (by rw [s1]; omega)
  have r6 : VRow w1 (w.heap.size + 1) 26 ZT := by rw [hw1, ← s1]; exact VRow.new _ _ _
  obtain ⟨G3, hG3⟩ : ∃ z, z = w.heap.size := ⟨_, rfl⟩
  obtain ⟨G6, hG6⟩ : ∃ z, z = w.heap.size + 1 := ⟨_, rfl⟩
  rw [← hG3] at r3
  rw [← hG6] at r6
  have HNE := Lib.hid (show G6 ≠ G3 by omega)
  have HG3 := Lib.hid hG3
  have HG6 := Lib.hid hG6
  have HW1 := Lib.hid hw1
  have HB1 := Lib.hid hb1
  have R3 := Lib.hid r3
  have R6 := Lib.hid r6
  have HCP := Lib.hid hcp
  have HOK := Lib.hid hok
  have HZT := Lib.hid hZT
  have HTS := Lib.hid (show (Tryd.prog.info? 26).map (·.size) = some TC.length by rw [hTl]; exact size_tx)
  have HTL := Lib.hid hTl
  clear hcp hok hTC hZT hw1 s1 b1 hb1 r3 r6 hG3 hG6 hTl ht hB hz
  go_enter Tryd.func20, Tryd.ntmps20
  go_upto_region 1 with fail
  change Code.wp _ _ _ _ ((w.alloc (.cells TC.toArray 26)).alloc (.cells ZT.toArray 26))
  rw [← HW1.out, show w.heap.size + 1 = G6 from HG6.out.symm, show w.heap.size = G3 from HG3.out.symm]
  clear HW1
  try dsimp only [Act.put]
  go_wp2_with (first
    | (refine wpList_load_vrow rfl 26 (.tmp 3) rfl rfl R3.out Tryd.underlying26 HTS.out ?_))
  refine (HCP.out w1 HB1.out).mono ?_
  rintro e w2 ⟨iv', ov', rfl, X', Y', hI, hO, hEI, hEO, hXi, hYo, hb2⟩
  obtain ⟨FC, hFC⟩ : ∃ z, z = txC t iv' ov' := ⟨_, rfl⟩
  rw [← hFC]
  obtain ⟨A1, c1, hif⟩ := hI.form
  obtain ⟨A2, c2, hof⟩ := hO.form
  have HFS := Lib.hid (show (Tryd.prog.info? 26).map (·.size) = some FC.length by rw [hFC]; exact size_tx)
  have HFL := Lib.hid (show TC.length = FC.length by rw [hFC, HTL.out]; rfl)
  have HF1 := Lib.hid (show FC.toArray.all (·.oneCell') = true by rw [hFC, hif, hof]; exact arr_one (fun v hv => by unfold txC at hv; simp only [List.mem_cons, List.not_mem_nil, or_false] at hv; rcases hv with rfl | rfl | rfl | rfl <;> rfl))
  have q3 := R3.out.below hb2 R3.out.lt
  have q6 := R6.out.below hb2 R6.out.lt
  have hat : FwAt w (w2.setRow G3 FC.toArray) G3 G6 t.ver t.lock iv' ov' X' Y' := by
    have tt : Turns (fun q => q = G3) w2 (w2.setRow G3 FC.toArray) := Turns.setRow (S := fun q => q = G3) (Turns.refl _ w2) (fun _ => rfl) _
    have hS : ∀ k, k = G3 → k < w2.heap.size → ∃ cs T m, w2.heap[k]? = some (.cells cs T m) ∧ 27 ≠ T ∧ 5 ≠ T := fun k q _ => by subst q; exact ⟨_, _, _, q3, by decide, by decide⟩
    have hl := HB1.out.size
    refine ⟨by rw [hFC]; exact q3.setRow _, by rw [← HZT.out]; exact q6.turns tt HNE.out, own_le (own_apart hI tt (fun k q _ => by subst q; exact ⟨_, _, _, q3, by decide⟩)) hl, own_le (own_apart hO tt (fun k q _ => by subst q; exact ⟨_, _, _, q3, by decide⟩)) hl, fun x hx => ?_, fun y hy => ?_, below_setRow (HB1.out.trans (hb2.mono hl)) (by have := HG3.out; omega) _⟩
    · have e := (hEI x hx).apart tt hS
      exact ⟨e.ok, own_le e.sc hl, e.wt.base hl, e.eq⟩
    · have e := (hEO y hy).apart tt hS
      exact ⟨e.ok, own_le e.sc hl⟩
  have Q3 := Lib.hid q3
  have HAT := Lib.hid hat
  obtain ⟨nX, hnX⟩ : ∃ z, z = X'.length := ⟨_, rfl⟩
  obtain ⟨nY, hnY⟩ : ∃ z, z = Y'.length := ⟨_, rfl⟩
  rw [← hnX] at hif
  rw [← hnY] at hof
  have HNX := Lib.hid hnX
  have HNY := Lib.hid hnY
  subst hif hof
  clear hI hO hEI hEO hXi hYo hb2 q3 q6 hat hnX hnY
  have HFC := Lib.hid hFC
  clear hFC
  go_upto_region 2 with (first
    | (refine wpList_store_vrow rfl 26 (.tmp 3) (.tmp 11) rfl rfl rfl Q3.out HFS.out HFL.out HF1.out ?_))
  change Code.wp _ _ _ _ (w2.setRow G3 FC.toArray)
  obtain ⟨w3, hw3⟩ : ∃ z, z = w2.setRow G3 FC.toArray := ⟨_, rfl⟩
  rw [← hw3] at HAT ⊢
  clear hw3
  obtain ⟨ver, hver⟩ : ∃ z, z = t.ver := ⟨_, rfl⟩
  obtain ⟨lk, hlk⟩ : ∃ z, z = t.lock := ⟨_, rfl⟩
  rw [← hver, ← hlk] at HAT
  have HVER := Lib.hid hver
  have HLK := Lib.hid hlk
  clear hver hlk
  obtain ⟨S0, hS0⟩ : ∃ z, z = (Value.slice A1 nX c1) := ⟨_, rfl⟩
  have q1 := HAT.out.t.cell (show [Value.int .i32 ver, .slice A1 nX c1, .slice A2 nY c2, .int .u32 lk][1]? = some (.slice A1 nX c1) from rfl)
  have f1 := HAT.out.t.free 1
  have oI : w3.ownsRow w.heap.size 49 36 (.slice A1 nX c1) nX (X'.flatMap inC) := by have q := HAT.out.ins; unfold InsO at q; rw [← HNX.out] at q; exact q
  have oO : w3.ownsRow w.heap.size 54 2 (.slice A2 nY c2) nY (Y'.flatMap outC) := by have q := HAT.out.outs; unfold OutsO at q; rw [← HNY.out] at q; exact q
  have capI := own_cap oI
  have capO := own_cap oO
  have HOI := Lib.hid oI
  have HOO := Lib.hid oO
  clear hS0 oI oO
  go_upto_if 16 with fail
  go_cut [3] (fun s3 wx => s3 = .pointer (some ⟨G3, 0, none⟩) ∧ ∃ (nI : Nat) (XX : List InV), nI ≤ n ∧ nI ≤ c1 ∧ (A1 = none → nI = 0) ∧ nI = XX.length ∧ Hid (FwAt w wx G3 G6 ver lk (.slice A1 nI c1) (.slice A2 nY c2) XX Y') ∧ Hid (wx.ownsRow w.heap.size 54 2 (.slice A2 nY c2) nY (Y'.flatMap outC)))
  case first =>
    by_cases hc : n < nX
    · have dc : decide ((n : Int) < (nX : Int)) = true := decide_eq_true (by omega)
      have hI2 : InsO w3 w.heap.size (.slice A1 n c1) (X'.take n) := by
        have q := ownsRow_cut (k := n) HOI.out (by omega) (fun e => by have := HOI.out; subst e; have := own_none this; omega)
        rw [flat_take inC 36 X' (fun e he => inC_length (HAT.out.eI e he).ok)] at q
        unfold InsO
        rw [List.length_take, ← HNX.out, Nat.min_eq_left (by omega)]
        exact q
      have P := Lib.hid (HAT.out.put (by have := HG3.out; omega) HNE.out 1 (.slice A1 n c1) (.slice A1 n c1) (.slice A2 nY c2) (X'.take n) Y' rfl hI2 HAT.out.outs (fun x hx => List.mem_of_mem_take hx) (fun _ h => h))
      have HLT := Lib.hid (show n = (X'.take n).length by rw [List.length_take, ← HNX.out, Nat.min_eq_left (by omega)])
      have HNN := Lib.hid (show A1 = none → n = 0 from fun e => by have := HOI.out; subst e; have := own_none this; omega)
      have HO2 := Lib.hid (show (w3.setCell ⟨G3, 1, none⟩ (.slice A1 n c1)).ownsRow w.heap.size 54 2 (.slice A2 nY c2) nY (Y'.flatMap outC) by have q := P.out.outs; unfold OutsO at q; rw [← HNY.out] at q; exact q)
      clear hI2
      go_wp2_with fail
      go_meet
      exact ⟨rfl, n, _, Nat.le_refl n, by omega, HNN.out, HLT.out, P, HO2⟩
    · have dc : decide ((n : Int) < (nX : Int)) = false := decide_eq_false (by omega)
      have HNN := Lib.hid (show A1 = none → nX = 0 from fun e => by have := HOI.out; subst e; have := own_none this; omega)
      go_wp2_with fail
      go_meet
      exact ⟨rfl, nX, X', by omega, capI.1, HNN.out, HNX.out, HAT, HOO⟩
  case rest =>
    obtain ⟨rfl, nI, XX, hnI, hnIc, hnone, hnXX, hP, hOO⟩ := hcut
    obtain ⟨w4, rfl⟩ : ∃ z : World, z = wc := ⟨_, rfl⟩
    have P4 := hP
    have O4 := hOO
    have HXX := Lib.hid hnXX
    have HNON := Lib.hid hnone
    clear q1 f1 hP hOO hnXX hnone HAT HOI HOO HCP HB1 R3 R6 HTS HTL HFS HFL HF1 Q3
    have q2 := P4.out.t.cell (show [Value.int .i32 ver, .slice A1 nI c1, .slice A2 nY c2, .int .u32 lk][2]? = some (.slice A2 nY c2) from rfl)
    have f2 := P4.out.t.free 2
    go_upto_if 26 with fail
    go_cut [3] (fun s3 wx => s3 = .pointer (some ⟨G3, 0, none⟩) ∧ ∃ (nO : Nat) (YY : List OutV), nO ≤ n ∧ nO ≤ c2 ∧ (A2 = none → nO = 0) ∧ nO = YY.length ∧ Hid (FwAt w wx G3 G6 ver lk (.slice A1 nI c1) (.slice A2 nO c2) XX YY))
    case first =>
      by_cases hc : n < nY
      · have dc : decide ((n : Int) < (nY : Int)) = true := decide_eq_true (by omega)
        have hO2 : OutsO w4 w.heap.size (.slice A2 n c2) (Y'.take n) := by
          have q := ownsRow_cut (k := n) O4.out (by omega) (fun e => by have := O4.out; subst e; have := own_none this; omega)
          rw [flat_take outC 2 Y' (fun e _ => outC_length e)] at q
          unfold OutsO
          rw [List.length_take, ← HNY.out, Nat.min_eq_left (by omega)]
          exact q
        have P := Lib.hid (P4.out.put (by have := HG3.out; omega) HNE.out 2 (.slice A2 n c2) (.slice A1 nI c1) (.slice A2 n c2) XX (Y'.take n) rfl P4.out.ins hO2 (fun _ h => h) (fun x hx => List.mem_of_mem_take hx))
        have HLT := Lib.hid (show n = (Y'.take n).length by rw [List.length_take, ← HNY.out, Nat.min_eq_left (by omega)])
        have HNN := Lib.hid (show A2 = none → n = 0 from fun e => by have := O4.out; subst e; have := own_none this; omega)
        clear hO2
        go_wp2_with fail
        go_meet
        exact ⟨rfl, n, _, Nat.le_refl n, by omega, HNN.out, HLT.out, P⟩
      · have dc : decide ((n : Int) < (nY : Int)) = false := decide_eq_false (by omega)
        have HNN := Lib.hid (show A2 = none → nY = 0 from fun e => by have := O4.out; subst e; have := own_none this; omega)
        go_wp2_with fail
        go_meet
        exact ⟨rfl, nY, Y', by omega, capO.1, HNN.out, HNY.out, P4⟩
    case rest =>
      obtain ⟨rfl, nO, YY, hnO, hnOc, hnone, hnYY, hP⟩ := hcut
      obtain ⟨w5, rfl⟩ : ∃ z : World, z = wc := ⟨_, rfl⟩
      have P5 := hP
      have HYY := Lib.hid hnYY
      have HNO := Lib.hid hnone
      clear q2 f2 hP hnYY hnone P4 O4
      obtain ⟨OV, hOV⟩ : ∃ z, z = Value.slice A2 nO c2 := ⟨_, rfl⟩
      rw [← hOV] at P5
      have HOV := Lib.hid hOV
      clear hOV
      go_wp2_with fail
      go_loopw [7] (fun s wr => ∃ (j : Nat) (X2 : List InV), j ≤ nI ∧ s = .int .i64 (j : Int) ∧ Hid (FwAt w wr G3 G6 ver lk (.slice A1 nI c1) OV X2 YY) ∧ Hid (X2.length = nI) ∧ Hid (∀ q x, q < j → X2[q]? = some x → x.in n m)) (fun s _ => nI - (intOf s).toNat)
      case atStart => exact ⟨0, XX, Nat.zero_le _, rfl, P5, Lib.hid HXX.out.symm, Lib.hid (fun q x hq _ => by omega)⟩
      case round =>
        obtain ⟨j, X2, hj, rfl, P3, HL, HIN2⟩ := hrel
        obtain ⟨w3, rfl⟩ : ∃ z : World, z = wr := ⟨_, rfl⟩
        by_cases hlt : j < nI
        · as_aux_lemma =>
          have dj : decide ((j : Int) < (nI : Int)) = true := decide_eq_true (by omega)
          obtain ⟨g, hA1, _, _⟩ := own_some (show w3.ownsRow w.heap.size 49 36 (.slice A1 nI c1) nI (X2.flatMap inC) by have q := P3.out.ins; unfold InsO at q; rw [HL.out] at q; exact q) (by omega)
          subst hA1
          obtain ⟨x, hx⟩ : ∃ x, X2[j]? = some x := ⟨_, List.getElem?_eq_getElem (by rw [HL.out]; exact hlt)⟩
          have HX := Lib.hid hx
          clear hx P5
          have hc1 : (c1 : Int) ≤ 9223372036854775807 := by omega
          have cT := P3.out.t.cell (show [Value.int .i32 ver, .slice (some ⟨g, 0, none⟩) nI c1, OV, .int .u32 lk][1]? = some (.slice (some ⟨g, 0, none⟩) nI c1) from rfl)
          have hE := P3.out.eI x (List.mem_of_getElem? HX.out)
          have hPX : FwAt w w3 G3 G6 ver lk (.slice (some ⟨g, 0, none⟩) X2.length c1) OV X2 YY := by rw [HL.out]; exact P3.out
          obtain ⟨As, cs, hsf⟩ := hE.sc.form
          obtain ⟨nZ, hnZ⟩ : ∃ z, z = x.p.sc.length := ⟨_, rfl⟩
          rw [← hnZ] at hsf
          have eS := (hPX.cellI HX.out (inC_sc hE.ok)).1
          have eSf := (hPX.cellI HX.out (inC_sc hE.ok)).2
          rw [hsf] at eS
          have hcapS := own_cap (show w3.ownsRow w.heap.size 5 1 (.slice As nZ cs) nZ (x.p.sc.map bv) by have q := hE.sc; rw [hsf] at q; unfold OwnB at q; rw [← hnZ] at q; exact q)
          have HSV := Lib.hid hsf
          have HNZ := Lib.hid hnZ
          clear hE hPX hsf hnZ
          by_cases hb1 : m < nZ
          · as_aux_lemma =>
            have db1 : decide ((m : Int) < (nZ : Int)) = true := decide_eq_true (by omega)
            have HS0 := Lib.hid (show w3.drew.cell? ⟨G3, 1, none⟩ = some (.slice (some ⟨g, 0, none⟩) nI c1) from cT)
            have dS : w3.drew.cell? ⟨g, j * 36 + 33, none⟩ = some (.slice As nZ cs) := eS
            have dSf : w3.drew.frozen? ⟨g, j * 36 + 33, none⟩ = false := eSf
            obtain ⟨x4, hx4⟩ : ∃ z : InV, z = ⟨{ x.p with sc := x.p.sc.take m }, .slice As m cs, x.wv, x.wl⟩ := ⟨_, rfl⟩
            have hE4 : El w3.drew w.heap.size x4 := by
              have e3 := P3.out.drew.eI x (List.mem_of_getElem? HX.out)
              rw [hx4]
              exact ⟨⟨e3.ok.hl, e3.ok.ix0, e3.ok.ix1, e3.ok.sq0, e3.ok.sq1⟩, OwnB.cut (n := nZ) (by have q := e3.sc; rw [HSV.out] at q; exact q) HNZ.out (by omega), e3.wt, e3.eq⟩
            have hP4 := (show FwAt w w3.drew G3 G6 ver lk (.slice (some ⟨g, 0, none⟩) X2.length c1) OV X2 YY by rw [HL.out]; exact P3.out.drew).setI HX.out (j := 33) (by decide) (x' := x4) (u := .slice As m cs) (by rw [hx4]; exact inC_set33 (P3.out.eI x (List.mem_of_getElem? HX.out)).ok _ _) hE4
            rw [HL.out] at hP4
            obtain ⟨X4, hX4⟩ : ∃ z, z = X2.set j x4 := ⟨_, rfl⟩
            rw [← hX4] at hP4
            have P4 := Lib.hid hP4
            have HL4 := Lib.hid (show X4.length = nI by rw [hX4, List.length_set]; exact HL.out)
            have HX4 := Lib.hid (show X4[j]? = some x4 by rw [hX4, List.getElem?_set_self (by rw [HL.out]; exact hlt)])
            have HIN4 := Lib.hid (show ∀ q x, q < j → X4[q]? = some x → x.in n m from fun q x hq hx => by rw [hX4, List.getElem?_set_ne (by omega)] at hx; exact HIN2.out q x hq hx)
            have HSC4 := Lib.hid (show x4.p.sc.length ≤ m by rw [hx4]; show (x.p.sc.take m).length ≤ m; rw [List.length_take]; omega)
            have HS1 := Lib.hid (show (w3.drew.setCell ⟨g, j * 36 + 33, none⟩ (.slice As m cs)).cell? ⟨G3, 1, none⟩ = some (.slice (some ⟨g, 0, none⟩) nI c1) from hP4.t.cell rfl)
            have hms : m ≤ cs := by omega
            clear hE4 hP4 hX4 hx4
            go_upto_region 10 with fail
            clear eS eSf cT
            refine wp_region_held_drew (S := (fun w' => w'.cell? ⟨G3, 1, none⟩ = some (.slice (some ⟨g, 0, none⟩) nI c1))) (by kernel_rfl) ?_ (fun hHeld => ?_)
            · exact HS0.out
            refine wpAnyH_take (i := 0) (oi := { dst := some 48, op := Go.Op.fieldAddr 26 (Go.Operand.tmp 3) 1, type := 0, pos := "ref.go:237", after := #[], guard := none }) (v := ?av0) rfl (by kernel_rfl) (by kernel_rfl) (by kernel_rfl) (fun _ _ _ h => h) (Or.inl ⟨by rfl, ?ay0⟩) (by assumption) ?ar0
            case ay0 => (intro w hSw; (try dsimp only at hSw); go_simp; try (with_reducible rfl))
            case ar0 =>
            try simp only [Act.put, List.setIfInBounds_toArray, List.set_cons_zero, List.set_cons_succ]
            refine wpAnyH_take (i := 1) (oi := { dst := some 49, op := Go.Op.load 22 (Go.Operand.tmp 48), type := 22, pos := "ref.go:237", after := #[{ on := 0, ground := Go.Ground.data }], guard := none }) (v := (.slice (some ⟨g, 0, none⟩) nI c1)) rfl (by kernel_rfl) (by kernel_rfl) (by kernel_rfl) (fun _ _ _ h => h) (Or.inl ⟨by rfl, ?ay1⟩) (by assumption) ?ar1
            case ay1 => (intro w hSw; (try dsimp only at hSw); go_simp; try (simp [hSw]))
            case ar1 =>
            try simp only [Act.put, List.setIfInBounds_toArray, List.set_cons_zero, List.set_cons_succ]
            refine wpAnyH_take (i := 2) (oi := { dst := some 50, op := Go.Op.move (Go.Operand.tmp 7), type := 3, pos := "ref.go:237", after := #[], guard := none }) (v := ?av2) rfl (by kernel_rfl) (by kernel_rfl) (by kernel_rfl) (fun _ _ _ h => h) (Or.inl ⟨by rfl, ?ay2⟩) (by assumption) ?ar2
            case ay2 => (intro w hSw; (try dsimp only at hSw); go_simp; try (with_reducible rfl))
            case ar2 =>
            try simp only [Act.put, List.setIfInBounds_toArray, List.set_cons_zero, List.set_cons_succ]
            refine wpAnyH_take (i := 3) (oi := { dst := some 51, op := Go.Op.fieldAddr 26 (Go.Operand.tmp 3) 1, type := 0, pos := "ref.go:237", after := #[], guard := none }) (v := ?av3) rfl (by kernel_rfl) (by kernel_rfl) (by kernel_rfl) (fun _ _ _ h => h) (Or.inl ⟨by rfl, ?ay3⟩) (by assumption) ?ar3
            case ay3 => (intro w hSw; (try dsimp only at hSw); go_simp; try (with_reducible rfl))
            case ar3 =>
            try simp only [Act.put, List.setIfInBounds_toArray, List.set_cons_zero, List.set_cons_succ]
            refine wpAnyH_take (i := 4) (oi := { dst := some 52, op := Go.Op.load 22 (Go.Operand.tmp 51), type := 22, pos := "ref.go:237", after := #[{ on := 3, ground := Go.Ground.data }], guard := none }) (v := (.slice (some ⟨g, 0, none⟩) nI c1)) rfl (by kernel_rfl) (by kernel_rfl) (by kernel_rfl) (fun _ _ _ h => h) (Or.inl ⟨by rfl, ?ay4⟩) (by assumption) ?ar4
            case ay4 => (intro w hSw; (try dsimp only at hSw); go_simp; try (simp [hSw]))
            case ar4 =>
            try simp only [Act.put, List.setIfInBounds_toArray, List.set_cons_zero, List.set_cons_succ]
            refine wpAnyH_take (i := 5) (oi := { dst := some 53, op := Go.Op.move (Go.Operand.tmp 7), type := 3, pos := "ref.go:237", after := #[], guard := none }) (v := ?av5) rfl (by kernel_rfl) (by kernel_rfl) (by kernel_rfl) (fun _ _ _ h => h) (Or.inl ⟨by rfl, ?ay5⟩) (by assumption) ?ar5
            case ay5 => (intro w hSw; (try dsimp only at hSw); go_simp; try (with_reducible rfl))
            case ar5 =>
            try simp only [Act.put, List.setIfInBounds_toArray, List.set_cons_zero, List.set_cons_succ]
            refine wpAnyH_take (i := 6) (oi := { dst := some 54, op := Go.Op.indexAddr 22 (Go.Operand.tmp 52) (Go.Operand.tmp 53), type := 0, pos := "ref.go:237", after := #[{ on := 4, ground := Go.Ground.data }, { on := 5, ground := Go.Ground.data }], guard := none }) (v := ?av6) rfl (by kernel_rfl) (by kernel_rfl) (by kernel_rfl) (fun _ _ _ h => h) (Or.inl ⟨by rfl, ?ay6⟩) (by assumption) ?ar6
            case ay6 => (intro w hSw; (try dsimp only at hSw); go_simp; try (with_reducible rfl))
            case ar6 =>
            try simp only [Act.put, List.setIfInBounds_toArray, List.set_cons_zero, List.set_cons_succ]
            refine wpAnyH_take (i := 7) (oi := { dst := some 55, op := Go.Op.fieldAddr 49 (Go.Operand.tmp 54) 1, type := 0, pos := "ref.go:237", after := #[{ on := 6, ground := Go.Ground.data }], guard := none }) (v := ?av7) rfl (by kernel_rfl) (by kernel_rfl) (by kernel_rfl) (fun _ _ _ h => h) (Or.inl ⟨by rfl, ?ay7⟩) (by assumption) ?ar7
            case ay7 => (intro w hSw; (try dsimp only at hSw); go_simp; try (with_reducible rfl))
            case ar7 =>
            try simp only [Act.put, List.setIfInBounds_toArray, List.set_cons_zero, List.set_cons_succ]
            refine wpAnyH_take (i := 9) (oi := { dst := some 57, op := Go.Op.move (Go.Operand.tmp 2), type := 3, pos := "ref.go:237", after := #[], guard := none }) (v := ?av9) rfl (by kernel_rfl) (by kernel_rfl) (by kernel_rfl) (fun _ _ _ h => h) (Or.inl ⟨by rfl, ?ay9⟩) (by assumption) ?ar9
            case ay9 => (intro w hSw; (try dsimp only at hSw); go_simp; try (with_reducible rfl))
            case ar9 =>
            try simp only [Act.put, List.setIfInBounds_toArray, List.set_cons_zero, List.set_cons_succ]
            refine wpAnyH_ready (rs := [8]) (by kernel_rfl) (by simp) ?_
            refine AllReadyH.cons (o := { dst := some 56, op := Go.Op.load 27 (Go.Operand.tmp 55), type := 27, pos := "ref.go:237", after := #[{ on := 7, ground := Go.Ground.data }], guard := none }) rfl (fun K hK => ?_) (AllReadyH.nil)
            go_simp
            refine hK.out _ _ ?_ (fun hHeld => ?_)
            · exact HS0.out
            clear hK K
            try simp only [Act.put, List.setIfInBounds_toArray, List.set_cons_zero, List.set_cons_succ]
            refine wpAnyH_take (i := 10) (oi := { dst := some 58, op := Go.Op.slice 27 (Go.Operand.tmp 56) none (some (Go.Operand.tmp 57)) none, type := 27, pos := "ref.go:237", after := #[{ on := 8, ground := Go.Ground.data }, { on := 9, ground := Go.Ground.data }], guard := none }) (v := (.slice As m cs)) rfl (by kernel_rfl) (by kernel_rfl) (by kernel_rfl) (fun _ _ _ h => h) (Or.inl ⟨by rfl, ?a_8y10⟩) (by assumption) ?a_8r10
            case a_8y10 => (intro w hSw; (try dsimp only at hSw); go_simp; try (with_reducible rfl))
            case a_8r10 =>
            try simp only [Act.put, List.setIfInBounds_toArray, List.set_cons_zero, List.set_cons_succ]
            refine wpAnyH_take (i := 11) (oi := { dst := some 59, op := Go.Op.indexAddr 22 (Go.Operand.tmp 49) (Go.Operand.tmp 50), type := 0, pos := "ref.go:237", after := #[{ on := 1, ground := Go.Ground.data }, { on := 2, ground := Go.Ground.data }, { on := 0, ground := Go.Ground.phase }, { on := 1, ground := Go.Ground.phase }, { on := 2, ground := Go.Ground.phase }, { on := 3, ground := Go.Ground.phase }, { on := 4, ground := Go.Ground.phase }, { on := 5, ground := Go.Ground.phase }, { on := 6, ground := Go.Ground.phase }, { on := 7, ground := Go.Ground.phase }, { on := 8, ground := Go.Ground.phase }, { on := 9, ground := Go.Ground.phase }, { on := 10, ground := Go.Ground.phase }], guard := none }) (v := ?a_8v11) rfl (by kernel_rfl) (by kernel_rfl) (by kernel_rfl) (fun _ _ _ h => h) (Or.inl ⟨by rfl, ?a_8y11⟩) (by assumption) ?a_8r11
            case a_8y11 => (intro w hSw; (try dsimp only at hSw); go_simp; try (with_reducible rfl))
            case a_8r11 =>
            try simp only [Act.put, List.setIfInBounds_toArray, List.set_cons_zero, List.set_cons_succ]
            refine wpAnyH_take (i := 12) (oi := { dst := some 60, op := Go.Op.fieldAddr 49 (Go.Operand.tmp 59) 1, type := 0, pos := "ref.go:237", after := #[{ on := 11, ground := Go.Ground.data }, { on := 0, ground := Go.Ground.phase }, { on := 1, ground := Go.Ground.phase }, { on := 2, ground := Go.Ground.phase }, { on := 3, ground := Go.Ground.phase }, { on := 4, ground := Go.Ground.phase }, { on := 5, ground := Go.Ground.phase }, { on := 6, ground := Go.Ground.phase }, { on := 7, ground := Go.Ground.phase }, { on := 8, ground := Go.Ground.phase }, { on := 9, ground := Go.Ground.phase }, { on := 10, ground := Go.Ground.phase }], guard := none }) (v := ?a_8v12) rfl (by kernel_rfl) (by kernel_rfl) (by kernel_rfl) (fun _ _ _ h => h) (Or.inl ⟨by rfl, ?a_8y12⟩) (by assumption) ?a_8r12
            case a_8y12 => (intro w hSw; (try dsimp only at hSw); go_simp; try (with_reducible rfl))
            case a_8r12 =>
            try simp only [Act.put, List.setIfInBounds_toArray, List.set_cons_zero, List.set_cons_succ]
            refine wpAnyH_ready (rs := [13]) (by kernel_rfl) (by simp) ?_
            refine AllReadyH.cons (o := { dst := none, op := Go.Op.store 27 (Go.Operand.tmp 60) (Go.Operand.tmp 58), type := 0, pos := "ref.go:237", after := #[{ on := 12, ground := Go.Ground.data }, { on := 10, ground := Go.Ground.data }, { on := 0, ground := Go.Ground.phase }, { on := 1, ground := Go.Ground.phase }, { on := 2, ground := Go.Ground.phase }, { on := 3, ground := Go.Ground.phase }, { on := 4, ground := Go.Ground.phase }, { on := 5, ground := Go.Ground.phase }, { on := 6, ground := Go.Ground.phase }, { on := 7, ground := Go.Ground.phase }, { on := 8, ground := Go.Ground.phase }, { on := 9, ground := Go.Ground.phase }, { on := 10, ground := Go.Ground.phase }], guard := none }) rfl (fun K hK => ?_) (AllReadyH.nil)
            go_simp
            refine hK.out _ _ ?_ (fun hHeld => ?_)
            · exact HS1.out
            clear hK K
            try simp only [Act.put]
            refine wpAnyH_done (by kernel_rfl) ?_ _
            obtain ⟨w4, hw4⟩ : ∃ z, z = (w3.setCell ⟨g, j * 36 + 33, none⟩ (.slice As m cs)).drew := ⟨_, rfl⟩
            replace P4 := Lib.hid (show FwAt w w4 G3 G6 ver lk (.slice (some ⟨g, 0, none⟩) nI c1) OV X4 YY by rw [hw4]; exact P4.out)
            rw [← hw4]
            clear hw4 HS0 HS1 db1 dS dSf
            have cT := P4.out.t.cell (show [Value.int .i32 ver, .slice (some ⟨g, 0, none⟩) nI c1, OV, .int .u32 lk][1]? = some (.slice (some ⟨g, 0, none⟩) nI c1) from rfl)
            have hE4 := P4.out.eI x4 (List.mem_of_getElem? HX4.out)
            have hP4X : FwAt w w4 G3 G6 ver lk (.slice (some ⟨g, 0, none⟩) X4.length c1) OV X4 YY := by rw [HL4.out]; exact P4.out
            obtain ⟨Aw, cw, hwf⟩ := hE4.wt.form
            obtain ⟨nV, hnV⟩ : ∃ z, z = x4.wl.length := ⟨_, rfl⟩
            rw [← hnV] at hwf
            have eW := (hP4X.cellI HX4.out (inC_wt hE4.ok)).1
            have eWf := (hP4X.cellI HX4.out (inC_wt hE4.ok)).2
            rw [hwf] at eW
            have hcapW := own_cap (show w4.ownsRow w.heap.size 27 1 (.slice Aw nV cw) nV (x4.wl.map (·.1)) by have q := hE4.wt.1; rw [hwf, ← hnV] at q; exact q)
            have HWV4 := Lib.hid hwf
            have HNV := Lib.hid hnV
            clear hE4 hP4X hwf hnV
            by_cases hb2 : n < nV
            · as_aux_lemma =>
              have db2 : decide ((n : Int) < (nV : Int)) = true := decide_eq_true (by omega)
              have HS0 := Lib.hid (show w4.drew.cell? ⟨G3, 1, none⟩ = some (.slice (some ⟨g, 0, none⟩) nI c1) from cT)
              have dW : w4.drew.cell? ⟨g, j * 36 + 35, none⟩ = some (.slice Aw nV cw) := eW
              have dWf : w4.drew.frozen? ⟨g, j * 36 + 35, none⟩ = false := eWf
              obtain ⟨xN, hxN⟩ : ∃ x : InV, x = ⟨{ x4.p with wt := (x4.wl.take n).map (·.2) }, x4.sv, .slice Aw n cw, x4.wl.take n⟩ := ⟨_, rfl⟩
              have hEN : El w4.drew w.heap.size xN := by
                have e4 := P4.out.drew.eI x4 (List.mem_of_getElem? HX4.out)
                rw [hxN]
                exact ⟨⟨e4.ok.hl, e4.ok.ix0, e4.ok.ix1, e4.ok.sq0, e4.ok.sq1⟩, e4.sc, BagAt.cut (n := nV) (by have q := e4.wt; rw [HWV4.out] at q; exact q) HNV.out (by omega), rfl⟩
              have hPN := (show FwAt w w4.drew G3 G6 ver lk (.slice (some ⟨g, 0, none⟩) X4.length c1) OV X4 YY by rw [HL4.out]; exact P4.out.drew).setI HX4.out (j := 35) (by decide) (x' := xN) (u := .slice Aw n cw) (by rw [hxN]; exact inC_set35 (P4.out.eI x4 (List.mem_of_getElem? HX4.out)).ok _ _ _) hEN
              rw [HL4.out] at hPN
              obtain ⟨XN, hXN⟩ : ∃ z, z = X4.set j xN := ⟨_, rfl⟩
              rw [← hXN] at hPN
              have P := Lib.hid hPN
              have HLN := Lib.hid (show XN.length = nI by rw [hXN, List.length_set]; exact HL4.out)
              have HXJ := Lib.hid (show XN[j]? = some xN by rw [hXN, List.getElem?_set_self (by rw [HL4.out]; exact hlt)])
              have HIN := Lib.hid (show ∀ q x, q < j → XN[q]? = some x → x.in n m from fun q x hq hx => by rw [hXN, List.getElem?_set_ne (by omega)] at hx; exact HIN4.out q x hq hx)
              have HSC := Lib.hid (show xN.p.sc.length ≤ m by rw [hxN]; exact HSC4.out)
              have HWV := Lib.hid (show xN.wv = .slice Aw n cw by rw [hxN])
              have HWLN := Lib.hid (show xN.wl.length = n by rw [hxN]; show (x4.wl.take n).length = n; rw [List.length_take]; have := HNV.out; omega)
              have HNW := Lib.hid (Nat.le_refl n)
              have HS1 := Lib.hid (show (w4.drew.setCell ⟨g, j * 36 + 35, none⟩ (.slice Aw n cw)).cell? ⟨G3, 1, none⟩ = some (.slice (some ⟨g, 0, none⟩) nI c1) from hPN.t.cell rfl)
              have hns : n ≤ cw := by omega
              clear hEN hPN hXN hxN
              go_upto_region 12 with fail
              clear eW eWf cT
              refine wp_region_held_drew (S := (fun w' => w'.cell? ⟨G3, 1, none⟩ = some (.slice (some ⟨g, 0, none⟩) nI c1))) (by kernel_rfl) ?_ (fun hHeld => ?_)
              · exact HS0.out
              refine wpAnyH_take (i := 0) (oi := { dst := some 70, op := Go.Op.fieldAddr 26 (Go.Operand.tmp 3) 1, type := 0, pos := "ref.go:240", after := #[], guard := none }) (v := ?b1v0) rfl (by kernel_rfl) (by kernel_rfl) (by kernel_rfl) (fun _ _ _ h => h) (Or.inl ⟨by rfl, ?b1y0⟩) (by assumption) ?b1r0
              case b1y0 => (intro w hSw; (try dsimp only at hSw); go_simp; try (with_reducible rfl))
              case b1r0 =>
              try simp only [Act.put, List.setIfInBounds_toArray, List.set_cons_zero, List.set_cons_succ]
              refine wpAnyH_take (i := 1) (oi := { dst := some 71, op := Go.Op.load 22 (Go.Operand.tmp 70), type := 22, pos := "ref.go:240", after := #[{ on := 0, ground := Go.Ground.data }], guard := none }) (v := (.slice (some ⟨g, 0, none⟩) nI c1)) rfl (by kernel_rfl) (by kernel_rfl) (by kernel_rfl) (fun _ _ _ h => h) (Or.inl ⟨by rfl, ?b1y1⟩) (by assumption) ?b1r1
              case b1y1 => (intro w hSw; (try dsimp only at hSw); go_simp; try (simp [hSw]))
              case b1r1 =>
              try simp only [Act.put, List.setIfInBounds_toArray, List.set_cons_zero, List.set_cons_succ]
              refine wpAnyH_take (i := 2) (oi := { dst := some 72, op := Go.Op.move (Go.Operand.tmp 7), type := 3, pos := "ref.go:240", after := #[], guard := none }) (v := ?b1v2) rfl (by kernel_rfl) (by kernel_rfl) (by kernel_rfl) (fun _ _ _ h => h) (Or.inl ⟨by rfl, ?b1y2⟩) (by assumption) ?b1r2
              case b1y2 => (intro w hSw; (try dsimp only at hSw); go_simp; try (with_reducible rfl))
              case b1r2 =>
              try simp only [Act.put, List.setIfInBounds_toArray, List.set_cons_zero, List.set_cons_succ]
              refine wpAnyH_take (i := 3) (oi := { dst := some 73, op := Go.Op.fieldAddr 26 (Go.Operand.tmp 3) 1, type := 0, pos := "ref.go:240", after := #[], guard := none }) (v := ?b1v3) rfl (by kernel_rfl) (by kernel_rfl) (by kernel_rfl) (fun _ _ _ h => h) (Or.inl ⟨by rfl, ?b1y3⟩) (by assumption) ?b1r3
              case b1y3 => (intro w hSw; (try dsimp only at hSw); go_simp; try (with_reducible rfl))
              case b1r3 =>
              try simp only [Act.put, List.setIfInBounds_toArray, List.set_cons_zero, List.set_cons_succ]
              refine wpAnyH_take (i := 4) (oi := { dst := some 74, op := Go.Op.load 22 (Go.Operand.tmp 73), type := 22, pos := "ref.go:240", after := #[{ on := 3, ground := Go.Ground.data }], guard := none }) (v := (.slice (some ⟨g, 0, none⟩) nI c1)) rfl (by kernel_rfl) (by kernel_rfl) (by kernel_rfl) (fun _ _ _ h => h) (Or.inl ⟨by rfl, ?b1y4⟩) (by assumption) ?b1r4
              case b1y4 => (intro w hSw; (try dsimp only at hSw); go_simp; try (simp [hSw]))
              case b1r4 =>
              try simp only [Act.put, List.setIfInBounds_toArray, List.set_cons_zero, List.set_cons_succ]
              refine wpAnyH_take (i := 5) (oi := { dst := some 75, op := Go.Op.move (Go.Operand.tmp 7), type := 3, pos := "ref.go:240", after := #[], guard := none }) (v := ?b1v5) rfl (by kernel_rfl) (by kernel_rfl) (by kernel_rfl) (fun _ _ _ h => h) (Or.inl ⟨by rfl, ?b1y5⟩) (by assumption) ?b1r5
              case b1y5 => (intro w hSw; (try dsimp only at hSw); go_simp; try (with_reducible rfl))
              case b1r5 =>
              try simp only [Act.put, List.setIfInBounds_toArray, List.set_cons_zero, List.set_cons_succ]
              refine wpAnyH_take (i := 6) (oi := { dst := some 76, op := Go.Op.indexAddr 22 (Go.Operand.tmp 74) (Go.Operand.tmp 75), type := 0, pos := "ref.go:240", after := #[{ on := 4, ground := Go.Ground.data }, { on := 5, ground := Go.Ground.data }], guard := none }) (v := ?b1v6) rfl (by kernel_rfl) (by kernel_rfl) (by kernel_rfl) (fun _ _ _ h => h) (Or.inl ⟨by rfl, ?b1y6⟩) (by assumption) ?b1r6
              case b1y6 => (intro w hSw; (try dsimp only at hSw); go_simp; try (with_reducible rfl))
              case b1r6 =>
              try simp only [Act.put, List.setIfInBounds_toArray, List.set_cons_zero, List.set_cons_succ]
              refine wpAnyH_take (i := 7) (oi := { dst := some 77, op := Go.Op.fieldAddr 49 (Go.Operand.tmp 76) 3, type := 0, pos := "ref.go:240", after := #[{ on := 6, ground := Go.Ground.data }], guard := none }) (v := ?b1v7) rfl (by kernel_rfl) (by kernel_rfl) (by kernel_rfl) (fun _ _ _ h => h) (Or.inl ⟨by rfl, ?b1y7⟩) (by assumption) ?b1r7
              case b1y7 => (intro w hSw; (try dsimp only at hSw); go_simp; try (with_reducible rfl))
              case b1r7 =>
              try simp only [Act.put, List.setIfInBounds_toArray, List.set_cons_zero, List.set_cons_succ]
              refine wpAnyH_take (i := 9) (oi := { dst := some 79, op := Go.Op.move (Go.Operand.tmp 1), type := 3, pos := "ref.go:240", after := #[], guard := none }) (v := ?b1v9) rfl (by kernel_rfl) (by kernel_rfl) (by kernel_rfl) (fun _ _ _ h => h) (Or.inl ⟨by rfl, ?b1y9⟩) (by assumption) ?b1r9
              case b1y9 => (intro w hSw; (try dsimp only at hSw); go_simp; try (with_reducible rfl))
              case b1r9 =>
              try simp only [Act.put, List.setIfInBounds_toArray, List.set_cons_zero, List.set_cons_succ]
              refine wpAnyH_ready (rs := [8]) (by kernel_rfl) (by simp) ?_
              refine AllReadyH.cons (o := { dst := some 78, op := Go.Op.load 47 (Go.Operand.tmp 77), type := 47, pos := "ref.go:240", after := #[{ on := 7, ground := Go.Ground.data }], guard := none }) rfl (fun K hK => ?_) (AllReadyH.nil)
              go_simp
              refine hK.out _ _ ?_ (fun hHeld => ?_)
              · exact HS0.out
              clear hK K
              try simp only [Act.put, List.setIfInBounds_toArray, List.set_cons_zero, List.set_cons_succ]
              refine wpAnyH_take (i := 10) (oi := { dst := some 80, op := Go.Op.slice 47 (Go.Operand.tmp 78) none (some (Go.Operand.tmp 79)) none, type := 47, pos := "ref.go:240", after := #[{ on := 8, ground := Go.Ground.data }, { on := 9, ground := Go.Ground.data }], guard := none }) (v := (.slice Aw n cw)) rfl (by kernel_rfl) (by kernel_rfl) (by kernel_rfl) (fun _ _ _ h => h) (Or.inl ⟨by rfl, ?b1_8y10⟩) (by assumption) ?b1_8r10
              case b1_8y10 => (intro w hSw; (try dsimp only at hSw); go_simp; try (with_reducible rfl))
              case b1_8r10 =>
              try simp only [Act.put, List.setIfInBounds_toArray, List.set_cons_zero, List.set_cons_succ]
              refine wpAnyH_take (i := 11) (oi := { dst := some 81, op := Go.Op.indexAddr 22 (Go.Operand.tmp 71) (Go.Operand.tmp 72), type := 0, pos := "ref.go:240", after := #[{ on := 1, ground := Go.Ground.data }, { on := 2, ground := Go.Ground.data }, { on := 0, ground := Go.Ground.phase }, { on := 1, ground := Go.Ground.phase }, { on := 2, ground := Go.Ground.phase }, { on := 3, ground := Go.Ground.phase }, { on := 4, ground := Go.Ground.phase }, { on := 5, ground := Go.Ground.phase }, { on := 6, ground := Go.Ground.phase }, { on := 7, ground := Go.Ground.phase }, { on := 8, ground := Go.Ground.phase }, { on := 9, ground := Go.Ground.phase }, { on := 10, ground := Go.Ground.phase }], guard := none }) (v := ?b1_8v11) rfl (by kernel_rfl) (by kernel_rfl) (by kernel_rfl) (fun _ _ _ h => h) (Or.inl ⟨by rfl, ?b1_8y11⟩) (by assumption) ?b1_8r11
              case b1_8y11 => (intro w hSw; (try dsimp only at hSw); go_simp; try (with_reducible rfl))
              case b1_8r11 =>
              try simp only [Act.put, List.setIfInBounds_toArray, List.set_cons_zero, List.set_cons_succ]
              refine wpAnyH_take (i := 12) (oi := { dst := some 82, op := Go.Op.fieldAddr 49 (Go.Operand.tmp 81) 3, type := 0, pos := "ref.go:240", after := #[{ on := 11, ground := Go.Ground.data }, { on := 0, ground := Go.Ground.phase }, { on := 1, ground := Go.Ground.phase }, { on := 2, ground := Go.Ground.phase }, { on := 3, ground := Go.Ground.phase }, { on := 4, ground := Go.Ground.phase }, { on := 5, ground := Go.Ground.phase }, { on := 6, ground := Go.Ground.phase }, { on := 7, ground := Go.Ground.phase }, { on := 8, ground := Go.Ground.phase }, { on := 9, ground := Go.Ground.phase }, { on := 10, ground := Go.Ground.phase }], guard := none }) (v := ?b1_8v12) rfl (by kernel_rfl) (by kernel_rfl) (by kernel_rfl) (fun _ _ _ h => h) (Or.inl ⟨by rfl, ?b1_8y12⟩) (by assumption) ?b1_8r12
              case b1_8y12 => (intro w hSw; (try dsimp only at hSw); go_simp; try (with_reducible rfl))
              case b1_8r12 =>
              try simp only [Act.put, List.setIfInBounds_toArray, List.set_cons_zero, List.set_cons_succ]
              refine wpAnyH_ready (rs := [13]) (by kernel_rfl) (by simp) ?_
              refine AllReadyH.cons (o := { dst := none, op := Go.Op.store 47 (Go.Operand.tmp 82) (Go.Operand.tmp 80), type := 0, pos := "ref.go:240", after := #[{ on := 12, ground := Go.Ground.data }, { on := 10, ground := Go.Ground.data }, { on := 0, ground := Go.Ground.phase }, { on := 1, ground := Go.Ground.phase }, { on := 2, ground := Go.Ground.phase }, { on := 3, ground := Go.Ground.phase }, { on := 4, ground := Go.Ground.phase }, { on := 5, ground := Go.Ground.phase }, { on := 6, ground := Go.Ground.phase }, { on := 7, ground := Go.Ground.phase }, { on := 8, ground := Go.Ground.phase }, { on := 9, ground := Go.Ground.phase }, { on := 10, ground := Go.Ground.phase }], guard := none }) rfl (fun K hK => ?_) (AllReadyH.nil)
              go_simp
              refine hK.out _ _ ?_ (fun hHeld => ?_)
              · exact HS1.out
              clear hK K
              try simp only [Act.put]
              refine wpAnyH_done (by kernel_rfl) ?_ _
              obtain ⟨nW, hnW⟩ : ∃ z, z = n := ⟨_, rfl⟩
              rw [← hnW] at HWV HWLN
              replace HNW := Lib.hid (show nW ≤ n by omega)
              obtain ⟨w5, hw5⟩ : ∃ z, z = (w4.setCell ⟨g, j * 36 + 35, none⟩ (.slice Aw n cw)).drew := ⟨_, rfl⟩
              replace P := Lib.hid (show FwAt w w5 G3 G6 ver lk (.slice (some ⟨g, 0, none⟩) nI c1) OV XN YY by rw [hw5]; exact P.out)
              rw [← hw5]
              clear hw5 HS0 HS1 db2
              have dS : True := trivial
              have dSf : True := trivial

              go_wp2_with fail
              clear dS dSf dW dWf
              go_loopw [8] (fun s wr => ∃ (k : Nat) (X3 : List InV) (x3 : InV), k ≤ nW ∧ s = .int .i64 (k : Int) ∧ Hid (FwAt w wr G3 G6 ver lk (.slice (some ⟨g, 0, none⟩) nI c1) OV X3 YY) ∧ Hid (X3.length = nI) ∧ Hid (X3[j]? = some x3) ∧ Hid (∀ q x, q < j → X3[q]? = some x → x.in n m) ∧ Hid (x3.p.sc.length ≤ m) ∧ Hid (x3.wl.length = nW) ∧ Hid (x3.wv = .slice Aw nW cw) ∧ Hid (∀ q p, q < k → x3.wl[q]? = some p → p.2.length ≤ m)) (fun s _ => nW - (intOf s).toNat)
              case atStart => exact ⟨0, XN, xN, Nat.zero_le _, rfl, P, HLN, HXJ, HIN, HSC, HWLN, HWV, Lib.hid (fun q p hq _ => by omega)⟩
              case round =>
                obtain ⟨k, X3, x3, hk, rfl, hP, hl3, hx3, hin3, hsc3, hwl3, hwv3, hit3⟩ := hrel
                obtain ⟨w6, rfl⟩ : ∃ z : World, z = wr := ⟨_, rfl⟩
                have c3 := hP.out.t.cell (show [Value.int .i32 ver, .slice (some ⟨g, 0, none⟩) nI c1, OV, .int .u32 lk][1]? = some (.slice (some ⟨g, 0, none⟩) nI c1) from rfl)
                have hPX : FwAt w w6 G3 G6 ver lk (.slice (some ⟨g, 0, none⟩) X3.length c1) OV X3 YY := by rw [hl3.out]; exact hP.out
                have hE3 := hP.out.eI x3 (List.mem_of_getElem? hx3.out)
                have cW := (hPX.cellI hx3.out (inC_wt hE3.ok)).1
                rw [hwv3.out] at cW
                by_cases hkl : k < nW
                · have dk : decide ((k : Int) < (nW : Int)) = true := decide_eq_true (by omega)
                  obtain ⟨p, hp⟩ : ∃ p, x3.wl[k]? = some p := ⟨_, List.getElem?_eq_getElem (by rw [hwl3.out]; exact hkl)⟩
                  have hbag : BagAt w6 w.heap.size (.slice Aw nW cw) x3.wl := by rw [← hwv3.out]; exact hE3.wt
                  have hbo : w6.ownsRow w.heap.size 27 1 (.slice Aw nW cw) nW (x3.wl.map (·.1)) := by have q := hbag.1; rw [hwl3.out] at q; exact q
                  have hcap := own_cap hbo
                  obtain ⟨gw, hAw, hgw, hgl⟩ := own_some hbo (by omega)
                  subst hAw
                  have hpo := hbag.2 p (List.mem_of_getElem? hp)
                  obtain ⟨v, zs⟩ := p
                  obtain ⟨Ai, ci, hf⟩ := hpo.form
                  dsimp only at hf hpo
                  subst hf
                  have cI : w6.cell? ⟨gw, k, none⟩ = some (.slice Ai zs.length ci) := by
                    rw [World.ownsRow.cellAt hbo k (by omega), List.getElem?_map, hp]
                    rfl
                  have fI := World.ownsRow.frozenAt hbo k
                  have hcapI := own_cap hpo
                  obtain ⟨nT, hnI⟩ : ∃ q, q = zs.length := ⟨_, rfl⟩
                  rw [← hnI] at cI hcapI hpo
                  obtain ⟨gcs, hgt⟩ : ∃ cs, w6.heap[gw]? = some (.cells cs 27 (0, 0)) := by
                    rcases hbo.2 with ⟨e, _⟩ | ⟨g', cap, cur, e, _, hg2, _⟩
                    · cases e
                    · injection e with e _ _
                      injection e with e
                      injection e with e
                      subst e
                      exact ⟨_, hg2⟩
                  have hgne : ¬ gw = G3 := fun e => by
                    have q : w6.heap[G3]? = _ := hP.out.t
                    rw [← e, hgt] at q
                    injection q with q
                    injection q with _ q
                    exact absurd q (by decide)
                  have hgng : ¬ gw = g := fun e => by
                    rcases hP.out.ins.2 with ⟨e1, _⟩ | ⟨g', cap, cur, e1, _, hg2, _⟩
                    · cases e1
                    · injection e1 with e1 _ _
                      injection e1 with e1
                      injection e1 with e1
                      rw [← e1, ← e, hgt] at hg2
                      injection hg2 with hg2
                      injection hg2 with _ hg2
                      exact absurd hg2 (by decide)
                  have P6 := Lib.hid hP.out
                  have HNI := Lib.hid hnI
                  have HP3 := Lib.hid hp
                  have HPO := Lib.hid hpo
                  have HGT := Lib.hid hgt
                  have HGE := Lib.hid hgw
                  have HGN := Lib.hid hgne
                  have HGG := Lib.hid hgng
                  clear hbag hbo hpo hp hgt hgw hgne hgng hP hPX hE3 hnI hgl
                  by_cases hb : m < nT
                  · as_aux_lemma =>
                    have db : decide ((m : Int) < (nT : Int)) = true := decide_eq_true (by omega)
                    have hS0 : w6.drew.cell? ⟨G3, 1, none⟩ = some (.slice (some ⟨g, 0, none⟩) nI c1) ∧ w6.drew.cell? ⟨g, j * 36 + 35, none⟩ = some (.slice (some ⟨gw, 0, none⟩) nW cw) := ⟨c3, cW⟩
                    have HS0 := Lib.hid hS0
                    have dI : w6.drew.cell? ⟨gw, k, none⟩ = some (.slice Ai nT ci) := cI
                    have dF : w6.drew.frozen? ⟨gw, k, none⟩ = false := fI
                    have HS1 := Lib.hid (show (w6.drew.setCell ⟨gw, k, none⟩ (.slice Ai m ci)).cell? ⟨G3, 1, none⟩ = some (.slice (some ⟨g, 0, none⟩) nI c1) ∧ (w6.drew.setCell ⟨gw, k, none⟩ (.slice Ai m ci)).cell? ⟨g, j * 36 + 35, none⟩ = some (.slice (some ⟨gw, 0, none⟩) nW cw) from by
                      have tt : Turns (fun q => q = gw) w6.drew (w6.drew.setCell ⟨gw, k, none⟩ (.slice Ai m ci)) := Turns.setCell (S := fun q => q = gw) (Turns.refl _ w6.drew) (p := ⟨gw, _, none⟩) (fun _ => rfl) _
                      exact ⟨(tt.cell (p := ⟨G3, 1, none⟩) P6.out.t.lt (fun e => HGN.out e.symm)).trans hS0.1, (tt.cell (p := ⟨g, _, none⟩) (P6.out.ins.lt g rfl).2 (fun e => HGG.out e.symm)).trans hS0.2⟩)
                    have P7 := Lib.hid (P6.out.drew.setB (g := gw) (k := k) (u := .slice Ai m ci) (zs := zs.take m) (show w6.drew.heap[gw]? = _ from HGT.out) HGE.out ((HPO.out : OwnB w6.drew w.heap.size (.slice Ai nT ci) zs).cut HNI.out (by omega)))
                    have hmi : m ≤ ci := by omega
                    clear hS0
                    go_upto_region 17 with fail
                    clear cI fI c3 cW
                    refine wp_region_held_drew (S := (fun w' => w'.cell? ⟨G3, 1, none⟩ = some (.slice (some ⟨g, 0, none⟩) nI c1) ∧ w'.cell? ⟨g, j * 36 + 35, none⟩ = some (.slice (some ⟨gw, 0, none⟩) nW cw))) (by kernel_rfl) ?_ (fun hHeld => ?_)
                    · exact HS0.out
                    refine wpAnyH_take (i := 0) (oi := { dst := some 106, op := Go.Op.fieldAddr 26 (Go.Operand.tmp 3) 1, type := 0, pos := "ref.go:244", after := #[], guard := none }) (v := ?c11v0) rfl (by kernel_rfl) (by kernel_rfl) (by kernel_rfl) (fun _ _ _ h => h) (Or.inl ⟨by rfl, ?c11y0⟩) (by assumption) ?c11r0
                    case c11y0 => (intro w hSw; (try dsimp only at hSw); go_simp; try (with_reducible rfl))
                    case c11r0 =>
                    try simp only [Act.put, List.setIfInBounds_toArray, List.set_cons_zero, List.set_cons_succ]
                    refine wpAnyH_take (i := 1) (oi := { dst := some 107, op := Go.Op.load 22 (Go.Operand.tmp 106), type := 22, pos := "ref.go:244", after := #[{ on := 0, ground := Go.Ground.data }], guard := none }) (v := (.slice (some ⟨g, 0, none⟩) nI c1)) rfl (by kernel_rfl) (by kernel_rfl) (by kernel_rfl) (fun _ _ _ h => h) (Or.inl ⟨by rfl, ?c11y1⟩) (by assumption) ?c11r1
                    case c11y1 => (intro w hSw; (try dsimp only at hSw); go_simp; try (simp [hSw.1]))
                    case c11r1 =>
                    try simp only [Act.put, List.setIfInBounds_toArray, List.set_cons_zero, List.set_cons_succ]
                    refine wpAnyH_take (i := 2) (oi := { dst := some 108, op := Go.Op.move (Go.Operand.tmp 7), type := 3, pos := "ref.go:244", after := #[], guard := none }) (v := ?c11v2) rfl (by kernel_rfl) (by kernel_rfl) (by kernel_rfl) (fun _ _ _ h => h) (Or.inl ⟨by rfl, ?c11y2⟩) (by assumption) ?c11r2
                    case c11y2 => (intro w hSw; (try dsimp only at hSw); go_simp; try (with_reducible rfl))
                    case c11r2 =>
                    try simp only [Act.put, List.setIfInBounds_toArray, List.set_cons_zero, List.set_cons_succ]
                    refine wpAnyH_take (i := 3) (oi := { dst := some 109, op := Go.Op.indexAddr 22 (Go.Operand.tmp 107) (Go.Operand.tmp 108), type := 0, pos := "ref.go:244", after := #[{ on := 1, ground := Go.Ground.data }, { on := 2, ground := Go.Ground.data }], guard := none }) (v := ?c11v3) rfl (by kernel_rfl) (by kernel_rfl) (by kernel_rfl) (fun _ _ _ h => h) (Or.inl ⟨by rfl, ?c11y3⟩) (by assumption) ?c11r3
                    case c11y3 => (intro w hSw; (try dsimp only at hSw); go_simp; try (with_reducible rfl))
                    case c11r3 =>
                    try simp only [Act.put, List.setIfInBounds_toArray, List.set_cons_zero, List.set_cons_succ]
                    refine wpAnyH_take (i := 4) (oi := { dst := some 110, op := Go.Op.fieldAddr 49 (Go.Operand.tmp 109) 3, type := 0, pos := "ref.go:244", after := #[{ on := 3, ground := Go.Ground.data }], guard := none }) (v := ?c11v4) rfl (by kernel_rfl) (by kernel_rfl) (by kernel_rfl) (fun _ _ _ h => h) (Or.inl ⟨by rfl, ?c11y4⟩) (by assumption) ?c11r4
                    case c11y4 => (intro w hSw; (try dsimp only at hSw); go_simp; try (with_reducible rfl))
                    case c11r4 =>
                    try simp only [Act.put, List.setIfInBounds_toArray, List.set_cons_zero, List.set_cons_succ]
                    refine wpAnyH_take (i := 5) (oi := { dst := some 111, op := Go.Op.load 47 (Go.Operand.tmp 110), type := 47, pos := "ref.go:244", after := #[{ on := 4, ground := Go.Ground.data }], guard := none }) (v := (.slice (some ⟨gw, 0, none⟩) nW cw)) rfl (by kernel_rfl) (by kernel_rfl) (by kernel_rfl) (fun _ _ _ h => h) (Or.inl ⟨by rfl, ?c11y5⟩) (by assumption) ?c11r5
                    case c11y5 => (intro w hSw; (try dsimp only at hSw); go_simp; try (simp [hSw.2]))
                    case c11r5 =>
                    try simp only [Act.put, List.setIfInBounds_toArray, List.set_cons_zero, List.set_cons_succ]
                    refine wpAnyH_take (i := 6) (oi := { dst := some 112, op := Go.Op.move (Go.Operand.tmp 8), type := 3, pos := "ref.go:244", after := #[], guard := none }) (v := ?c11v6) rfl (by kernel_rfl) (by kernel_rfl) (by kernel_rfl) (fun _ _ _ h => h) (Or.inl ⟨by rfl, ?c11y6⟩) (by assumption) ?c11r6
                    case c11y6 => (intro w hSw; (try dsimp only at hSw); go_simp; try (with_reducible rfl))
                    case c11r6 =>
                    try simp only [Act.put, List.setIfInBounds_toArray, List.set_cons_zero, List.set_cons_succ]
                    refine wpAnyH_take (i := 7) (oi := { dst := some 113, op := Go.Op.fieldAddr 26 (Go.Operand.tmp 3) 1, type := 0, pos := "ref.go:244", after := #[], guard := none }) (v := ?c11v7) rfl (by kernel_rfl) (by kernel_rfl) (by kernel_rfl) (fun _ _ _ h => h) (Or.inl ⟨by rfl, ?c11y7⟩) (by assumption) ?c11r7
                    case c11y7 => (intro w hSw; (try dsimp only at hSw); go_simp; try (with_reducible rfl))
                    case c11r7 =>
                    try simp only [Act.put, List.setIfInBounds_toArray, List.set_cons_zero, List.set_cons_succ]
                    refine wpAnyH_take (i := 8) (oi := { dst := some 114, op := Go.Op.load 22 (Go.Operand.tmp 113), type := 22, pos := "ref.go:244", after := #[{ on := 7, ground := Go.Ground.data }], guard := none }) (v := (.slice (some ⟨g, 0, none⟩) nI c1)) rfl (by kernel_rfl) (by kernel_rfl) (by kernel_rfl) (fun _ _ _ h => h) (Or.inl ⟨by rfl, ?c11y8⟩) (by assumption) ?c11r8
                    case c11y8 => (intro w hSw; (try dsimp only at hSw); go_simp; try (simp [hSw.1]))
                    case c11r8 =>
                    try simp only [Act.put, List.setIfInBounds_toArray, List.set_cons_zero, List.set_cons_succ]
                    refine wpAnyH_take (i := 9) (oi := { dst := some 115, op := Go.Op.move (Go.Operand.tmp 7), type := 3, pos := "ref.go:244", after := #[], guard := none }) (v := ?c11v9) rfl (by kernel_rfl) (by kernel_rfl) (by kernel_rfl) (fun _ _ _ h => h) (Or.inl ⟨by rfl, ?c11y9⟩) (by assumption) ?c11r9
                    case c11y9 => (intro w hSw; (try dsimp only at hSw); go_simp; try (with_reducible rfl))
                    case c11r9 =>
                    try simp only [Act.put, List.setIfInBounds_toArray, List.set_cons_zero, List.set_cons_succ]
                    refine wpAnyH_take (i := 10) (oi := { dst := some 116, op := Go.Op.indexAddr 22 (Go.Operand.tmp 114) (Go.Operand.tmp 115), type := 0, pos := "ref.go:244", after := #[{ on := 8, ground := Go.Ground.data }, { on := 9, ground := Go.Ground.data }], guard := none }) (v := ?c11v10) rfl (by kernel_rfl) (by kernel_rfl) (by kernel_rfl) (fun _ _ _ h => h) (Or.inl ⟨by rfl, ?c11y10⟩) (by assumption) ?c11r10
                    case c11y10 => (intro w hSw; (try dsimp only at hSw); go_simp; try (with_reducible rfl))
                    case c11r10 =>
                    try simp only [Act.put, List.setIfInBounds_toArray, List.set_cons_zero, List.set_cons_succ]
                    refine wpAnyH_take (i := 11) (oi := { dst := some 117, op := Go.Op.fieldAddr 49 (Go.Operand.tmp 116) 3, type := 0, pos := "ref.go:244", after := #[{ on := 10, ground := Go.Ground.data }], guard := none }) (v := ?c11v11) rfl (by kernel_rfl) (by kernel_rfl) (by kernel_rfl) (fun _ _ _ h => h) (Or.inl ⟨by rfl, ?c11y11⟩) (by assumption) ?c11r11
                    case c11y11 => (intro w hSw; (try dsimp only at hSw); go_simp; try (with_reducible rfl))
                    case c11r11 =>
                    try simp only [Act.put, List.setIfInBounds_toArray, List.set_cons_zero, List.set_cons_succ]
                    refine wpAnyH_take (i := 12) (oi := { dst := some 118, op := Go.Op.load 47 (Go.Operand.tmp 117), type := 47, pos := "ref.go:244", after := #[{ on := 11, ground := Go.Ground.data }], guard := none }) (v := (.slice (some ⟨gw, 0, none⟩) nW cw)) rfl (by kernel_rfl) (by kernel_rfl) (by kernel_rfl) (fun _ _ _ h => h) (Or.inl ⟨by rfl, ?c11y12⟩) (by assumption) ?c11r12
                    case c11y12 => (intro w hSw; (try dsimp only at hSw); go_simp; try (simp [hSw.2]))
                    case c11r12 =>
                    try simp only [Act.put, List.setIfInBounds_toArray, List.set_cons_zero, List.set_cons_succ]
                    refine wpAnyH_take (i := 13) (oi := { dst := some 119, op := Go.Op.move (Go.Operand.tmp 8), type := 3, pos := "ref.go:244", after := #[], guard := none }) (v := ?c11v13) rfl (by kernel_rfl) (by kernel_rfl) (by kernel_rfl) (fun _ _ _ h => h) (Or.inl ⟨by rfl, ?c11y13⟩) (by assumption) ?c11r13
                    case c11y13 => (intro w hSw; (try dsimp only at hSw); go_simp; try (with_reducible rfl))
                    case c11r13 =>
                    try simp only [Act.put, List.setIfInBounds_toArray, List.set_cons_zero, List.set_cons_succ]
                    refine wpAnyH_take (i := 14) (oi := { dst := some 120, op := Go.Op.indexAddr 47 (Go.Operand.tmp 118) (Go.Operand.tmp 119), type := 0, pos := "ref.go:244", after := #[{ on := 12, ground := Go.Ground.data }, { on := 13, ground := Go.Ground.data }], guard := none }) (v := ?c11v14) rfl (by kernel_rfl) (by kernel_rfl) (by kernel_rfl) (fun _ _ _ h => h) (Or.inl ⟨by rfl, ?c11y14⟩) (by assumption) ?c11r14
                    case c11y14 => (intro w hSw; (try dsimp only at hSw); go_simp; try (with_reducible rfl))
                    case c11r14 =>
                    try simp only [Act.put, List.setIfInBounds_toArray, List.set_cons_zero, List.set_cons_succ]
                    refine wpAnyH_take (i := 16) (oi := { dst := some 122, op := Go.Op.move (Go.Operand.tmp 2), type := 3, pos := "ref.go:244", after := #[], guard := none }) (v := ?c11v16) rfl (by kernel_rfl) (by kernel_rfl) (by kernel_rfl) (fun _ _ _ h => h) (Or.inl ⟨by rfl, ?c11y16⟩) (by assumption) ?c11r16
                    case c11y16 => (intro w hSw; (try dsimp only at hSw); go_simp; try (with_reducible rfl))
                    case c11r16 =>
                    try simp only [Act.put, List.setIfInBounds_toArray, List.set_cons_zero, List.set_cons_succ]
                    refine wpAnyH_ready (rs := [15]) (by kernel_rfl) (by simp) ?_
                    refine AllReadyH.cons (o := { dst := some 121, op := Go.Op.load 27 (Go.Operand.tmp 120), type := 27, pos := "ref.go:244", after := #[{ on := 14, ground := Go.Ground.data }], guard := none }) rfl (fun K hK => ?_) (AllReadyH.nil)
                    go_simp
                    refine hK.out _ _ ?_ (fun hHeld => ?_)
                    · exact HS0.out
                    clear hK K
                    try simp only [Act.put, List.setIfInBounds_toArray, List.set_cons_zero, List.set_cons_succ]
                    refine wpAnyH_take (i := 17) (oi := { dst := some 123, op := Go.Op.slice 27 (Go.Operand.tmp 121) none (some (Go.Operand.tmp 122)) none, type := 27, pos := "ref.go:244", after := #[{ on := 15, ground := Go.Ground.data }, { on := 16, ground := Go.Ground.data }], guard := none }) (v := (.slice Ai m ci)) rfl (by kernel_rfl) (by kernel_rfl) (by kernel_rfl) (fun _ _ _ h => h) (Or.inl ⟨by rfl, ?c11_15y17⟩) (by assumption) ?c11_15r17
                    case c11_15y17 => (intro w hSw; (try dsimp only at hSw); go_simp; try (with_reducible rfl))
                    case c11_15r17 =>
                    try simp only [Act.put, List.setIfInBounds_toArray, List.set_cons_zero, List.set_cons_succ]
                    refine wpAnyH_take (i := 18) (oi := { dst := some 124, op := Go.Op.indexAddr 47 (Go.Operand.tmp 111) (Go.Operand.tmp 112), type := 0, pos := "ref.go:244", after := #[{ on := 5, ground := Go.Ground.data }, { on := 6, ground := Go.Ground.data }, { on := 0, ground := Go.Ground.phase }, { on := 1, ground := Go.Ground.phase }, { on := 2, ground := Go.Ground.phase }, { on := 3, ground := Go.Ground.phase }, { on := 4, ground := Go.Ground.phase }, { on := 5, ground := Go.Ground.phase }, { on := 6, ground := Go.Ground.phase }, { on := 7, ground := Go.Ground.phase }, { on := 8, ground := Go.Ground.phase }, { on := 9, ground := Go.Ground.phase }, { on := 10, ground := Go.Ground.phase }, { on := 11, ground := Go.Ground.phase }, { on := 12, ground := Go.Ground.phase }, { on := 13, ground := Go.Ground.phase }, { on := 14, ground := Go.Ground.phase }, { on := 15, ground := Go.Ground.phase }, { on := 16, ground := Go.Ground.phase }, { on := 17, ground := Go.Ground.phase }], guard := none }) (v := ?c11_15v18) rfl (by kernel_rfl) (by kernel_rfl) (by kernel_rfl) (fun _ _ _ h => h) (Or.inl ⟨by rfl, ?c11_15y18⟩) (by assumption) ?c11_15r18
                    case c11_15y18 => (intro w hSw; (try dsimp only at hSw); go_simp; try (with_reducible rfl))
                    case c11_15r18 =>
                    try simp only [Act.put, List.setIfInBounds_toArray, List.set_cons_zero, List.set_cons_succ]
                    refine wpAnyH_ready (rs := [19]) (by kernel_rfl) (by simp) ?_
                    refine AllReadyH.cons (o := { dst := none, op := Go.Op.store 27 (Go.Operand.tmp 124) (Go.Operand.tmp 123), type := 0, pos := "ref.go:244", after := #[{ on := 18, ground := Go.Ground.data }, { on := 17, ground := Go.Ground.data }, { on := 0, ground := Go.Ground.phase }, { on := 1, ground := Go.Ground.phase }, { on := 2, ground := Go.Ground.phase }, { on := 3, ground := Go.Ground.phase }, { on := 4, ground := Go.Ground.phase }, { on := 5, ground := Go.Ground.phase }, { on := 6, ground := Go.Ground.phase }, { on := 7, ground := Go.Ground.phase }, { on := 8, ground := Go.Ground.phase }, { on := 9, ground := Go.Ground.phase }, { on := 10, ground := Go.Ground.phase }, { on := 11, ground := Go.Ground.phase }, { on := 12, ground := Go.Ground.phase }, { on := 13, ground := Go.Ground.phase }, { on := 14, ground := Go.Ground.phase }, { on := 15, ground := Go.Ground.phase }, { on := 16, ground := Go.Ground.phase }, { on := 17, ground := Go.Ground.phase }], guard := none }) rfl (fun K hK => ?_) (AllReadyH.nil)
                    go_simp
                    refine hK.out _ _ ?_ (fun hHeld => ?_)
                    · exact HS1.out
                    clear hK K
                    try simp only [Act.put]
                    refine wpAnyH_done (by kernel_rfl) ?_ _
                    go_wp2_with fail
                    refine ⟨⟨k + 1, _, setX x3 gw k (.slice Ai m ci) (zs.take m), hkl, by first | rfl | (rw [wrap_small2 (by omega) (by omega)]; rfl), P7, Lib.hid (by rw [List.length_map]; exact hl3.out), Lib.hid (by rw [List.getElem?_map, hx3.out]; rfl), Lib.hid (fun q x hq hx => by
                      rw [List.getElem?_map] at hx
                      cases hq2 : X3[q]? with
                      | none => rw [hq2] at hx; cases hx
                      | some x2 =>
                        rw [hq2] at hx
                        obtain rfl : setX x2 gw k (.slice Ai m ci) (zs.take m) = x := by simpa using hx
                        exact in_set (hin3.out q x2 hq hq2) (by rw [List.length_take]; omega)), hsc3, Lib.hid (by show (setL _ _ _ _ _ _).length = nW; rw [setL_length]; exact hwl3.out), hwv3, Lib.hid (fun q p hq hp => by
                      have hp' : (setL x3.wv x3.wl gw k (.slice Ai m ci) (zs.take m))[q]? = some p := hp
                      unfold setL at hp'
                      rw [hwv3.out, if_pos (show (Value.slice (some ⟨gw, 0, none⟩) nW cw).ownBlock = some gw by simp [Value.ownBlock])] at hp'
                      by_cases hqk : q = k
                      · subst hqk
                        rw [List.getElem?_set_self (by rw [hwl3.out]; exact hkl)] at hp'
                        injection hp' with hp'
                        rw [← hp']
                        show (zs.take m).length ≤ m
                        rw [List.length_take]
                        omega
                      · rw [List.getElem?_set_ne (fun e => hqk e.symm)] at hp'
                        exact hit3.out q p (by omega) hp')⟩, meas_n hkl⟩
                  · as_aux_lemma =>
                    have db : decide ((m : Int) < (nT : Int)) = false := decide_eq_false (by omega)
                    go_wp2_with fail
                    refine ⟨⟨k + 1, X3, x3, hkl, by first | rfl | (rw [wrap_small2 (by omega) (by omega)]; rfl), P6, hl3, hx3, hin3, hsc3, hwl3, hwv3, Lib.hid (fun q p hq hp => by
                      by_cases hqk : q = k
                      · subst hqk
                        rw [HP3.out] at hp
                        injection hp with hp
                        rw [← hp]
                        show zs.length ≤ m
                        have := HNI.out
                        omega
                      · exact hit3.out q p (by omega) hp)⟩, meas_n hkl⟩
                · as_aux_lemma =>
                  have dk : decide ((k : Int) < (nW : Int)) = false := decide_eq_false (by omega)
                  clear hPX hE3
                  go_wp2_with fail
                  refine ⟨⟨j + 1, X3, hlt, by first | rfl | (rw [wrap_small2 (by omega) (by omega)]; rfl), hP, hl3, Lib.hid (fun q x hq hx => by
                    by_cases hqj : q = j
                    · subst hqj
                      rw [hx3.out] at hx
                      injection hx with hx
                      rw [← hx]
                      exact ⟨hsc3.out, by rw [hwl3.out]; exact HNW.out, fun p hp => by
                        obtain ⟨i, hi⟩ := List.mem_iff_getElem?.1 hp
                        exact hit3.out i p (by have := (List.getElem?_eq_some_iff.1 hi).1; have := hwl3.out; omega) hi⟩
                    · exact hin3.out q x (by omega) hx)⟩, meas_n hlt⟩

            · as_aux_lemma =>
              have db2 : decide ((n : Int) < (nV : Int)) = false := decide_eq_false (by omega)
              obtain ⟨XN, hXN⟩ : ∃ z, z = X4 := ⟨_, rfl⟩
              obtain ⟨xN, hxN⟩ : ∃ z, z = x4 := ⟨_, rfl⟩
              have P := P4
              have HLN := HL4
              have HXJ := HX4
              have HIN := HIN4
              have HSC := HSC4
              have HWV := HWV4
              have HWLN := Lib.hid HNV.out.symm
              obtain ⟨nW, hnW⟩ : ∃ z, z = nV := ⟨_, rfl⟩
              have HNW := Lib.hid (show nW ≤ n by omega)
              rw [← hXN] at P HLN HXJ HIN
              rw [← hxN] at HXJ HSC HWV HWLN
              rw [← hnW] at HWV HWLN
              clear hXN hxN
              have dS : True := trivial
              have dSf : True := trivial
              have dW : True := trivial
              have dWf : True := trivial
              go_upto_region 13 with fail
              clear eW eWf cT

              go_wp2_with fail
              clear dS dSf dW dWf
              go_loopw [8] (fun s wr => ∃ (k : Nat) (X3 : List InV) (x3 : InV), k ≤ nW ∧ s = .int .i64 (k : Int) ∧ Hid (FwAt w wr G3 G6 ver lk (.slice (some ⟨g, 0, none⟩) nI c1) OV X3 YY) ∧ Hid (X3.length = nI) ∧ Hid (X3[j]? = some x3) ∧ Hid (∀ q x, q < j → X3[q]? = some x → x.in n m) ∧ Hid (x3.p.sc.length ≤ m) ∧ Hid (x3.wl.length = nW) ∧ Hid (x3.wv = .slice Aw nW cw) ∧ Hid (∀ q p, q < k → x3.wl[q]? = some p → p.2.length ≤ m)) (fun s _ => nW - (intOf s).toNat)
              case atStart => exact ⟨0, XN, xN, Nat.zero_le _, rfl, P, HLN, HXJ, HIN, HSC, HWLN, HWV, Lib.hid (fun q p hq _ => by omega)⟩
              case round =>
                obtain ⟨k, X3, x3, hk, rfl, hP, hl3, hx3, hin3, hsc3, hwl3, hwv3, hit3⟩ := hrel
                obtain ⟨w6, rfl⟩ : ∃ z : World, z = wr := ⟨_, rfl⟩
                have c3 := hP.out.t.cell (show [Value.int .i32 ver, .slice (some ⟨g, 0, none⟩) nI c1, OV, .int .u32 lk][1]? = some (.slice (some ⟨g, 0, none⟩) nI c1) from rfl)
                have hPX : FwAt w w6 G3 G6 ver lk (.slice (some ⟨g, 0, none⟩) X3.length c1) OV X3 YY := by rw [hl3.out]; exact hP.out
                have hE3 := hP.out.eI x3 (List.mem_of_getElem? hx3.out)
                have cW := (hPX.cellI hx3.out (inC_wt hE3.ok)).1
                rw [hwv3.out] at cW
                by_cases hkl : k < nW
                · have dk : decide ((k : Int) < (nW : Int)) = true := decide_eq_true (by omega)
                  obtain ⟨p, hp⟩ : ∃ p, x3.wl[k]? = some p := ⟨_, List.getElem?_eq_getElem (by rw [hwl3.out]; exact hkl)⟩
                  have hbag : BagAt w6 w.heap.size (.slice Aw nW cw) x3.wl := by rw [← hwv3.out]; exact hE3.wt
                  have hbo : w6.ownsRow w.heap.size 27 1 (.slice Aw nW cw) nW (x3.wl.map (·.1)) := by have q := hbag.1; rw [hwl3.out] at q; exact q
                  have hcap := own_cap hbo
                  obtain ⟨gw, hAw, hgw, hgl⟩ := own_some hbo (by omega)
                  subst hAw
                  have hpo := hbag.2 p (List.mem_of_getElem? hp)
                  obtain ⟨v, zs⟩ := p
                  obtain ⟨Ai, ci, hf⟩ := hpo.form
                  dsimp only at hf hpo
                  subst hf
                  have cI : w6.cell? ⟨gw, k, none⟩ = some (.slice Ai zs.length ci) := by
                    rw [World.ownsRow.cellAt hbo k (by omega), List.getElem?_map, hp]
                    rfl
                  have fI := World.ownsRow.frozenAt hbo k
                  have hcapI := own_cap hpo
                  obtain ⟨nT, hnI⟩ : ∃ q, q = zs.length := ⟨_, rfl⟩
                  rw [← hnI] at cI hcapI hpo
                  obtain ⟨gcs, hgt⟩ : ∃ cs, w6.heap[gw]? = some (.cells cs 27 (0, 0)) := by
                    rcases hbo.2 with ⟨e, _⟩ | ⟨g', cap, cur, e, _, hg2, _⟩
                    · cases e
                    · injection e with e _ _
                      injection e with e
                      injection e with e
                      subst e
                      exact ⟨_, hg2⟩
                  have hgne : ¬ gw = G3 := fun e => by
                    have q : w6.heap[G3]? = _ := hP.out.t
                    rw [← e, hgt] at q
                    injection q with q
                    injection q with _ q
                    exact absurd q (by decide)
                  have hgng : ¬ gw = g := fun e => by
                    rcases hP.out.ins.2 with ⟨e1, _⟩ | ⟨g', cap, cur, e1, _, hg2, _⟩
                    · cases e1
                    · injection e1 with e1 _ _
                      injection e1 with e1
                      injection e1 with e1
                      rw [← e1, ← e, hgt] at hg2
                      injection hg2 with hg2
                      injection hg2 with _ hg2
                      exact absurd hg2 (by decide)
                  have P6 := Lib.hid hP.out
                  have HNI := Lib.hid hnI
                  have HP3 := Lib.hid hp
                  have HPO := Lib.hid hpo
                  have HGT := Lib.hid hgt
                  have HGE := Lib.hid hgw
                  have HGN := Lib.hid hgne
                  have HGG := Lib.hid hgng
                  clear hbag hbo hpo hp hgt hgw hgne hgng hP hPX hE3 hnI hgl
                  by_cases hb : m < nT
                  · as_aux_lemma =>
                    have db : decide ((m : Int) < (nT : Int)) = true := decide_eq_true (by omega)
                    have hS0 : w6.drew.cell? ⟨G3, 1, none⟩ = some (.slice (some ⟨g, 0, none⟩) nI c1) ∧ w6.drew.cell? ⟨g, j * 36 + 35, none⟩ = some (.slice (some ⟨gw, 0, none⟩) nW cw) := ⟨c3, cW⟩
                    have HS0 := Lib.hid hS0
                    have dI : w6.drew.cell? ⟨gw, k, none⟩ = some (.slice Ai nT ci) := cI
                    have dF : w6.drew.frozen? ⟨gw, k, none⟩ = false := fI
                    have HS1 := Lib.hid (show (w6.drew.setCell ⟨gw, k, none⟩ (.slice Ai m ci)).cell? ⟨G3, 1, none⟩ = some (.slice (some ⟨g, 0, none⟩) nI c1) ∧ (w6.drew.setCell ⟨gw, k, none⟩ (.slice Ai m ci)).cell? ⟨g, j * 36 + 35, none⟩ = some (.slice (some ⟨gw, 0, none⟩) nW cw) from by
                      have tt : Turns (fun q => q = gw) w6.drew (w6.drew.setCell ⟨gw, k, none⟩ (.slice Ai m ci)) := Turns.setCell (S := fun q => q = gw) (Turns.refl _ w6.drew) (p := ⟨gw, _, none⟩) (fun _ => rfl) _
                      exact ⟨(tt.cell (p := ⟨G3, 1, none⟩) P6.out.t.lt (fun e => HGN.out e.symm)).trans hS0.1, (tt.cell (p := ⟨g, _, none⟩) (P6.out.ins.lt g rfl).2 (fun e => HGG.out e.symm)).trans hS0.2⟩)
                    have P7 := Lib.hid (P6.out.drew.setB (g := gw) (k := k) (u := .slice Ai m ci) (zs := zs.take m) (show w6.drew.heap[gw]? = _ from HGT.out) HGE.out ((HPO.out : OwnB w6.drew w.heap.size (.slice Ai nT ci) zs).cut HNI.out (by omega)))
                    have hmi : m ≤ ci := by omega
                    clear hS0
                    go_upto_region 17 with fail
                    clear cI fI c3 cW
                    refine wp_region_held_drew (S := (fun w' => w'.cell? ⟨G3, 1, none⟩ = some (.slice (some ⟨g, 0, none⟩) nI c1) ∧ w'.cell? ⟨g, j * 36 + 35, none⟩ = some (.slice (some ⟨gw, 0, none⟩) nW cw))) (by kernel_rfl) ?_ (fun hHeld => ?_)
                    · exact HS0.out
                    refine wpAnyH_take (i := 0) (oi := { dst := some 106, op := Go.Op.fieldAddr 26 (Go.Operand.tmp 3) 1, type := 0, pos := "ref.go:244", after := #[], guard := none }) (v := ?c12v0) rfl (by kernel_rfl) (by kernel_rfl) (by kernel_rfl) (fun _ _ _ h => h) (Or.inl ⟨by rfl, ?c12y0⟩) (by assumption) ?c12r0
                    case c12y0 => (intro w hSw; (try dsimp only at hSw); go_simp; try (with_reducible rfl))
                    case c12r0 =>
                    try simp only [Act.put, List.setIfInBounds_toArray, List.set_cons_zero, List.set_cons_succ]
                    refine wpAnyH_take (i := 1) (oi := { dst := some 107, op := Go.Op.load 22 (Go.Operand.tmp 106), type := 22, pos := "ref.go:244", after := #[{ on := 0, ground := Go.Ground.data }], guard := none }) (v := (.slice (some ⟨g, 0, none⟩) nI c1)) rfl (by kernel_rfl) (by kernel_rfl) (by kernel_rfl) (fun _ _ _ h => h) (Or.inl ⟨by rfl, ?c12y1⟩) (by assumption) ?c12r1
                    case c12y1 => (intro w hSw; (try dsimp only at hSw); go_simp; try (simp [hSw.1]))
                    case c12r1 =>
                    try simp only [Act.put, List.setIfInBounds_toArray, List.set_cons_zero, List.set_cons_succ]
                    refine wpAnyH_take (i := 2) (oi := { dst := some 108, op := Go.Op.move (Go.Operand.tmp 7), type := 3, pos := "ref.go:244", after := #[], guard := none }) (v := ?c12v2) rfl (by kernel_rfl) (by kernel_rfl) (by kernel_rfl) (fun _ _ _ h => h) (Or.inl ⟨by rfl, ?c12y2⟩) (by assumption) ?c12r2
                    case c12y2 => (intro w hSw; (try dsimp only at hSw); go_simp; try (with_reducible rfl))
                    case c12r2 =>
                    try simp only [Act.put, List.setIfInBounds_toArray, List.set_cons_zero, List.set_cons_succ]
                    refine wpAnyH_take (i := 3) (oi := { dst := some 109, op := Go.Op.indexAddr 22 (Go.Operand.tmp 107) (Go.Operand.tmp 108), type := 0, pos := "ref.go:244", after := #[{ on := 1, ground := Go.Ground.data }, { on := 2, ground := Go.Ground.data }], guard := none }) (v := ?c12v3) rfl (by kernel_rfl) (by kernel_rfl) (by kernel_rfl) (fun _ _ _ h => h) (Or.inl ⟨by rfl, ?c12y3⟩) (by assumption) ?c12r3
                    case c12y3 => (intro w hSw; (try dsimp only at hSw); go_simp; try (with_reducible rfl))
                    case c12r3 =>
                    try simp only [Act.put, List.setIfInBounds_toArray, List.set_cons_zero, List.set_cons_succ]
                    refine wpAnyH_take (i := 4) (oi := { dst := some 110, op := Go.Op.fieldAddr 49 (Go.Operand.tmp 109) 3, type := 0, pos := "ref.go:244", after := #[{ on := 3, ground := Go.Ground.data }], guard := none }) (v := ?c12v4) rfl (by kernel_rfl) (by kernel_rfl) (by kernel_rfl) (fun _ _ _ h => h) (Or.inl ⟨by rfl, ?c12y4⟩) (by assumption) ?c12r4
                    case c12y4 => (intro w hSw; (try dsimp only at hSw); go_simp; try (with_reducible rfl))
                    case c12r4 =>
                    try simp only [Act.put, List.setIfInBounds_toArray, List.set_cons_zero, List.set_cons_succ]
                    refine wpAnyH_take (i := 5) (oi := { dst := some 111, op := Go.Op.load 47 (Go.Operand.tmp 110), type := 47, pos := "ref.go:244", after := #[{ on := 4, ground := Go.Ground.data }], guard := none }) (v := (.slice (some ⟨gw, 0, none⟩) nW cw)) rfl (by kernel_rfl) (by kernel_rfl) (by kernel_rfl) (fun _ _ _ h => h) (Or.inl ⟨by rfl, ?c12y5⟩) (by assumption) ?c12r5
                    case c12y5 => (intro w hSw; (try dsimp only at hSw); go_simp; try (simp [hSw.2]))
                    case c12r5 =>
                    try simp only [Act.put, List.setIfInBounds_toArray, List.set_cons_zero, List.set_cons_succ]
                    refine wpAnyH_take (i := 6) (oi := { dst := some 112, op := Go.Op.move (Go.Operand.tmp 8), type := 3, pos := "ref.go:244", after := #[], guard := none }) (v := ?c12v6) rfl (by kernel_rfl) (by kernel_rfl) (by kernel_rfl) (fun _ _ _ h => h) (Or.inl ⟨by rfl, ?c12y6⟩) (by assumption) ?c12r6
                    case c12y6 => (intro w hSw; (try dsimp only at hSw); go_simp; try (with_reducible rfl))
                    case c12r6 =>
                    try simp only [Act.put, List.setIfInBounds_toArray, List.set_cons_zero, List.set_cons_succ]
                    refine wpAnyH_take (i := 7) (oi := { dst := some 113, op := Go.Op.fieldAddr 26 (Go.Operand.tmp 3) 1, type := 0, pos := "ref.go:244", after := #[], guard := none }) (v := ?c12v7) rfl (by kernel_rfl) (by kernel_rfl) (by kernel_rfl) (fun _ _ _ h => h) (Or.inl ⟨by rfl, ?c12y7⟩) (by assumption) ?c12r7
                    case c12y7 => (intro w hSw; (try dsimp only at hSw); go_simp; try (with_reducible rfl))
                    case c12r7 =>
                    try simp only [Act.put, List.setIfInBounds_toArray, List.set_cons_zero, List.set_cons_succ]
                    refine wpAnyH_take (i := 8) (oi := { dst := some 114, op := Go.Op.load 22 (Go.Operand.tmp 113), type := 22, pos := "ref.go:244", after := #[{ on := 7, ground := Go.Ground.data }], guard := none }) (v := (.slice (some ⟨g, 0, none⟩) nI c1)) rfl (by kernel_rfl) (by kernel_rfl) (by kernel_rfl) (fun _ _ _ h => h) (Or.inl ⟨by rfl, ?c12y8⟩) (by assumption) ?c12r8
                    case c12y8 => (intro w hSw; (try dsimp only at hSw); go_simp; try (simp [hSw.1]))
                    case c12r8 =>
                    try simp only [Act.put, List.setIfInBounds_toArray, List.set_cons_zero, List.set_cons_succ]
                    refine wpAnyH_take (i := 9) (oi := { dst := some 115, op := Go.Op.move (Go.Operand.tmp 7), type := 3, pos := "ref.go:244", after := #[], guard := none }) (v := ?c12v9) rfl (by kernel_rfl) (by kernel_rfl) (by kernel_rfl) (fun _ _ _ h => h) (Or.inl ⟨by rfl, ?c12y9⟩) (by assumption) ?c12r9
                    case c12y9 => (intro w hSw; (try dsimp only at hSw); go_simp; try (with_reducible rfl))
                    case c12r9 =>
                    try simp only [Act.put, List.setIfInBounds_toArray, List.set_cons_zero, List.set_cons_succ]
                    refine wpAnyH_take (i := 10) (oi := { dst := some 116, op := Go.Op.indexAddr 22 (Go.Operand.tmp 114) (Go.Operand.tmp 115), type := 0, pos := "ref.go:244", after := #[{ on := 8, ground := Go.Ground.data }, { on := 9, ground := Go.Ground.data }], guard := none }) (v := ?c12v10) rfl (by kernel_rfl) (by kernel_rfl) (by kernel_rfl) (fun _ _ _ h => h) (Or.inl ⟨by rfl, ?c12y10⟩) (by assumption) ?c12r10
                    case c12y10 => (intro w hSw; (try dsimp only at hSw); go_simp; try (with_reducible rfl))
                    case c12r10 =>
                    try simp only [Act.put, List.setIfInBounds_toArray, List.set_cons_zero, List.set_cons_succ]
                    refine wpAnyH_take (i := 11) (oi := { dst := some 117, op := Go.Op.fieldAddr 49 (Go.Operand.tmp 116) 3, type := 0, pos := "ref.go:244", after := #[{ on := 10, ground := Go.Ground.data }], guard := none }) (v := ?c12v11) rfl (by kernel_rfl) (by kernel_rfl) (by kernel_rfl) (fun _ _ _ h => h) (Or.inl ⟨by rfl, ?c12y11⟩) (by assumption) ?c12r11
                    case c12y11 => (intro w hSw; (try dsimp only at hSw); go_simp; try (with_reducible rfl))
                    case c12r11 =>
                    try simp only [Act.put, List.setIfInBounds_toArray, List.set_cons_zero, List.set_cons_succ]
                    refine wpAnyH_take (i := 12) (oi := { dst := some 118, op := Go.Op.load 47 (Go.Operand.tmp 117), type := 47, pos := "ref.go:244", after := #[{ on := 11, ground := Go.Ground.data }], guard := none }) (v := (.slice (some ⟨gw, 0, none⟩) nW cw)) rfl (by kernel_rfl) (by kernel_rfl) (by kernel_rfl) (fun _ _ _ h => h) (Or.inl ⟨by rfl, ?c12y12⟩) (by assumption) ?c12r12
                    case c12y12 => (intro w hSw; (try dsimp only at hSw); go_simp; try (simp [hSw.2]))
                    case c12r12 =>
                    try simp only [Act.put, List.setIfInBounds_toArray, List.set_cons_zero, List.set_cons_succ]
                    refine wpAnyH_take (i := 13) (oi := { dst := some 119, op := Go.Op.move (Go.Operand.tmp 8), type := 3, pos := "ref.go:244", after := #[], guard := none }) (v := ?c12v13) rfl (by kernel_rfl) (by kernel_rfl) (by kernel_rfl) (fun _ _ _ h => h) (Or.inl ⟨by rfl, ?c12y13⟩) (by assumption) ?c12r13
                    case c12y13 => (intro w hSw; (try dsimp only at hSw); go_simp; try (with_reducible rfl))
                    case c12r13 =>
                    try simp only [Act.put, List.setIfInBounds_toArray, List.set_cons_zero, List.set_cons_succ]
                    refine wpAnyH_take (i := 14) (oi := { dst := some 120, op := Go.Op.indexAddr 47 (Go.Operand.tmp 118) (Go.Operand.tmp 119), type := 0, pos := "ref.go:244", after := #[{ on := 12, ground := Go.Ground.data }, { on := 13, ground := Go.Ground.data }], guard := none }) (v := ?c12v14) rfl (by kernel_rfl) (by kernel_rfl) (by kernel_rfl) (fun _ _ _ h => h) (Or.inl ⟨by rfl, ?c12y14⟩) (by assumption) ?c12r14
                    case c12y14 => (intro w hSw; (try dsimp only at hSw); go_simp; try (with_reducible rfl))
                    case c12r14 =>
                    try simp only [Act.put, List.setIfInBounds_toArray, List.set_cons_zero, List.set_cons_succ]
                    refine wpAnyH_take (i := 16) (oi := { dst := some 122, op := Go.Op.move (Go.Operand.tmp 2), type := 3, pos := "ref.go:244", after := #[], guard := none }) (v := ?c12v16) rfl (by kernel_rfl) (by kernel_rfl) (by kernel_rfl) (fun _ _ _ h => h) (Or.inl ⟨by rfl, ?c12y16⟩) (by assumption) ?c12r16
                    case c12y16 => (intro w hSw; (try dsimp only at hSw); go_simp; try (with_reducible rfl))
                    case c12r16 =>
                    try simp only [Act.put, List.setIfInBounds_toArray, List.set_cons_zero, List.set_cons_succ]
                    refine wpAnyH_ready (rs := [15]) (by kernel_rfl) (by simp) ?_
                    refine AllReadyH.cons (o := { dst := some 121, op := Go.Op.load 27 (Go.Operand.tmp 120), type := 27, pos := "ref.go:244", after := #[{ on := 14, ground := Go.Ground.data }], guard := none }) rfl (fun K hK => ?_) (AllReadyH.nil)
                    go_simp
                    refine hK.out _ _ ?_ (fun hHeld => ?_)
                    · exact HS0.out
                    clear hK K
                    try simp only [Act.put, List.setIfInBounds_toArray, List.set_cons_zero, List.set_cons_succ]
                    refine wpAnyH_take (i := 17) (oi := { dst := some 123, op := Go.Op.slice 27 (Go.Operand.tmp 121) none (some (Go.Operand.tmp 122)) none, type := 27, pos := "ref.go:244", after := #[{ on := 15, ground := Go.Ground.data }, { on := 16, ground := Go.Ground.data }], guard := none }) (v := (.slice Ai m ci)) rfl (by kernel_rfl) (by kernel_rfl) (by kernel_rfl) (fun _ _ _ h => h) (Or.inl ⟨by rfl, ?c12_15y17⟩) (by assumption) ?c12_15r17
                    case c12_15y17 => (intro w hSw; (try dsimp only at hSw); go_simp; try (with_reducible rfl))
                    case c12_15r17 =>
                    try simp only [Act.put, List.setIfInBounds_toArray, List.set_cons_zero, List.set_cons_succ]
                    refine wpAnyH_take (i := 18) (oi := { dst := some 124, op := Go.Op.indexAddr 47 (Go.Operand.tmp 111) (Go.Operand.tmp 112), type := 0, pos := "ref.go:244", after := #[{ on := 5, ground := Go.Ground.data }, { on := 6, ground := Go.Ground.data }, { on := 0, ground := Go.Ground.phase }, { on := 1, ground := Go.Ground.phase }, { on := 2, ground := Go.Ground.phase }, { on := 3, ground := Go.Ground.phase }, { on := 4, ground := Go.Ground.phase }, { on := 5, ground := Go.Ground.phase }, { on := 6, ground := Go.Ground.phase }, { on := 7, ground := Go.Ground.phase }, { on := 8, ground := Go.Ground.phase }, { on := 9, ground := Go.Ground.phase }, { on := 10, ground := Go.Ground.phase }, { on := 11, ground := Go.Ground.phase }, { on := 12, ground := Go.Ground.phase }, { on := 13, ground := Go.Ground.phase }, { on := 14, ground := Go.Ground.phase }, { on := 15, ground := Go.Ground.phase }, { on := 16, ground := Go.Ground.phase }, { on := 17, ground := Go.Ground.phase }], guard := none }) (v := ?c12_15v18) rfl (by kernel_rfl) (by kernel_rfl) (by kernel_rfl) (fun _ _ _ h => h) (Or.inl ⟨by rfl, ?c12_15y18⟩) (by assumption) ?c12_15r18
                    case c12_15y18 => (intro w hSw; (try dsimp only at hSw); go_simp; try (with_reducible rfl))
                    case c12_15r18 =>
                    try simp only [Act.put, List.setIfInBounds_toArray, List.set_cons_zero, List.set_cons_succ]
                    refine wpAnyH_ready (rs := [19]) (by kernel_rfl) (by simp) ?_
                    refine AllReadyH.cons (o := { dst := none, op := Go.Op.store 27 (Go.Operand.tmp 124) (Go.Operand.tmp 123), type := 0, pos := "ref.go:244", after := #[{ on := 18, ground := Go.Ground.data }, { on := 17, ground := Go.Ground.data }, { on := 0, ground := Go.Ground.phase }, { on := 1, ground := Go.Ground.phase }, { on := 2, ground := Go.Ground.phase }, { on := 3, ground := Go.Ground.phase }, { on := 4, ground := Go.Ground.phase }, { on := 5, ground := Go.Ground.phase }, { on := 6, ground := Go.Ground.phase }, { on := 7, ground := Go.Ground.phase }, { on := 8, ground := Go.Ground.phase }, { on := 9, ground := Go.Ground.phase }, { on := 10, ground := Go.Ground.phase }, { on := 11, ground := Go.Ground.phase }, { on := 12, ground := Go.Ground.phase }, { on := 13, ground := Go.Ground.phase }, { on := 14, ground := Go.Ground.phase }, { on := 15, ground := Go.Ground.phase }, { on := 16, ground := Go.Ground.phase }, { on := 17, ground := Go.Ground.phase }], guard := none }) rfl (fun K hK => ?_) (AllReadyH.nil)
                    go_simp
                    refine hK.out _ _ ?_ (fun hHeld => ?_)
                    · exact HS1.out
                    clear hK K
                    try simp only [Act.put]
                    refine wpAnyH_done (by kernel_rfl) ?_ _
                    go_wp2_with fail
                    refine ⟨⟨k + 1, _, setX x3 gw k (.slice Ai m ci) (zs.take m), hkl, by first | rfl | (rw [wrap_small2 (by omega) (by omega)]; rfl), P7, Lib.hid (by rw [List.length_map]; exact hl3.out), Lib.hid (by rw [List.getElem?_map, hx3.out]; rfl), Lib.hid (fun q x hq hx => by
                      rw [List.getElem?_map] at hx
                      cases hq2 : X3[q]? with
                      | none => rw [hq2] at hx; cases hx
                      | some x2 =>
                        rw [hq2] at hx
                        obtain rfl : setX x2 gw k (.slice Ai m ci) (zs.take m) = x := by simpa using hx
                        exact in_set (hin3.out q x2 hq hq2) (by rw [List.length_take]; omega)), hsc3, Lib.hid (by show (setL _ _ _ _ _ _).length = nW; rw [setL_length]; exact hwl3.out), hwv3, Lib.hid (fun q p hq hp => by
                      have hp' : (setL x3.wv x3.wl gw k (.slice Ai m ci) (zs.take m))[q]? = some p := hp
                      unfold setL at hp'
                      rw [hwv3.out, if_pos (show (Value.slice (some ⟨gw, 0, none⟩) nW cw).ownBlock = some gw by simp [Value.ownBlock])] at hp'
                      by_cases hqk : q = k
                      · subst hqk
                        rw [List.getElem?_set_self (by rw [hwl3.out]; exact hkl)] at hp'
                        injection hp' with hp'
                        rw [← hp']
                        show (zs.take m).length ≤ m
                        rw [List.length_take]
                        omega
                      · rw [List.getElem?_set_ne (fun e => hqk e.symm)] at hp'
                        exact hit3.out q p (by omega) hp')⟩, meas_n hkl⟩
                  · as_aux_lemma =>
                    have db : decide ((m : Int) < (nT : Int)) = false := decide_eq_false (by omega)
                    go_wp2_with fail
                    refine ⟨⟨k + 1, X3, x3, hkl, by first | rfl | (rw [wrap_small2 (by omega) (by omega)]; rfl), P6, hl3, hx3, hin3, hsc3, hwl3, hwv3, Lib.hid (fun q p hq hp => by
                      by_cases hqk : q = k
                      · subst hqk
                        rw [HP3.out] at hp
                        injection hp with hp
                        rw [← hp]
                        show zs.length ≤ m
                        have := HNI.out
                        omega
                      · exact hit3.out q p (by omega) hp)⟩, meas_n hkl⟩
                · as_aux_lemma =>
                  have dk : decide ((k : Int) < (nW : Int)) = false := decide_eq_false (by omega)
                  clear hPX hE3
                  go_wp2_with fail
                  refine ⟨⟨j + 1, X3, hlt, by first | rfl | (rw [wrap_small2 (by omega) (by omega)]; rfl), hP, hl3, Lib.hid (fun q x hq hx => by
                    by_cases hqj : q = j
                    · subst hqj
                      rw [hx3.out] at hx
                      injection hx with hx
                      rw [← hx]
                      exact ⟨hsc3.out, by rw [hwl3.out]; exact HNW.out, fun p hp => by
                        obtain ⟨i, hi⟩ := List.mem_iff_getElem?.1 hp
                        exact hit3.out i p (by have := (List.getElem?_eq_some_iff.1 hi).1; have := hwl3.out; omega) hi⟩
                    · exact hin3.out q x (by omega) hx)⟩, meas_n hlt⟩

          · as_aux_lemma =>
            have db1 : decide ((m : Int) < (nZ : Int)) = false := decide_eq_false (by omega)
            obtain ⟨w4, hw4⟩ : ∃ z, z = w3 := ⟨_, rfl⟩
            obtain ⟨X4, hX4⟩ : ∃ z, z = X2 := ⟨_, rfl⟩
            obtain ⟨x4, hx4⟩ : ∃ z, z = x := ⟨_, rfl⟩
            have HSC4 := Lib.hid (show x4.p.sc.length ≤ m by rw [hx4]; have := HNZ.out; omega)
            go_upto_region 11 with fail
            clear eS eSf cT db1
            have P4 := P3
            have HL4 := HL
            have HX4 := HX
            have HIN4 := HIN2
            rw [← hX4] at P4 HL4 HX4 HIN4
            rw [← hx4] at HX4
            rw [← hw4] at P4 ⊢
            clear hw4 hX4 hx4
            have cT := P4.out.t.cell (show [Value.int .i32 ver, .slice (some ⟨g, 0, none⟩) nI c1, OV, .int .u32 lk][1]? = some (.slice (some ⟨g, 0, none⟩) nI c1) from rfl)
            have hE4 := P4.out.eI x4 (List.mem_of_getElem? HX4.out)
            have hP4X : FwAt w w4 G3 G6 ver lk (.slice (some ⟨g, 0, none⟩) X4.length c1) OV X4 YY := by rw [HL4.out]; exact P4.out
            obtain ⟨Aw, cw, hwf⟩ := hE4.wt.form
            obtain ⟨nV, hnV⟩ : ∃ z, z = x4.wl.length := ⟨_, rfl⟩
            rw [← hnV] at hwf
            have eW := (hP4X.cellI HX4.out (inC_wt hE4.ok)).1
            have eWf := (hP4X.cellI HX4.out (inC_wt hE4.ok)).2
            rw [hwf] at eW
            have hcapW := own_cap (show w4.ownsRow w.heap.size 27 1 (.slice Aw nV cw) nV (x4.wl.map (·.1)) by have q := hE4.wt.1; rw [hwf, ← hnV] at q; exact q)
            have HWV4 := Lib.hid hwf
            have HNV := Lib.hid hnV
            clear hE4 hP4X hwf hnV
            by_cases hb2 : n < nV
            · as_aux_lemma =>
              have db2 : decide ((n : Int) < (nV : Int)) = true := decide_eq_true (by omega)
              have HS0 := Lib.hid (show w4.drew.cell? ⟨G3, 1, none⟩ = some (.slice (some ⟨g, 0, none⟩) nI c1) from cT)
              have dW : w4.drew.cell? ⟨g, j * 36 + 35, none⟩ = some (.slice Aw nV cw) := eW
              have dWf : w4.drew.frozen? ⟨g, j * 36 + 35, none⟩ = false := eWf
              obtain ⟨xN, hxN⟩ : ∃ x : InV, x = ⟨{ x4.p with wt := (x4.wl.take n).map (·.2) }, x4.sv, .slice Aw n cw, x4.wl.take n⟩ := ⟨_, rfl⟩
              have hEN : El w4.drew w.heap.size xN := by
                have e4 := P4.out.drew.eI x4 (List.mem_of_getElem? HX4.out)
                rw [hxN]
                exact ⟨⟨e4.ok.hl, e4.ok.ix0, e4.ok.ix1, e4.ok.sq0, e4.ok.sq1⟩, e4.sc, BagAt.cut (n := nV) (by have q := e4.wt; rw [HWV4.out] at q; exact q) HNV.out (by omega), rfl⟩
              have hPN := (show FwAt w w4.drew G3 G6 ver lk (.slice (some ⟨g, 0, none⟩) X4.length c1) OV X4 YY by rw [HL4.out]; exact P4.out.drew).setI HX4.out (j := 35) (by decide) (x' := xN) (u := .slice Aw n cw) (by rw [hxN]; exact inC_set35 (P4.out.eI x4 (List.mem_of_getElem? HX4.out)).ok _ _ _) hEN
              rw [HL4.out] at hPN
              obtain ⟨XN, hXN⟩ : ∃ z, z = X4.set j xN := ⟨_, rfl⟩
              rw [← hXN] at hPN
              have P := Lib.hid hPN
              have HLN := Lib.hid (show XN.length = nI by rw [hXN, List.length_set]; exact HL4.out)
              have HXJ := Lib.hid (show XN[j]? = some xN by rw [hXN, List.getElem?_set_self (by rw [HL4.out]; exact hlt)])
              have HIN := Lib.hid (show ∀ q x, q < j → XN[q]? = some x → x.in n m from fun q x hq hx => by rw [hXN, List.getElem?_set_ne (by omega)] at hx; exact HIN4.out q x hq hx)
              have HSC := Lib.hid (show xN.p.sc.length ≤ m by rw [hxN]; exact HSC4.out)
              have HWV := Lib.hid (show xN.wv = .slice Aw n cw by rw [hxN])
              have HWLN := Lib.hid (show xN.wl.length = n by rw [hxN]; show (x4.wl.take n).length = n; rw [List.length_take]; have := HNV.out; omega)
              have HNW := Lib.hid (Nat.le_refl n)
              have HS1 := Lib.hid (show (w4.drew.setCell ⟨g, j * 36 + 35, none⟩ (.slice Aw n cw)).cell? ⟨G3, 1, none⟩ = some (.slice (some ⟨g, 0, none⟩) nI c1) from hPN.t.cell rfl)
              have hns : n ≤ cw := by omega
              clear hEN hPN hXN hxN
              go_upto_region 12 with fail
              clear eW eWf cT
              refine wp_region_held_drew (S := (fun w' => w'.cell? ⟨G3, 1, none⟩ = some (.slice (some ⟨g, 0, none⟩) nI c1))) (by kernel_rfl) ?_ (fun hHeld => ?_)
              · exact HS0.out
              refine wpAnyH_take (i := 0) (oi := { dst := some 70, op := Go.Op.fieldAddr 26 (Go.Operand.tmp 3) 1, type := 0, pos := "ref.go:240", after := #[], guard := none }) (v := ?b2v0) rfl (by kernel_rfl) (by kernel_rfl) (by kernel_rfl) (fun _ _ _ h => h) (Or.inl ⟨by rfl, ?b2y0⟩) (by assumption) ?b2r0
              case b2y0 => (intro w hSw; (try dsimp only at hSw); go_simp; try (with_reducible rfl))
              case b2r0 =>
              try simp only [Act.put, List.setIfInBounds_toArray, List.set_cons_zero, List.set_cons_succ]
              refine wpAnyH_take (i := 1) (oi := { dst := some 71, op := Go.Op.load 22 (Go.Operand.tmp 70), type := 22, pos := "ref.go:240", after := #[{ on := 0, ground := Go.Ground.data }], guard := none }) (v := (.slice (some ⟨g, 0, none⟩) nI c1)) rfl (by kernel_rfl) (by kernel_rfl) (by kernel_rfl) (fun _ _ _ h => h) (Or.inl ⟨by rfl, ?b2y1⟩) (by assumption) ?b2r1
              case b2y1 => (intro w hSw; (try dsimp only at hSw); go_simp; try (simp [hSw]))
              case b2r1 =>
              try simp only [Act.put, List.setIfInBounds_toArray, List.set_cons_zero, List.set_cons_succ]
              refine wpAnyH_take (i := 2) (oi := { dst := some 72, op := Go.Op.move (Go.Operand.tmp 7), type := 3, pos := "ref.go:240", after := #[], guard := none }) (v := ?b2v2) rfl (by kernel_rfl) (by kernel_rfl) (by kernel_rfl) (fun _ _ _ h => h) (Or.inl ⟨by rfl, ?b2y2⟩) (by assumption) ?b2r2
              case b2y2 => (intro w hSw; (try dsimp only at hSw); go_simp; try (with_reducible rfl))
              case b2r2 =>
              try simp only [Act.put, List.setIfInBounds_toArray, List.set_cons_zero, List.set_cons_succ]
              refine wpAnyH_take (i := 3) (oi := { dst := some 73, op := Go.Op.fieldAddr 26 (Go.Operand.tmp 3) 1, type := 0, pos := "ref.go:240", after := #[], guard := none }) (v := ?b2v3) rfl (by kernel_rfl) (by kernel_rfl) (by kernel_rfl) (fun _ _ _ h => h) (Or.inl ⟨by rfl, ?b2y3⟩) (by assumption) ?b2r3
              case b2y3 => (intro w hSw; (try dsimp only at hSw); go_simp; try (with_reducible rfl))
              case b2r3 =>
              try simp only [Act.put, List.setIfInBounds_toArray, List.set_cons_zero, List.set_cons_succ]
              refine wpAnyH_take (i := 4) (oi := { dst := some 74, op := Go.Op.load 22 (Go.Operand.tmp 73), type := 22, pos := "ref.go:240", after := #[{ on := 3, ground := Go.Ground.data }], guard := none }) (v := (.slice (some ⟨g, 0, none⟩) nI c1)) rfl (by kernel_rfl) (by kernel_rfl) (by kernel_rfl) (fun _ _ _ h => h) (Or.inl ⟨by rfl, ?b2y4⟩) (by assumption) ?b2r4
              case b2y4 => (intro w hSw; (try dsimp only at hSw); go_simp; try (simp [hSw]))
              case b2r4 =>
              try simp only [Act.put, List.setIfInBounds_toArray, List.set_cons_zero, List.set_cons_succ]
              refine wpAnyH_take (i := 5) (oi := { dst := some 75, op := Go.Op.move (Go.Operand.tmp 7), type := 3, pos := "ref.go:240", after := #[], guard := none }) (v := ?b2v5) rfl (by kernel_rfl) (by kernel_rfl) (by kernel_rfl) (fun _ _ _ h => h) (Or.inl ⟨by rfl, ?b2y5⟩) (by assumption) ?b2r5
              case b2y5 => (intro w hSw; (try dsimp only at hSw); go_simp; try (with_reducible rfl))
              case b2r5 =>
              try simp only [Act.put, List.setIfInBounds_toArray, List.set_cons_zero, List.set_cons_succ]
              refine wpAnyH_take (i := 6) (oi := { dst := some 76, op := Go.Op.indexAddr 22 (Go.Operand.tmp 74) (Go.Operand.tmp 75), type := 0, pos := "ref.go:240", after := #[{ on := 4, ground := Go.Ground.data }, { on := 5, ground := Go.Ground.data }], guard := none }) (v := ?b2v6) rfl (by kernel_rfl) (by kernel_rfl) (by kernel_rfl) (fun _ _ _ h => h) (Or.inl ⟨by rfl, ?b2y6⟩) (by assumption) ?b2r6
              case b2y6 => (intro w hSw; (try dsimp only at hSw); go_simp; try (with_reducible rfl))
              case b2r6 =>
              try simp only [Act.put, List.setIfInBounds_toArray, List.set_cons_zero, List.set_cons_succ]
              refine wpAnyH_take (i := 7) (oi := { dst := some 77, op := Go.Op.fieldAddr 49 (Go.Operand.tmp 76) 3, type := 0, pos := "ref.go:240", after := #[{ on := 6, ground := Go.Ground.data }], guard := none }) (v := ?b2v7) rfl (by kernel_rfl) (by kernel_rfl) (by kernel_rfl) (fun _ _ _ h => h) (Or.inl ⟨by rfl, ?b2y7⟩) (by assumption) ?b2r7
              case b2y7 => (intro w hSw; (try dsimp only at hSw); go_simp; try (with_reducible rfl))
              case b2r7 =>
              try simp only [Act.put, List.setIfInBounds_toArray, List.set_cons_zero, List.set_cons_succ]
              refine wpAnyH_take (i := 9) (oi := { dst := some 79, op := Go.Op.move (Go.Operand.tmp 1), type := 3, pos := "ref.go:240", after := #[], guard := none }) (v := ?b2v9) rfl (by kernel_rfl) (by kernel_rfl) (by kernel_rfl) (fun _ _ _ h => h) (Or.inl ⟨by rfl, ?b2y9⟩) (by assumption) ?b2r9
              case b2y9 => (intro w hSw; (try dsimp only at hSw); go_simp; try (with_reducible rfl))
              case b2r9 =>
              try simp only [Act.put, List.setIfInBounds_toArray, List.set_cons_zero, List.set_cons_succ]
              refine wpAnyH_ready (rs := [8]) (by kernel_rfl) (by simp) ?_
              refine AllReadyH.cons (o := { dst := some 78, op := Go.Op.load 47 (Go.Operand.tmp 77), type := 47, pos := "ref.go:240", after := #[{ on := 7, ground := Go.Ground.data }], guard := none }) rfl (fun K hK => ?_) (AllReadyH.nil)
              go_simp
              refine hK.out _ _ ?_ (fun hHeld => ?_)
              · exact HS0.out
              clear hK K
              try simp only [Act.put, List.setIfInBounds_toArray, List.set_cons_zero, List.set_cons_succ]
              refine wpAnyH_take (i := 10) (oi := { dst := some 80, op := Go.Op.slice 47 (Go.Operand.tmp 78) none (some (Go.Operand.tmp 79)) none, type := 47, pos := "ref.go:240", after := #[{ on := 8, ground := Go.Ground.data }, { on := 9, ground := Go.Ground.data }], guard := none }) (v := (.slice Aw n cw)) rfl (by kernel_rfl) (by kernel_rfl) (by kernel_rfl) (fun _ _ _ h => h) (Or.inl ⟨by rfl, ?b2_8y10⟩) (by assumption) ?b2_8r10
              case b2_8y10 => (intro w hSw; (try dsimp only at hSw); go_simp; try (with_reducible rfl))
              case b2_8r10 =>
              try simp only [Act.put, List.setIfInBounds_toArray, List.set_cons_zero, List.set_cons_succ]
              refine wpAnyH_take (i := 11) (oi := { dst := some 81, op := Go.Op.indexAddr 22 (Go.Operand.tmp 71) (Go.Operand.tmp 72), type := 0, pos := "ref.go:240", after := #[{ on := 1, ground := Go.Ground.data }, { on := 2, ground := Go.Ground.data }, { on := 0, ground := Go.Ground.phase }, { on := 1, ground := Go.Ground.phase }, { on := 2, ground := Go.Ground.phase }, { on := 3, ground := Go.Ground.phase }, { on := 4, ground := Go.Ground.phase }, { on := 5, ground := Go.Ground.phase }, { on := 6, ground := Go.Ground.phase }, { on := 7, ground := Go.Ground.phase }, { on := 8, ground := Go.Ground.phase }, { on := 9, ground := Go.Ground.phase }, { on := 10, ground := Go.Ground.phase }], guard := none }) (v := ?b2_8v11) rfl (by kernel_rfl) (by kernel_rfl) (by kernel_rfl) (fun _ _ _ h => h) (Or.inl ⟨by rfl, ?b2_8y11⟩) (by assumption) ?b2_8r11
              case b2_8y11 => (intro w hSw; (try dsimp only at hSw); go_simp; try (with_reducible rfl))
              case b2_8r11 =>
              try simp only [Act.put, List.setIfInBounds_toArray, List.set_cons_zero, List.set_cons_succ]
              refine wpAnyH_take (i := 12) (oi := { dst := some 82, op := Go.Op.fieldAddr 49 (Go.Operand.tmp 81) 3, type := 0, pos := "ref.go:240", after := #[{ on := 11, ground := Go.Ground.data }, { on := 0, ground := Go.Ground.phase }, { on := 1, ground := Go.Ground.phase }, { on := 2, ground := Go.Ground.phase }, { on := 3, ground := Go.Ground.phase }, { on := 4, ground := Go.Ground.phase }, { on := 5, ground := Go.Ground.phase }, { on := 6, ground := Go.Ground.phase }, { on := 7, ground := Go.Ground.phase }, { on := 8, ground := Go.Ground.phase }, { on := 9, ground := Go.Ground.phase }, { on := 10, ground := Go.Ground.phase }], guard := none }) (v := ?b2_8v12) rfl (by kernel_rfl) (by kernel_rfl) (by kernel_rfl) (fun _ _ _ h => h) (Or.inl ⟨by rfl, ?b2_8y12⟩) (by assumption) ?b2_8r12
              case b2_8y12 => (intro w hSw; (try dsimp only at hSw); go_simp; try (with_reducible rfl))
              case b2_8r12 =>
              try simp only [Act.put, List.setIfInBounds_toArray, List.set_cons_zero, List.set_cons_succ]
              refine wpAnyH_ready (rs := [13]) (by kernel_rfl) (by simp) ?_
              refine AllReadyH.cons (o := { dst := none, op := Go.Op.store 47 (Go.Operand.tmp 82) (Go.Operand.tmp 80), type := 0, pos := "ref.go:240", after := #[{ on := 12, ground := Go.Ground.data }, { on := 10, ground := Go.Ground.data }, { on := 0, ground := Go.Ground.phase }, { on := 1, ground := Go.Ground.phase }, { on := 2, ground := Go.Ground.phase }, { on := 3, ground := Go.Ground.phase }, { on := 4, ground := Go.Ground.phase }, { on := 5, ground := Go.Ground.phase }, { on := 6, ground := Go.Ground.phase }, { on := 7, ground := Go.Ground.phase }, { on := 8, ground := Go.Ground.phase }, { on := 9, ground := Go.Ground.phase }, { on := 10, ground := Go.Ground.phase }], guard := none }) rfl (fun K hK => ?_) (AllReadyH.nil)
              go_simp
              refine hK.out _ _ ?_ (fun hHeld => ?_)
              · exact HS1.out
              clear hK K
              try simp only [Act.put]
              refine wpAnyH_done (by kernel_rfl) ?_ _
              obtain ⟨nW, hnW⟩ : ∃ z, z = n := ⟨_, rfl⟩
              rw [← hnW] at HWV HWLN
              replace HNW := Lib.hid (show nW ≤ n by omega)
              obtain ⟨w5, hw5⟩ : ∃ z, z = (w4.setCell ⟨g, j * 36 + 35, none⟩ (.slice Aw n cw)).drew := ⟨_, rfl⟩
              replace P := Lib.hid (show FwAt w w5 G3 G6 ver lk (.slice (some ⟨g, 0, none⟩) nI c1) OV XN YY by rw [hw5]; exact P.out)
              rw [← hw5]
              clear hw5 HS0 HS1 db2
              have dS : True := trivial
              have dSf : True := trivial

              go_wp2_with fail
              clear dS dSf dW dWf
              go_loopw [8] (fun s wr => ∃ (k : Nat) (X3 : List InV) (x3 : InV), k ≤ nW ∧ s = .int .i64 (k : Int) ∧ Hid (FwAt w wr G3 G6 ver lk (.slice (some ⟨g, 0, none⟩) nI c1) OV X3 YY) ∧ Hid (X3.length = nI) ∧ Hid (X3[j]? = some x3) ∧ Hid (∀ q x, q < j → X3[q]? = some x → x.in n m) ∧ Hid (x3.p.sc.length ≤ m) ∧ Hid (x3.wl.length = nW) ∧ Hid (x3.wv = .slice Aw nW cw) ∧ Hid (∀ q p, q < k → x3.wl[q]? = some p → p.2.length ≤ m)) (fun s _ => nW - (intOf s).toNat)
              case atStart => exact ⟨0, XN, xN, Nat.zero_le _, rfl, P, HLN, HXJ, HIN, HSC, HWLN, HWV, Lib.hid (fun q p hq _ => by omega)⟩
              case round =>
                obtain ⟨k, X3, x3, hk, rfl, hP, hl3, hx3, hin3, hsc3, hwl3, hwv3, hit3⟩ := hrel
                obtain ⟨w6, rfl⟩ : ∃ z : World, z = wr := ⟨_, rfl⟩
                have c3 := hP.out.t.cell (show [Value.int .i32 ver, .slice (some ⟨g, 0, none⟩) nI c1, OV, .int .u32 lk][1]? = some (.slice (some ⟨g, 0, none⟩) nI c1) from rfl)
                have hPX : FwAt w w6 G3 G6 ver lk (.slice (some ⟨g, 0, none⟩) X3.length c1) OV X3 YY := by rw [hl3.out]; exact hP.out
                have hE3 := hP.out.eI x3 (List.mem_of_getElem? hx3.out)
                have cW := (hPX.cellI hx3.out (inC_wt hE3.ok)).1
                rw [hwv3.out] at cW
                by_cases hkl : k < nW
                · have dk : decide ((k : Int) < (nW : Int)) = true := decide_eq_true (by omega)
                  obtain ⟨p, hp⟩ : ∃ p, x3.wl[k]? = some p := ⟨_, List.getElem?_eq_getElem (by rw [hwl3.out]; exact hkl)⟩
                  have hbag : BagAt w6 w.heap.size (.slice Aw nW cw) x3.wl := by rw [← hwv3.out]; exact hE3.wt
                  have hbo : w6.ownsRow w.heap.size 27 1 (.slice Aw nW cw) nW (x3.wl.map (·.1)) := by have q := hbag.1; rw [hwl3.out] at q; exact q
                  have hcap := own_cap hbo
                  obtain ⟨gw, hAw, hgw, hgl⟩ := own_some hbo (by omega)
                  subst hAw
                  have hpo := hbag.2 p (List.mem_of_getElem? hp)
                  obtain ⟨v, zs⟩ := p
                  obtain ⟨Ai, ci, hf⟩ := hpo.form
                  dsimp only at hf hpo
                  subst hf
                  have cI : w6.cell? ⟨gw, k, none⟩ = some (.slice Ai zs.length ci) := by
                    rw [World.ownsRow.cellAt hbo k (by omega), List.getElem?_map, hp]
                    rfl
                  have fI := World.ownsRow.frozenAt hbo k
                  have hcapI := own_cap hpo
                  obtain ⟨nT, hnI⟩ : ∃ q, q = zs.length := ⟨_, rfl⟩
                  rw [← hnI] at cI hcapI hpo
                  obtain ⟨gcs, hgt⟩ : ∃ cs, w6.heap[gw]? = some (.cells cs 27 (0, 0)) := by
                    rcases hbo.2 with ⟨e, _⟩ | ⟨g', cap, cur, e, _, hg2, _⟩
                    · cases e
                    · injection e with e _ _
                      injection e with e
                      injection e with e
                      subst e
                      exact ⟨_, hg2⟩
                  have hgne : ¬ gw = G3 := fun e => by
                    have q : w6.heap[G3]? = _ := hP.out.t
                    rw [← e, hgt] at q
                    injection q with q
                    injection q with _ q
                    exact absurd q (by decide)
                  have hgng : ¬ gw = g := fun e => by
                    rcases hP.out.ins.2 with ⟨e1, _⟩ | ⟨g', cap, cur, e1, _, hg2, _⟩
                    · cases e1
                    · injection e1 with e1 _ _
                      injection e1 with e1
                      injection e1 with e1
                      rw [← e1, ← e, hgt] at hg2
                      injection hg2 with hg2
                      injection hg2 with _ hg2
                      exact absurd hg2 (by decide)
                  have P6 := Lib.hid hP.out
                  have HNI := Lib.hid hnI
                  have HP3 := Lib.hid hp
                  have HPO := Lib.hid hpo
                  have HGT := Lib.hid hgt
                  have HGE := Lib.hid hgw
                  have HGN := Lib.hid hgne
                  have HGG := Lib.hid hgng
                  clear hbag hbo hpo hp hgt hgw hgne hgng hP hPX hE3 hnI hgl
                  by_cases hb : m < nT
                  · as_aux_lemma =>
                    have db : decide ((m : Int) < (nT : Int)) = true := decide_eq_true (by omega)
                    have hS0 : w6.drew.cell? ⟨G3, 1, none⟩ = some (.slice (some ⟨g, 0, none⟩) nI c1) ∧ w6.drew.cell? ⟨g, j * 36 + 35, none⟩ = some (.slice (some ⟨gw, 0, none⟩) nW cw) := ⟨c3, cW⟩
                    have HS0 := Lib.hid hS0
                    have dI : w6.drew.cell? ⟨gw, k, none⟩ = some (.slice Ai nT ci) := cI
                    have dF : w6.drew.frozen? ⟨gw, k, none⟩ = false := fI
                    have HS1 := Lib.hid (show (w6.drew.setCell ⟨gw, k, none⟩ (.slice Ai m ci)).cell? ⟨G3, 1, none⟩ = some (.slice (some ⟨g, 0, none⟩) nI c1) ∧ (w6.drew.setCell ⟨gw, k, none⟩ (.slice Ai m ci)).cell? ⟨g, j * 36 + 35, none⟩ = some (.slice (some ⟨gw, 0, none⟩) nW cw) from by
                      have tt : Turns (fun q => q = gw) w6.drew (w6.drew.setCell ⟨gw, k, none⟩ (.slice Ai m ci)) := Turns.setCell (S := fun q => q = gw) (Turns.refl _ w6.drew) (p := ⟨gw, _, none⟩) (fun _ => rfl) _
                      exact ⟨(tt.cell (p := ⟨G3, 1, none⟩) P6.out.t.lt (fun e => HGN.out e.symm)).trans hS0.1, (tt.cell (p := ⟨g, _, none⟩) (P6.out.ins.lt g rfl).2 (fun e => HGG.out e.symm)).trans hS0.2⟩)
                    have P7 := Lib.hid (P6.out.drew.setB (g := gw) (k := k) (u := .slice Ai m ci) (zs := zs.take m) (show w6.drew.heap[gw]? = _ from HGT.out) HGE.out ((HPO.out : OwnB w6.drew w.heap.size (.slice Ai nT ci) zs).cut HNI.out (by omega)))
                    have hmi : m ≤ ci := by omega
                    clear hS0
                    go_upto_region 17 with fail
                    clear cI fI c3 cW
                    refine wp_region_held_drew (S := (fun w' => w'.cell? ⟨G3, 1, none⟩ = some (.slice (some ⟨g, 0, none⟩) nI c1) ∧ w'.cell? ⟨g, j * 36 + 35, none⟩ = some (.slice (some ⟨gw, 0, none⟩) nW cw))) (by kernel_rfl) ?_ (fun hHeld => ?_)
                    · exact HS0.out
                    refine wpAnyH_take (i := 0) (oi := { dst := some 106, op := Go.Op.fieldAddr 26 (Go.Operand.tmp 3) 1, type := 0, pos := "ref.go:244", after := #[], guard := none }) (v := ?c21v0) rfl (by kernel_rfl) (by kernel_rfl) (by kernel_rfl) (fun _ _ _ h => h) (Or.inl ⟨by rfl, ?c21y0⟩) (by assumption) ?c21r0
                    case c21y0 => (intro w hSw; (try dsimp only at hSw); go_simp; try (with_reducible rfl))
                    case c21r0 =>
                    try simp only [Act.put, List.setIfInBounds_toArray, List.set_cons_zero, List.set_cons_succ]
                    refine wpAnyH_take (i := 1) (oi := { dst := some 107, op := Go.Op.load 22 (Go.Operand.tmp 106), type := 22, pos := "ref.go:244", after := #[{ on := 0, ground := Go.Ground.data }], guard := none }) (v := (.slice (some ⟨g, 0, none⟩) nI c1)) rfl (by kernel_rfl) (by kernel_rfl) (by kernel_rfl) (fun _ _ _ h => h) (Or.inl ⟨by rfl, ?c21y1⟩) (by assumption) ?c21r1
                    case c21y1 => (intro w hSw; (try dsimp only at hSw); go_simp; try (simp [hSw.1]))
                    case c21r1 =>
                    try simp only [Act.put, List.setIfInBounds_toArray, List.set_cons_zero, List.set_cons_succ]
                    refine wpAnyH_take (i := 2) (oi := { dst := some 108, op := Go.Op.move (Go.Operand.tmp 7), type := 3, pos := "ref.go:244", after := #[], guard := none }) (v := ?c21v2) rfl (by kernel_rfl) (by kernel_rfl) (by kernel_rfl) (fun _ _ _ h => h) (Or.inl ⟨by rfl, ?c21y2⟩) (by assumption) ?c21r2
                    case c21y2 => (intro w hSw; (try dsimp only at hSw); go_simp; try (with_reducible rfl))
                    case c21r2 =>
                    try simp only [Act.put, List.setIfInBounds_toArray, List.set_cons_zero, List.set_cons_succ]
                    refine wpAnyH_take (i := 3) (oi := { dst := some 109, op := Go.Op.indexAddr 22 (Go.Operand.tmp 107) (Go.Operand.tmp 108), type := 0, pos := "ref.go:244", after := #[{ on := 1, ground := Go.Ground.data }, { on := 2, ground := Go.Ground.data }], guard := none }) (v := ?c21v3) rfl (by kernel_rfl) (by kernel_rfl) (by kernel_rfl) (fun _ _ _ h => h) (Or.inl ⟨by rfl, ?c21y3⟩) (by assumption) ?c21r3
                    case c21y3 => (intro w hSw; (try dsimp only at hSw); go_simp; try (with_reducible rfl))
                    case c21r3 =>
                    try simp only [Act.put, List.setIfInBounds_toArray, List.set_cons_zero, List.set_cons_succ]
                    refine wpAnyH_take (i := 4) (oi := { dst := some 110, op := Go.Op.fieldAddr 49 (Go.Operand.tmp 109) 3, type := 0, pos := "ref.go:244", after := #[{ on := 3, ground := Go.Ground.data }], guard := none }) (v := ?c21v4) rfl (by kernel_rfl) (by kernel_rfl) (by kernel_rfl) (fun _ _ _ h => h) (Or.inl ⟨by rfl, ?c21y4⟩) (by assumption) ?c21r4
                    case c21y4 => (intro w hSw; (try dsimp only at hSw); go_simp; try (with_reducible rfl))
                    case c21r4 =>
                    try simp only [Act.put, List.setIfInBounds_toArray, List.set_cons_zero, List.set_cons_succ]
                    refine wpAnyH_take (i := 5) (oi := { dst := some 111, op := Go.Op.load 47 (Go.Operand.tmp 110), type := 47, pos := "ref.go:244", after := #[{ on := 4, ground := Go.Ground.data }], guard := none }) (v := (.slice (some ⟨gw, 0, none⟩) nW cw)) rfl (by kernel_rfl) (by kernel_rfl) (by kernel_rfl) (fun _ _ _ h => h) (Or.inl ⟨by rfl, ?c21y5⟩) (by assumption) ?c21r5
                    case c21y5 => (intro w hSw; (try dsimp only at hSw); go_simp; try (simp [hSw.2]))
                    case c21r5 =>
                    try simp only [Act.put, List.setIfInBounds_toArray, List.set_cons_zero, List.set_cons_succ]
                    refine wpAnyH_take (i := 6) (oi := { dst := some 112, op := Go.Op.move (Go.Operand.tmp 8), type := 3, pos := "ref.go:244", after := #[], guard := none }) (v := ?c21v6) rfl (by kernel_rfl) (by kernel_rfl) (by kernel_rfl) (fun _ _ _ h => h) (Or.inl ⟨by rfl, ?c21y6⟩) (by assumption) ?c21r6
                    case c21y6 => (intro w hSw; (try dsimp only at hSw); go_simp; try (with_reducible rfl))
                    case c21r6 =>
                    try simp only [Act.put, List.setIfInBounds_toArray, List.set_cons_zero, List.set_cons_succ]
                    refine wpAnyH_take (i := 7) (oi := { dst := some 113, op := Go.Op.fieldAddr 26 (Go.Operand.tmp 3) 1, type := 0, pos := "ref.go:244", after := #[], guard := none }) (v := ?c21v7) rfl (by kernel_rfl) (by kernel_rfl) (by kernel_rfl) (fun _ _ _ h => h) (Or.inl ⟨by rfl, ?c21y7⟩) (by assumption) ?c21r7
                    case c21y7 => (intro w hSw; (try dsimp only at hSw); go_simp; try (with_reducible rfl))
                    case c21r7 =>
                    try simp only [Act.put, List.setIfInBounds_toArray, List.set_cons_zero, List.set_cons_succ]
                    refine wpAnyH_take (i := 8) (oi := { dst := some 114, op := Go.Op.load 22 (Go.Operand.tmp 113), type := 22, pos := "ref.go:244", after := #[{ on := 7, ground := Go.Ground.data }], guard := none }) (v := (.slice (some ⟨g, 0, none⟩) nI c1)) rfl (by kernel_rfl) (by kernel_rfl) (by kernel_rfl) (fun _ _ _ h => h) (Or.inl ⟨by rfl, ?c21y8⟩) (by assumption) ?c21r8
                    case c21y8 => (intro w hSw; (try dsimp only at hSw); go_simp; try (simp [hSw.1]))
                    case c21r8 =>
                    try simp only [Act.put, List.setIfInBounds_toArray, List.set_cons_zero, List.set_cons_succ]
                    refine wpAnyH_take (i := 9) (oi := { dst := some 115, op := Go.Op.move (Go.Operand.tmp 7), type := 3, pos := "ref.go:244", after := #[], guard := none }) (v := ?c21v9) rfl (by kernel_rfl) (by kernel_rfl) (by kernel_rfl) (fun _ _ _ h => h) (Or.inl ⟨by rfl, ?c21y9⟩) (by assumption) ?c21r9
                    case c21y9 => (intro w hSw; (try dsimp only at hSw); go_simp; try (with_reducible rfl))
                    case c21r9 =>
                    try simp only [Act.put, List.setIfInBounds_toArray, List.set_cons_zero, List.set_cons_succ]
                    refine wpAnyH_take (i := 10) (oi := { dst := some 116, op := Go.Op.indexAddr 22 (Go.Operand.tmp 114) (Go.Operand.tmp 115), type := 0, pos := "ref.go:244", after := #[{ on := 8, ground := Go.Ground.data }, { on := 9, ground := Go.Ground.data }], guard := none }) (v := ?c21v10) rfl (by kernel_rfl) (by kernel_rfl) (by kernel_rfl) (fun _ _ _ h => h) (Or.inl ⟨by rfl, ?c21y10⟩) (by assumption) ?c21r10
                    case c21y10 => (intro w hSw; (try dsimp only at hSw); go_simp; try (with_reducible rfl))
                    case c21r10 =>
                    try simp only [Act.put, List.setIfInBounds_toArray, List.set_cons_zero, List.set_cons_succ]
                    refine wpAnyH_take (i := 11) (oi := { dst := some 117, op := Go.Op.fieldAddr 49 (Go.Operand.tmp 116) 3, type := 0, pos := "ref.go:244", after := #[{ on := 10, ground := Go.Ground.data }], guard := none }) (v := ?c21v11) rfl (by kernel_rfl) (by kernel_rfl) (by kernel_rfl) (fun _ _ _ h => h) (Or.inl ⟨by rfl, ?c21y11⟩) (by assumption) ?c21r11
                    case c21y11 => (intro w hSw; (try dsimp only at hSw); go_simp; try (with_reducible rfl))
                    case c21r11 =>
                    try simp only [Act.put, List.setIfInBounds_toArray, List.set_cons_zero, List.set_cons_succ]
                    refine wpAnyH_take (i := 12) (oi := { dst := some 118, op := Go.Op.load 47 (Go.Operand.tmp 117), type := 47, pos := "ref.go:244", after := #[{ on := 11, ground := Go.Ground.data }], guard := none }) (v := (.slice (some ⟨gw, 0, none⟩) nW cw)) rfl (by kernel_rfl) (by kernel_rfl) (by kernel_rfl) (fun _ _ _ h => h) (Or.inl ⟨by rfl, ?c21y12⟩) (by assumption) ?c21r12
                    case c21y12 => (intro w hSw; (try dsimp only at hSw); go_simp; try (simp [hSw.2]))
                    case c21r12 =>
                    try simp only [Act.put, List.setIfInBounds_toArray, List.set_cons_zero, List.set_cons_succ]
                    refine wpAnyH_take (i := 13) (oi := { dst := some 119, op := Go.Op.move (Go.Operand.tmp 8), type := 3, pos := "ref.go:244", after := #[], guard := none }) (v := ?c21v13) rfl (by kernel_rfl) (by kernel_rfl) (by kernel_rfl) (fun _ _ _ h => h) (Or.inl ⟨by rfl, ?c21y13⟩) (by assumption) ?c21r13
                    case c21y13 => (intro w hSw; (try dsimp only at hSw); go_simp; try (with_reducible rfl))
                    case c21r13 =>
                    try simp only [Act.put, List.setIfInBounds_toArray, List.set_cons_zero, List.set_cons_succ]
                    refine wpAnyH_take (i := 14) (oi := { dst := some 120, op := Go.Op.indexAddr 47 (Go.Operand.tmp 118) (Go.Operand.tmp 119), type := 0, pos := "ref.go:244", after := #[{ on := 12, ground := Go.Ground.data }, { on := 13, ground := Go.Ground.data }], guard := none }) (v := ?c21v14) rfl (by kernel_rfl) (by kernel_rfl) (by kernel_rfl) (fun _ _ _ h => h) (Or.inl ⟨by rfl, ?c21y14⟩) (by assumption) ?c21r14
                    case c21y14 => (intro w hSw; (try dsimp only at hSw); go_simp; try (with_reducible rfl))
                    case c21r14 =>
                    try simp only [Act.put, List.setIfInBounds_toArray, List.set_cons_zero, List.set_cons_succ]
                    refine wpAnyH_take (i := 16) (oi := { dst := some 122, op := Go.Op.move (Go.Operand.tmp 2), type := 3, pos := "ref.go:244", after := #[], guard := none }) (v := ?c21v16) rfl (by kernel_rfl) (by kernel_rfl) (by kernel_rfl) (fun _ _ _ h => h) (Or.inl ⟨by rfl, ?c21y16⟩) (by assumption) ?c21r16
                    case c21y16 => (intro w hSw; (try dsimp only at hSw); go_simp; try (with_reducible rfl))
                    case c21r16 =>
                    try simp only [Act.put, List.setIfInBounds_toArray, List.set_cons_zero, List.set_cons_succ]
                    refine wpAnyH_ready (rs := [15]) (by kernel_rfl) (by simp) ?_
                    refine AllReadyH.cons (o := { dst := some 121, op := Go.Op.load 27 (Go.Operand.tmp 120), type := 27, pos := "ref.go:244", after := #[{ on := 14, ground := Go.Ground.data }], guard := none }) rfl (fun K hK => ?_) (AllReadyH.nil)
                    go_simp
                    refine hK.out _ _ ?_ (fun hHeld => ?_)
                    · exact HS0.out
                    clear hK K
                    try simp only [Act.put, List.setIfInBounds_toArray, List.set_cons_zero, List.set_cons_succ]
                    refine wpAnyH_take (i := 17) (oi := { dst := some 123, op := Go.Op.slice 27 (Go.Operand.tmp 121) none (some (Go.Operand.tmp 122)) none, type := 27, pos := "ref.go:244", after := #[{ on := 15, ground := Go.Ground.data }, { on := 16, ground := Go.Ground.data }], guard := none }) (v := (.slice Ai m ci)) rfl (by kernel_rfl) (by kernel_rfl) (by kernel_rfl) (fun _ _ _ h => h) (Or.inl ⟨by rfl, ?c21_15y17⟩) (by assumption) ?c21_15r17
                    case c21_15y17 => (intro w hSw; (try dsimp only at hSw); go_simp; try (with_reducible rfl))
                    case c21_15r17 =>
                    try simp only [Act.put, List.setIfInBounds_toArray, List.set_cons_zero, List.set_cons_succ]
                    refine wpAnyH_take (i := 18) (oi := { dst := some 124, op := Go.Op.indexAddr 47 (Go.Operand.tmp 111) (Go.Operand.tmp 112), type := 0, pos := "ref.go:244", after := #[{ on := 5, ground := Go.Ground.data }, { on := 6, ground := Go.Ground.data }, { on := 0, ground := Go.Ground.phase }, { on := 1, ground := Go.Ground.phase }, { on := 2, ground := Go.Ground.phase }, { on := 3, ground := Go.Ground.phase }, { on := 4, ground := Go.Ground.phase }, { on := 5, ground := Go.Ground.phase }, { on := 6, ground := Go.Ground.phase }, { on := 7, ground := Go.Ground.phase }, { on := 8, ground := Go.Ground.phase }, { on := 9, ground := Go.Ground.phase }, { on := 10, ground := Go.Ground.phase }, { on := 11, ground := Go.Ground.phase }, { on := 12, ground := Go.Ground.phase }, { on := 13, ground := Go.Ground.phase }, { on := 14, ground := Go.Ground.phase }, { on := 15, ground := Go.Ground.phase }, { on := 16, ground := Go.Ground.phase }, { on := 17, ground := Go.Ground.phase }], guard := none }) (v := ?c21_15v18) rfl (by kernel_rfl) (by kernel_rfl) (by kernel_rfl) (fun _ _ _ h => h) (Or.inl ⟨by rfl, ?c21_15y18⟩) (by assumption) ?c21_15r18
                    case c21_15y18 => (intro w hSw; (try dsimp only at hSw); go_simp; try (with_reducible rfl))
                    case c21_15r18 =>
                    try simp only [Act.put, List.setIfInBounds_toArray, List.set_cons_zero, List.set_cons_succ]
                    refine wpAnyH_ready (rs := [19]) (by kernel_rfl) (by simp) ?_
                    refine AllReadyH.cons (o := { dst := none, op := Go.Op.store 27 (Go.Operand.tmp 124) (Go.Operand.tmp 123), type := 0, pos := "ref.go:244", after := #[{ on := 18, ground := Go.Ground.data }, { on := 17, ground := Go.Ground.data }, { on := 0, ground := Go.Ground.phase }, { on := 1, ground := Go.Ground.phase }, { on := 2, ground := Go.Ground.phase }, { on := 3, ground := Go.Ground.phase }, { on := 4, ground := Go.Ground.phase }, { on := 5, ground := Go.Ground.phase }, { on := 6, ground := Go.Ground.phase }, { on := 7, ground := Go.Ground.phase }, { on := 8, ground := Go.Ground.phase }, { on := 9, ground := Go.Ground.phase }, { on := 10, ground := Go.Ground.phase }, { on := 11, ground := Go.Ground.phase }, { on := 12, ground := Go.Ground.phase }, { on := 13, ground := Go.Ground.phase }, { on := 14, ground := Go.Ground.phase }, { on := 15, ground := Go.Ground.phase }, { on := 16, ground := Go.Ground.phase }, { on := 17, ground := Go.Ground.phase }], guard := none }) rfl (fun K hK => ?_) (AllReadyH.nil)
                    go_simp
                    refine hK.out _ _ ?_ (fun hHeld => ?_)
                    · exact HS1.out
                    clear hK K
                    try simp only [Act.put]
                    refine wpAnyH_done (by kernel_rfl) ?_ _
                    go_wp2_with fail
                    refine ⟨⟨k + 1, _, setX x3 gw k (.slice Ai m ci) (zs.take m), hkl, by first | rfl | (rw [wrap_small2 (by omega) (by omega)]; rfl), P7, Lib.hid (by rw [List.length_map]; exact hl3.out), Lib.hid (by rw [List.getElem?_map, hx3.out]; rfl), Lib.hid (fun q x hq hx => by
                      rw [List.getElem?_map] at hx
                      cases hq2 : X3[q]? with
                      | none => rw [hq2] at hx; cases hx
                      | some x2 =>
                        rw [hq2] at hx
                        obtain rfl : setX x2 gw k (.slice Ai m ci) (zs.take m) = x := by simpa using hx
                        exact in_set (hin3.out q x2 hq hq2) (by rw [List.length_take]; omega)), hsc3, Lib.hid (by show (setL _ _ _ _ _ _).length = nW; rw [setL_length]; exact hwl3.out), hwv3, Lib.hid (fun q p hq hp => by
                      have hp' : (setL x3.wv x3.wl gw k (.slice Ai m ci) (zs.take m))[q]? = some p := hp
                      unfold setL at hp'
                      rw [hwv3.out, if_pos (show (Value.slice (some ⟨gw, 0, none⟩) nW cw).ownBlock = some gw by simp [Value.ownBlock])] at hp'
                      by_cases hqk : q = k
                      · subst hqk
                        rw [List.getElem?_set_self (by rw [hwl3.out]; exact hkl)] at hp'
                        injection hp' with hp'
                        rw [← hp']
                        show (zs.take m).length ≤ m
                        rw [List.length_take]
                        omega
                      · rw [List.getElem?_set_ne (fun e => hqk e.symm)] at hp'
                        exact hit3.out q p (by omega) hp')⟩, meas_n hkl⟩
                  · as_aux_lemma =>
                    have db : decide ((m : Int) < (nT : Int)) = false := decide_eq_false (by omega)
                    go_wp2_with fail
                    refine ⟨⟨k + 1, X3, x3, hkl, by first | rfl | (rw [wrap_small2 (by omega) (by omega)]; rfl), P6, hl3, hx3, hin3, hsc3, hwl3, hwv3, Lib.hid (fun q p hq hp => by
                      by_cases hqk : q = k
                      · subst hqk
                        rw [HP3.out] at hp
                        injection hp with hp
                        rw [← hp]
                        show zs.length ≤ m
                        have := HNI.out
                        omega
                      · exact hit3.out q p (by omega) hp)⟩, meas_n hkl⟩
                · as_aux_lemma =>
                  have dk : decide ((k : Int) < (nW : Int)) = false := decide_eq_false (by omega)
                  clear hPX hE3
                  go_wp2_with fail
                  refine ⟨⟨j + 1, X3, hlt, by first | rfl | (rw [wrap_small2 (by omega) (by omega)]; rfl), hP, hl3, Lib.hid (fun q x hq hx => by
                    by_cases hqj : q = j
                    · subst hqj
                      rw [hx3.out] at hx
                      injection hx with hx
                      rw [← hx]
                      exact ⟨hsc3.out, by rw [hwl3.out]; exact HNW.out, fun p hp => by
                        obtain ⟨i, hi⟩ := List.mem_iff_getElem?.1 hp
                        exact hit3.out i p (by have := (List.getElem?_eq_some_iff.1 hi).1; have := hwl3.out; omega) hi⟩
                    · exact hin3.out q x (by omega) hx)⟩, meas_n hlt⟩

            · as_aux_lemma =>
              have db2 : decide ((n : Int) < (nV : Int)) = false := decide_eq_false (by omega)
              obtain ⟨XN, hXN⟩ : ∃ z, z = X4 := ⟨_, rfl⟩
              obtain ⟨xN, hxN⟩ : ∃ z, z = x4 := ⟨_, rfl⟩
              have P := P4
              have HLN := HL4
              have HXJ := HX4
              have HIN := HIN4
              have HSC := HSC4
              have HWV := HWV4
              have HWLN := Lib.hid HNV.out.symm
              obtain ⟨nW, hnW⟩ : ∃ z, z = nV := ⟨_, rfl⟩
              have HNW := Lib.hid (show nW ≤ n by omega)
              rw [← hXN] at P HLN HXJ HIN
              rw [← hxN] at HXJ HSC HWV HWLN
              rw [← hnW] at HWV HWLN
              clear hXN hxN
              have dS : True := trivial
              have dSf : True := trivial
              have dW : True := trivial
              have dWf : True := trivial
              go_upto_region 13 with fail
              clear eW eWf cT

              go_wp2_with fail
              clear dS dSf dW dWf
              go_loopw [8] (fun s wr => ∃ (k : Nat) (X3 : List InV) (x3 : InV), k ≤ nW ∧ s = .int .i64 (k : Int) ∧ Hid (FwAt w wr G3 G6 ver lk (.slice (some ⟨g, 0, none⟩) nI c1) OV X3 YY) ∧ Hid (X3.length = nI) ∧ Hid (X3[j]? = some x3) ∧ Hid (∀ q x, q < j → X3[q]? = some x → x.in n m) ∧ Hid (x3.p.sc.length ≤ m) ∧ Hid (x3.wl.length = nW) ∧ Hid (x3.wv = .slice Aw nW cw) ∧ Hid (∀ q p, q < k → x3.wl[q]? = some p → p.2.length ≤ m)) (fun s _ => nW - (intOf s).toNat)
              case atStart => exact ⟨0, XN, xN, Nat.zero_le _, rfl, P, HLN, HXJ, HIN, HSC, HWLN, HWV, Lib.hid (fun q p hq _ => by omega)⟩
              case round =>
                obtain ⟨k, X3, x3, hk, rfl, hP, hl3, hx3, hin3, hsc3, hwl3, hwv3, hit3⟩ := hrel
                obtain ⟨w6, rfl⟩ : ∃ z : World, z = wr := ⟨_, rfl⟩
                have c3 := hP.out.t.cell (show [Value.int .i32 ver, .slice (some ⟨g, 0, none⟩) nI c1, OV, .int .u32 lk][1]? = some (.slice (some ⟨g, 0, none⟩) nI c1) from rfl)
                have hPX : FwAt w w6 G3 G6 ver lk (.slice (some ⟨g, 0, none⟩) X3.length c1) OV X3 YY := by rw [hl3.out]; exact hP.out
                have hE3 := hP.out.eI x3 (List.mem_of_getElem? hx3.out)
                have cW := (hPX.cellI hx3.out (inC_wt hE3.ok)).1
                rw [hwv3.out] at cW
                by_cases hkl : k < nW
                · have dk : decide ((k : Int) < (nW : Int)) = true := decide_eq_true (by omega)
                  obtain ⟨p, hp⟩ : ∃ p, x3.wl[k]? = some p := ⟨_, List.getElem?_eq_getElem (by rw [hwl3.out]; exact hkl)⟩
                  have hbag : BagAt w6 w.heap.size (.slice Aw nW cw) x3.wl := by rw [← hwv3.out]; exact hE3.wt
                  have hbo : w6.ownsRow w.heap.size 27 1 (.slice Aw nW cw) nW (x3.wl.map (·.1)) := by have q := hbag.1; rw [hwl3.out] at q; exact q
                  have hcap := own_cap hbo
                  obtain ⟨gw, hAw, hgw, hgl⟩ := own_some hbo (by omega)
                  subst hAw
                  have hpo := hbag.2 p (List.mem_of_getElem? hp)
                  obtain ⟨v, zs⟩ := p
                  obtain ⟨Ai, ci, hf⟩ := hpo.form
                  dsimp only at hf hpo
                  subst hf
                  have cI : w6.cell? ⟨gw, k, none⟩ = some (.slice Ai zs.length ci) := by
                    rw [World.ownsRow.cellAt hbo k (by omega), List.getElem?_map, hp]
                    rfl
                  have fI := World.ownsRow.frozenAt hbo k
                  have hcapI := own_cap hpo
                  obtain ⟨nT, hnI⟩ : ∃ q, q = zs.length := ⟨_, rfl⟩
                  rw [← hnI] at cI hcapI hpo
                  obtain ⟨gcs, hgt⟩ : ∃ cs, w6.heap[gw]? = some (.cells cs 27 (0, 0)) := by
                    rcases hbo.2 with ⟨e, _⟩ | ⟨g', cap, cur, e, _, hg2, _⟩
                    · cases e
                    · injection e with e _ _
                      injection e with e
                      injection e with e
                      subst e
                      exact ⟨_, hg2⟩
                  have hgne : ¬ gw = G3 := fun e => by
                    have q : w6.heap[G3]? = _ := hP.out.t
                    rw [← e, hgt] at q
                    injection q with q
                    injection q with _ q
                    exact absurd q (by decide)
                  have hgng : ¬ gw = g := fun e => by
                    rcases hP.out.ins.2 with ⟨e1, _⟩ | ⟨g', cap, cur, e1, _, hg2, _⟩
                    · cases e1
                    · injection e1 with e1 _ _
                      injection e1 with e1
                      injection e1 with e1
                      rw [← e1, ← e, hgt] at hg2
                      injection hg2 with hg2
                      injection hg2 with _ hg2
                      exact absurd hg2 (by decide)
                  have P6 := Lib.hid hP.out
                  have HNI := Lib.hid hnI
                  have HP3 := Lib.hid hp
                  have HPO := Lib.hid hpo
                  have HGT := Lib.hid hgt
                  have HGE := Lib.hid hgw
                  have HGN := Lib.hid hgne
                  have HGG := Lib.hid hgng
                  clear hbag hbo hpo hp hgt hgw hgne hgng hP hPX hE3 hnI hgl
                  by_cases hb : m < nT
                  · as_aux_lemma =>
                    have db : decide ((m : Int) < (nT : Int)) = true := decide_eq_true (by omega)
                    have hS0 : w6.drew.cell? ⟨G3, 1, none⟩ = some (.slice (some ⟨g, 0, none⟩) nI c1) ∧ w6.drew.cell? ⟨g, j * 36 + 35, none⟩ = some (.slice (some ⟨gw, 0, none⟩) nW cw) := ⟨c3, cW⟩
                    have HS0 := Lib.hid hS0
                    have dI : w6.drew.cell? ⟨gw, k, none⟩ = some (.slice Ai nT ci) := cI
                    have dF : w6.drew.frozen? ⟨gw, k, none⟩ = false := fI
                    have HS1 := Lib.hid (show (w6.drew.setCell ⟨gw, k, none⟩ (.slice Ai m ci)).cell? ⟨G3, 1, none⟩ = some (.slice (some ⟨g, 0, none⟩) nI c1) ∧ (w6.drew.setCell ⟨gw, k, none⟩ (.slice Ai m ci)).cell? ⟨g, j * 36 + 35, none⟩ = some (.slice (some ⟨gw, 0, none⟩) nW cw) from by
                      have tt : Turns (fun q => q = gw) w6.drew (w6.drew.setCell ⟨gw, k, none⟩ (.slice Ai m ci)) := Turns.setCell (S := fun q => q = gw) (Turns.refl _ w6.drew) (p := ⟨gw, _, none⟩) (fun _ => rfl) _
                      exact ⟨(tt.cell (p := ⟨G3, 1, none⟩) P6.out.t.lt (fun e => HGN.out e.symm)).trans hS0.1, (tt.cell (p := ⟨g, _, none⟩) (P6.out.ins.lt g rfl).2 (fun e => HGG.out e.symm)).trans hS0.2⟩)
                    have P7 := Lib.hid (P6.out.drew.setB (g := gw) (k := k) (u := .slice Ai m ci) (zs := zs.take m) (show w6.drew.heap[gw]? = _ from HGT.out) HGE.out ((HPO.out : OwnB w6.drew w.heap.size (.slice Ai nT ci) zs).cut HNI.out (by omega)))
                    have hmi : m ≤ ci := by omega
                    clear hS0
                    go_upto_region 17 with fail
                    clear cI fI c3 cW
                    refine wp_region_held_drew (S := (fun w' => w'.cell? ⟨G3, 1, none⟩ = some (.slice (some ⟨g, 0, none⟩) nI c1) ∧ w'.cell? ⟨g, j * 36 + 35, none⟩ = some (.slice (some ⟨gw, 0, none⟩) nW cw))) (by kernel_rfl) ?_ (fun hHeld => ?_)
                    · exact HS0.out
                    refine wpAnyH_take (i := 0) (oi := { dst := some 106, op := Go.Op.fieldAddr 26 (Go.Operand.tmp 3) 1, type := 0, pos := "ref.go:244", after := #[], guard := none }) (v := ?c22v0) rfl (by kernel_rfl) (by kernel_rfl) (by kernel_rfl) (fun _ _ _ h => h) (Or.inl ⟨by rfl, ?c22y0⟩) (by assumption) ?c22r0
                    case c22y0 => (intro w hSw; (try dsimp only at hSw); go_simp; try (with_reducible rfl))
                    case c22r0 =>
                    try simp only [Act.put, List.setIfInBounds_toArray, List.set_cons_zero, List.set_cons_succ]
                    refine wpAnyH_take (i := 1) (oi := { dst := some 107, op := Go.Op.load 22 (Go.Operand.tmp 106), type := 22, pos := "ref.go:244", after := #[{ on := 0, ground := Go.Ground.data }], guard := none }) (v := (.slice (some ⟨g, 0, none⟩) nI c1)) rfl (by kernel_rfl) (by kernel_rfl) (by kernel_rfl) (fun _ _ _ h => h) (Or.inl ⟨by rfl, ?c22y1⟩) (by assumption) ?c22r1
                    case c22y1 => (intro w hSw; (try dsimp only at hSw); go_simp; try (simp [hSw.1]))
                    case c22r1 =>
                    try simp only [Act.put, List.setIfInBounds_toArray, List.set_cons_zero, List.set_cons_succ]
                    refine wpAnyH_take (i := 2) (oi := { dst := some 108, op := Go.Op.move (Go.Operand.tmp 7), type := 3, pos := "ref.go:244", after := #[], guard := none }) (v := ?c22v2) rfl (by kernel_rfl) (by kernel_rfl) (by kernel_rfl) (fun _ _ _ h => h) (Or.inl ⟨by rfl, ?c22y2⟩) (by assumption) ?c22r2
                    case c22y2 => (intro w hSw; (try dsimp only at hSw); go_simp; try (with_reducible rfl))
                    case c22r2 =>
                    try simp only [Act.put, List.setIfInBounds_toArray, List.set_cons_zero, List.set_cons_succ]
                    refine wpAnyH_take (i := 3) (oi := { dst := some 109, op := Go.Op.indexAddr 22 (Go.Operand.tmp 107) (Go.Operand.tmp 108), type := 0, pos := "ref.go:244", after := #[{ on := 1, ground := Go.Ground.data }, { on := 2, ground := Go.Ground.data }], guard := none }) (v := ?c22v3) rfl (by kernel_rfl) (by kernel_rfl) (by kernel_rfl) (fun _ _ _ h => h) (Or.inl ⟨by rfl, ?c22y3⟩) (by assumption) ?c22r3
                    case c22y3 => (intro w hSw; (try dsimp only at hSw); go_simp; try (with_reducible rfl))
                    case c22r3 =>
                    try simp only [Act.put, List.setIfInBounds_toArray, List.set_cons_zero, List.set_cons_succ]
                    refine wpAnyH_take (i := 4) (oi := { dst := some 110, op := Go.Op.fieldAddr 49 (Go.Operand.tmp 109) 3, type := 0, pos := "ref.go:244", after := #[{ on := 3, ground := Go.Ground.data }], guard := none }) (v := ?c22v4) rfl (by kernel_rfl) (by kernel_rfl) (by kernel_rfl) (fun _ _ _ h => h) (Or.inl ⟨by rfl, ?c22y4⟩) (by assumption) ?c22r4
                    case c22y4 => (intro w hSw; (try dsimp only at hSw); go_simp; try (with_reducible rfl))
                    case c22r4 =>
                    try simp only [Act.put, List.setIfInBounds_toArray, List.set_cons_zero, List.set_cons_succ]
                    refine wpAnyH_take (i := 5) (oi := { dst := some 111, op := Go.Op.load 47 (Go.Operand.tmp 110), type := 47, pos := "ref.go:244", after := #[{ on := 4, ground := Go.Ground.data }], guard := none }) (v := (.slice (some ⟨gw, 0, none⟩) nW cw)) rfl (by kernel_rfl) (by kernel_rfl) (by kernel_rfl) (fun _ _ _ h => h) (Or.inl ⟨by rfl, ?c22y5⟩) (by assumption) ?c22r5
                    case c22y5 => (intro w hSw; (try dsimp only at hSw); go_simp; try (simp [hSw.2]))
                    case c22r5 =>
                    try simp only [Act.put, List.setIfInBounds_toArray, List.set_cons_zero, List.set_cons_succ]
                    refine wpAnyH_take (i := 6) (oi := { dst := some 112, op := Go.Op.move (Go.Operand.tmp 8), type := 3, pos := "ref.go:244", after := #[], guard := none }) (v := ?c22v6) rfl (by kernel_rfl) (by kernel_rfl) (by kernel_rfl) (fun _ _ _ h => h) (Or.inl ⟨by rfl, ?c22y6⟩) (by assumption) ?c22r6
                    case c22y6 => (intro w hSw; (try dsimp only at hSw); go_simp; try (with_reducible rfl))
                    case c22r6 =>
                    try simp only [Act.put, List.setIfInBounds_toArray, List.set_cons_zero, List.set_cons_succ]
                    refine wpAnyH_take (i := 7) (oi := { dst := some 113, op := Go.Op.fieldAddr 26 (Go.Operand.tmp 3) 1, type := 0, pos := "ref.go:244", after := #[], guard := none }) (v := ?c22v7) rfl (by kernel_rfl) (by kernel_rfl) (by kernel_rfl) (fun _ _ _ h => h) (Or.inl ⟨by rfl, ?c22y7⟩) (by assumption) ?c22r7
                    case c22y7 => (intro w hSw; (try dsimp only at hSw); go_simp; try (with_reducible rfl))
                    case c22r7 =>
                    try simp only [Act.put, List.setIfInBounds_toArray, List.set_cons_zero, List.set_cons_succ]
                    refine wpAnyH_take (i := 8) (oi := { dst := some 114, op := Go.Op.load 22 (Go.Operand.tmp 113), type := 22, pos := "ref.go:244", after := #[{ on := 7, ground := Go.Ground.data }], guard := none }) (v := (.slice (some ⟨g, 0, none⟩) nI c1)) rfl (by kernel_rfl) (by kernel_rfl) (by kernel_rfl) (fun _ _ _ h => h) (Or.inl ⟨by rfl, ?c22y8⟩) (by assumption) ?c22r8
                    case c22y8 => (intro w hSw; (try dsimp only at hSw); go_simp; try (simp [hSw.1]))
                    case c22r8 =>
                    try simp only [Act.put, List.setIfInBounds_toArray, List.set_cons_zero, List.set_cons_succ]
                    refine wpAnyH_take (i := 9) (oi := { dst := some 115, op := Go.Op.move (Go.Operand.tmp 7), type := 3, pos := "ref.go:244", after := #[], guard := none }) (v := ?c22v9) rfl (by kernel_rfl) (by kernel_rfl) (by kernel_rfl) (fun _ _ _ h => h) (Or.inl ⟨by rfl, ?c22y9⟩) (by assumption) ?c22r9
                    case c22y9 => (intro w hSw; (try dsimp only at hSw); go_simp; try (with_reducible rfl))
                    case c22r9 =>
                    try simp only [Act.put, List.setIfInBounds_toArray, List.set_cons_zero, List.set_cons_succ]
                    refine wpAnyH_take (i := 10) (oi := { dst := some 116, op := Go.Op.indexAddr 22 (Go.Operand.tmp 114) (Go.Operand.tmp 115), type := 0, pos := "ref.go:244", after := #[{ on := 8, ground := Go.Ground.data }, { on := 9, ground := Go.Ground.data }], guard := none }) (v := ?c22v10) rfl (by kernel_rfl) (by kernel_rfl) (by kernel_rfl) (fun _ _ _ h => h) (Or.inl ⟨by rfl, ?c22y10⟩) (by assumption) ?c22r10
                    case c22y10 => (intro w hSw; (try dsimp only at hSw); go_simp; try (with_reducible rfl))
                    case c22r10 =>
                    try simp only [Act.put, List.setIfInBounds_toArray, List.set_cons_zero, List.set_cons_succ]
                    refine wpAnyH_take (i := 11) (oi := { dst := some 117, op := Go.Op.fieldAddr 49 (Go.Operand.tmp 116) 3, type := 0, pos := "ref.go:244", after := #[{ on := 10, ground := Go.Ground.data }], guard := none }) (v := ?c22v11) rfl (by kernel_rfl) (by kernel_rfl) (by kernel_rfl) (fun _ _ _ h => h) (Or.inl ⟨by rfl, ?c22y11⟩) (by assumption) ?c22r11
                    case c22y11 => (intro w hSw; (try dsimp only at hSw); go_simp; try (with_reducible rfl))
                    case c22r11 =>
                    try simp only [Act.put, List.setIfInBounds_toArray, List.set_cons_zero, List.set_cons_succ]
                    refine wpAnyH_take (i := 12) (oi := { dst := some 118, op := Go.Op.load 47 (Go.Operand.tmp 117), type := 47, pos := "ref.go:244", after := #[{ on := 11, ground := Go.Ground.data }], guard := none }) (v := (.slice (some ⟨gw, 0, none⟩) nW cw)) rfl (by kernel_rfl) (by kernel_rfl) (by kernel_rfl) (fun _ _ _ h => h) (Or.inl ⟨by rfl, ?c22y12⟩) (by assumption) ?c22r12
                    case c22y12 => (intro w hSw; (try dsimp only at hSw); go_simp; try (simp [hSw.2]))
                    case c22r12 =>
                    try simp only [Act.put, List.setIfInBounds_toArray, List.set_cons_zero, List.set_cons_succ]
                    refine wpAnyH_take (i := 13) (oi := { dst := some 119, op := Go.Op.move (Go.Operand.tmp 8), type := 3, pos := "ref.go:244", after := #[], guard := none }) (v := ?c22v13) rfl (by kernel_rfl) (by kernel_rfl) (by kernel_rfl) (fun _ _ _ h => h) (Or.inl ⟨by rfl, ?c22y13⟩) (by assumption) ?c22r13
                    case c22y13 => (intro w hSw; (try dsimp only at hSw); go_simp; try (with_reducible rfl))
                    case c22r13 =>
                    try simp only [Act.put, List.setIfInBounds_toArray, List.set_cons_zero, List.set_cons_succ]
                    refine wpAnyH_take (i := 14) (oi := { dst := some 120, op := Go.Op.indexAddr 47 (Go.Operand.tmp 118) (Go.Operand.tmp 119), type := 0, pos := "ref.go:244", after := #[{ on := 12, ground := Go.Ground.data }, { on := 13, ground := Go.Ground.data }], guard := none }) (v := ?c22v14) rfl (by kernel_rfl) (by kernel_rfl) (by kernel_rfl) (fun _ _ _ h => h) (Or.inl ⟨by rfl, ?c22y14⟩) (by assumption) ?c22r14
                    case c22y14 => (intro w hSw; (try dsimp only at hSw); go_simp; try (with_reducible rfl))
                    case c22r14 =>
                    try simp only [Act.put, List.setIfInBounds_toArray, List.set_cons_zero, List.set_cons_succ]
                    refine wpAnyH_take (i := 16) (oi := { dst := some 122, op := Go.Op.move (Go.Operand.tmp 2), type := 3, pos := "ref.go:244", after := #[], guard := none }) (v := ?c22v16) rfl (by kernel_rfl) (by kernel_rfl) (by kernel_rfl) (fun _ _ _ h => h) (Or.inl ⟨by rfl, ?c22y16⟩) (by assumption) ?c22r16
                    case c22y16 => (intro w hSw; (try dsimp only at hSw); go_simp; try (with_reducible rfl))
                    case c22r16 =>
                    try simp only [Act.put, List.setIfInBounds_toArray, List.set_cons_zero, List.set_cons_succ]
                    refine wpAnyH_ready (rs := [15]) (by kernel_rfl) (by simp) ?_
                    refine AllReadyH.cons (o := { dst := some 121, op := Go.Op.load 27 (Go.Operand.tmp 120), type := 27, pos := "ref.go:244", after := #[{ on := 14, ground := Go.Ground.data }], guard := none }) rfl (fun K hK => ?_) (AllReadyH.nil)
                    go_simp
                    refine hK.out _ _ ?_ (fun hHeld => ?_)
                    · exact HS0.out
                    clear hK K
                    try simp only [Act.put, List.setIfInBounds_toArray, List.set_cons_zero, List.set_cons_succ]
                    refine wpAnyH_take (i := 17) (oi := { dst := some 123, op := Go.Op.slice 27 (Go.Operand.tmp 121) none (some (Go.Operand.tmp 122)) none, type := 27, pos := "ref.go:244", after := #[{ on := 15, ground := Go.Ground.data }, { on := 16, ground := Go.Ground.data }], guard := none }) (v := (.slice Ai m ci)) rfl (by kernel_rfl) (by kernel_rfl) (by kernel_rfl) (fun _ _ _ h => h) (Or.inl ⟨by rfl, ?c22_15y17⟩) (by assumption) ?c22_15r17
                    case c22_15y17 => (intro w hSw; (try dsimp only at hSw); go_simp; try (with_reducible rfl))
                    case c22_15r17 =>
                    try simp only [Act.put, List.setIfInBounds_toArray, List.set_cons_zero, List.set_cons_succ]
                    refine wpAnyH_take (i := 18) (oi := { dst := some 124, op := Go.Op.indexAddr 47 (Go.Operand.tmp 111) (Go.Operand.tmp 112), type := 0, pos := "ref.go:244", after := #[{ on := 5, ground := Go.Ground.data }, { on := 6, ground := Go.Ground.data }, { on := 0, ground := Go.Ground.phase }, { on := 1, ground := Go.Ground.phase }, { on := 2, ground := Go.Ground.phase }, { on := 3, ground := Go.Ground.phase }, { on := 4, ground := Go.Ground.phase }, { on := 5, ground := Go.Ground.phase }, { on := 6, ground := Go.Ground.phase }, { on := 7, ground := Go.Ground.phase }, { on := 8, ground := Go.Ground.phase }, { on := 9, ground := Go.Ground.phase }, { on := 10, ground := Go.Ground.phase }, { on := 11, ground := Go.Ground.phase }, { on := 12, ground := Go.Ground.phase }, { on := 13, ground := Go.Ground.phase }, { on := 14, ground := Go.Ground.phase }, { on := 15, ground := Go.Ground.phase }, { on := 16, ground := Go.Ground.phase }, { on := 17, ground := Go.Ground.phase }], guard := none }) (v := ?c22_15v18) rfl (by kernel_rfl) (by kernel_rfl) (by kernel_rfl) (fun _ _ _ h => h) (Or.inl ⟨by rfl, ?c22_15y18⟩) (by assumption) ?c22_15r18
                    case c22_15y18 => (intro w hSw; (try dsimp only at hSw); go_simp; try (with_reducible rfl))
                    case c22_15r18 =>
                    try simp only [Act.put, List.setIfInBounds_toArray, List.set_cons_zero, List.set_cons_succ]
                    refine wpAnyH_ready (rs := [19]) (by kernel_rfl) (by simp) ?_
                    refine AllReadyH.cons (o := { dst := none, op := Go.Op.store 27 (Go.Operand.tmp 124) (Go.Operand.tmp 123), type := 0, pos := "ref.go:244", after := #[{ on := 18, ground := Go.Ground.data }, { on := 17, ground := Go.Ground.data }, { on := 0, ground := Go.Ground.phase }, { on := 1, ground := Go.Ground.phase }, { on := 2, ground := Go.Ground.phase }, { on := 3, ground := Go.Ground.phase }, { on := 4, ground := Go.Ground.phase }, { on := 5, ground := Go.Ground.phase }, { on := 6, ground := Go.Ground.phase }, { on := 7, ground := Go.Ground.phase }, { on := 8, ground := Go.Ground.phase }, { on := 9, ground := Go.Ground.phase }, { on := 10, ground := Go.Ground.phase }, { on := 11, ground := Go.Ground.phase }, { on := 12, ground := Go.Ground.phase }, { on := 13, ground := Go.Ground.phase }, { on := 14, ground := Go.Ground.phase }, { on := 15, ground := Go.Ground.phase }, { on := 16, ground := Go.Ground.phase }, { on := 17, ground := Go.Ground.phase }], guard := none }) rfl (fun K hK => ?_) (AllReadyH.nil)
                    go_simp
                    refine hK.out _ _ ?_ (fun hHeld => ?_)
                    · exact HS1.out
                    clear hK K
                    try simp only [Act.put]
                    refine wpAnyH_done (by kernel_rfl) ?_ _
                    go_wp2_with fail
                    refine ⟨⟨k + 1, _, setX x3 gw k (.slice Ai m ci) (zs.take m), hkl, by first | rfl | (rw [wrap_small2 (by omega) (by omega)]; rfl), P7, Lib.hid (by rw [List.length_map]; exact hl3.out), Lib.hid (by rw [List.getElem?_map, hx3.out]; rfl), Lib.hid (fun q x hq hx => by
                      rw [List.getElem?_map] at hx
                      cases hq2 : X3[q]? with
                      | none => rw [hq2] at hx; cases hx
                      | some x2 =>
                        rw [hq2] at hx
                        obtain rfl : setX x2 gw k (.slice Ai m ci) (zs.take m) = x := by simpa using hx
                        exact in_set (hin3.out q x2 hq hq2) (by rw [List.length_take]; omega)), hsc3, Lib.hid (by show (setL _ _ _ _ _ _).length = nW; rw [setL_length]; exact hwl3.out), hwv3, Lib.hid (fun q p hq hp => by
                      have hp' : (setL x3.wv x3.wl gw k (.slice Ai m ci) (zs.take m))[q]? = some p := hp
                      unfold setL at hp'
                      rw [hwv3.out, if_pos (show (Value.slice (some ⟨gw, 0, none⟩) nW cw).ownBlock = some gw by simp [Value.ownBlock])] at hp'
                      by_cases hqk : q = k
                      · subst hqk
                        rw [List.getElem?_set_self (by rw [hwl3.out]; exact hkl)] at hp'
                        injection hp' with hp'
                        rw [← hp']
                        show (zs.take m).length ≤ m
                        rw [List.length_take]
                        omega
                      · rw [List.getElem?_set_ne (fun e => hqk e.symm)] at hp'
                        exact hit3.out q p (by omega) hp')⟩, meas_n hkl⟩
                  · as_aux_lemma =>
                    have db : decide ((m : Int) < (nT : Int)) = false := decide_eq_false (by omega)
                    go_wp2_with fail
                    refine ⟨⟨k + 1, X3, x3, hkl, by first | rfl | (rw [wrap_small2 (by omega) (by omega)]; rfl), P6, hl3, hx3, hin3, hsc3, hwl3, hwv3, Lib.hid (fun q p hq hp => by
                      by_cases hqk : q = k
                      · subst hqk
                        rw [HP3.out] at hp
                        injection hp with hp
                        rw [← hp]
                        show zs.length ≤ m
                        have := HNI.out
                        omega
                      · exact hit3.out q p (by omega) hp)⟩, meas_n hkl⟩
                · as_aux_lemma =>
                  have dk : decide ((k : Int) < (nW : Int)) = false := decide_eq_false (by omega)
                  clear hPX hE3
                  go_wp2_with fail
                  refine ⟨⟨j + 1, X3, hlt, by first | rfl | (rw [wrap_small2 (by omega) (by omega)]; rfl), hP, hl3, Lib.hid (fun q x hq hx => by
                    by_cases hqj : q = j
                    · subst hqj
                      rw [hx3.out] at hx
                      injection hx with hx
                      rw [← hx]
                      exact ⟨hsc3.out, by rw [hwl3.out]; exact HNW.out, fun p hp => by
                        obtain ⟨i, hi⟩ := List.mem_iff_getElem?.1 hp
                        exact hit3.out i p (by have := (List.getElem?_eq_some_iff.1 hi).1; have := hwl3.out; omega) hi⟩
                    · exact hin3.out q x (by omega) hx)⟩, meas_n hlt⟩
        · as_aux_lemma =>
          have dj : decide ((j : Int) < (nI : Int)) = false := decide_eq_false (by omega)
          have cT := P3.out.t.cell (show [Value.int .i32 ver, .slice A1 nI c1, OV, .int .u32 lk][1]? = some (.slice A1 nI c1) from rfl)
          have HALL := Lib.hid (show ∀ x ∈ X2, x.in n m from fun x hx => by
            obtain ⟨q, hq⟩ := List.mem_iff_getElem?.1 hx
            exact HIN2.out q x (by have := (List.getElem?_eq_some_iff.1 hq).1; have := HL.out; omega) hq)
          rw [HOV.out] at P3
          clear P5 HIN2 hj
          go_wp2_with fail
          clear cT
          go_loopw [9] (fun s wr => ∃ (j : Nat) (Y2 : List OutV), j ≤ nO ∧ s = .int .i64 (j : Int) ∧ Hid (FwAt w wr G3 G6 ver lk (.slice A1 nI c1) (.slice A2 nO c2) X2 Y2) ∧ Hid (Y2.length = nO) ∧ Hid (∀ q y, q < j → Y2[q]? = some y → y.p.sc.length ≤ m)) (fun s _ => nO - (intOf s).toNat)
          case atStart => exact ⟨0, YY, Nat.zero_le _, rfl, P3, Lib.hid HYY.out.symm, Lib.hid (fun q x hq _ => by omega)⟩
          case round =>
            obtain ⟨j, Y2, hj, rfl, P4, HL2, HIN3⟩ := hrel
            obtain ⟨w4, rfl⟩ : ∃ z : World, z = wr := ⟨_, rfl⟩
            have cT := P4.out.t.cell (show [Value.int .i32 ver, .slice A1 nI c1, .slice A2 nO c2, .int .u32 lk][2]? = some (.slice A2 nO c2) from rfl)
            by_cases hlt : j < nO
            · have dj : decide ((j : Int) < (nO : Int)) = true := decide_eq_true (by omega)
              obtain ⟨g, hA2, _, _⟩ := own_some (show w4.ownsRow w.heap.size 54 2 (.slice A2 nO c2) nO (Y2.flatMap outC) by have q := P4.out.outs; unfold OutsO at q; rw [HL2.out] at q; exact q) (by omega)
              subst hA2
              obtain ⟨y, hy⟩ : ∃ y, Y2[j]? = some y := ⟨_, List.getElem?_eq_getElem (by rw [HL2.out]; exact hlt)⟩
              have HY := Lib.hid hy
              have hE := P4.out.eO y (List.mem_of_getElem? hy)
              have hPX : FwAt w w4 G3 G6 ver lk (.slice A1 nI c1) (.slice (some ⟨g, 0, none⟩) Y2.length c2) X2 Y2 := by rw [HL2.out]; exact P4.out
              obtain ⟨As, cs, hsf⟩ := hE.sc.form
              obtain ⟨nZ, hnZ⟩ : ∃ z, z = y.p.sc.length := ⟨_, rfl⟩
              rw [← hnZ] at hsf
              have eS := (hPX.cellO hy (show (outC y)[1]? = some y.sv from rfl)).1
              have eSf := (hPX.cellO hy (show (outC y)[1]? = some y.sv from rfl)).2
              rw [hsf] at eS
              have hcapS := own_cap (show w4.ownsRow w.heap.size 5 1 (.slice As nZ cs) nZ (y.p.sc.map bv) by have q := hE.sc; rw [hsf] at q; unfold OwnB at q; rw [← hnZ] at q; exact q)
              have HSV := Lib.hid hsf
              have HNZ := Lib.hid hnZ
              clear hE hPX hsf hnZ hy
              by_cases hb1 : m < nZ
              · as_aux_lemma =>
                have db1 : decide ((m : Int) < (nZ : Int)) = true := decide_eq_true (by omega)
                have HS0 := Lib.hid (show w4.drew.cell? ⟨G3, 2, none⟩ = some (.slice (some ⟨g, 0, none⟩) nO c2) from cT)
                have dS : w4.drew.cell? ⟨g, j * 2 + 1, none⟩ = some (.slice As nZ cs) := eS
                have dSf : w4.drew.frozen? ⟨g, j * 2 + 1, none⟩ = false := eSf
                obtain ⟨y4, hy4⟩ : ∃ z : OutV, z = ⟨⟨y.p.v, y.p.sc.take m⟩, .slice As m cs⟩ := ⟨_, rfl⟩
                have hE4 : ElO w4.drew w.heap.size y4 := by
                  have e3 := P4.out.drew.eO y (List.mem_of_getElem? HY.out)
                  rw [hy4]
                  exact ⟨⟨e3.ok.v0, e3.ok.v1⟩, OwnB.cut (n := nZ) (by have q := e3.sc; rw [HSV.out] at q; exact q) HNZ.out (by omega)⟩
                have hP4 := (show FwAt w w4.drew G3 G6 ver lk (.slice A1 nI c1) (.slice (some ⟨g, 0, none⟩) Y2.length c2) X2 Y2 by rw [HL2.out]; exact P4.out.drew).setO HY.out (j := 1) (by decide) (x' := y4) (u := .slice As m cs) (by rw [hy4]; rfl) hE4
                rw [HL2.out] at hP4
                have HL4 := Lib.hid (show (Y2.set j y4).length = nO by rw [List.length_set]; exact HL2.out)
                have HIN4 := Lib.hid (show ∀ q z, q < j + 1 → (Y2.set j y4)[q]? = some z → z.p.sc.length ≤ m from fun q z hq hz => by
                  by_cases hqj : q = j
                  · subst hqj
                    rw [List.getElem?_set_self (by rw [HL2.out]; exact hlt)] at hz
                    injection hz with hz
                    rw [← hz, hy4]
                    show (y.p.sc.take m).length ≤ m
                    rw [List.length_take]
                    omega
                  · rw [List.getElem?_set_ne (fun e => hqj e.symm)] at hz
                    exact HIN3.out q z (by omega) hz)
                have PN := Lib.hid hP4
                have HS1 := Lib.hid (show (w4.drew.setCell ⟨g, j * 2 + 1, none⟩ (.slice As m cs)).cell? ⟨G3, 2, none⟩ = some (.slice (some ⟨g, 0, none⟩) nO c2) from hP4.t.cell rfl)
                have hms : m ≤ cs := by omega
                clear hE4 hP4 hy4
                go_upto_region 22 with fail
                clear eS eSf cT
                refine wp_region_held_drew (S := (fun w' => w'.cell? ⟨G3, 2, none⟩ = some (.slice (some ⟨g, 0, none⟩) nO c2))) (by kernel_rfl) ?_ (fun hHeld => ?_)
                · exact HS0.out
                refine wpAnyH_take (i := 0) (oi := { dst := some 141, op := Go.Op.fieldAddr 26 (Go.Operand.tmp 3) 2, type := 0, pos := "ref.go:250", after := #[], guard := none }) (v := ?ov0) rfl (by kernel_rfl) (by kernel_rfl) (by kernel_rfl) (fun _ _ _ h => h) (Or.inl ⟨by rfl, ?oy0⟩) (by assumption) ?or0
                case oy0 => (intro w hSw; (try dsimp only at hSw); go_simp; try (with_reducible rfl))
                case or0 =>
                try simp only [Act.put, List.setIfInBounds_toArray, List.set_cons_zero, List.set_cons_succ]
                refine wpAnyH_take (i := 1) (oi := { dst := some 142, op := Go.Op.load 23 (Go.Operand.tmp 141), type := 23, pos := "ref.go:250", after := #[{ on := 0, ground := Go.Ground.data }], guard := none }) (v := (.slice (some ⟨g, 0, none⟩) nO c2)) rfl (by kernel_rfl) (by kernel_rfl) (by kernel_rfl) (fun _ _ _ h => h) (Or.inl ⟨by rfl, ?oy1⟩) (by assumption) ?or1
                case oy1 => (intro w hSw; (try dsimp only at hSw); go_simp; try (simp [hSw]))
                case or1 =>
                try simp only [Act.put, List.setIfInBounds_toArray, List.set_cons_zero, List.set_cons_succ]
                refine wpAnyH_take (i := 2) (oi := { dst := some 143, op := Go.Op.move (Go.Operand.tmp 9), type := 3, pos := "ref.go:250", after := #[], guard := none }) (v := ?ov2) rfl (by kernel_rfl) (by kernel_rfl) (by kernel_rfl) (fun _ _ _ h => h) (Or.inl ⟨by rfl, ?oy2⟩) (by assumption) ?or2
                case oy2 => (intro w hSw; (try dsimp only at hSw); go_simp; try (with_reducible rfl))
                case or2 =>
                try simp only [Act.put, List.setIfInBounds_toArray, List.set_cons_zero, List.set_cons_succ]
                refine wpAnyH_take (i := 3) (oi := { dst := some 144, op := Go.Op.fieldAddr 26 (Go.Operand.tmp 3) 2, type := 0, pos := "ref.go:250", after := #[], guard := none }) (v := ?ov3) rfl (by kernel_rfl) (by kernel_rfl) (by kernel_rfl) (fun _ _ _ h => h) (Or.inl ⟨by rfl, ?oy3⟩) (by assumption) ?or3
                case oy3 => (intro w hSw; (try dsimp only at hSw); go_simp; try (with_reducible rfl))
                case or3 =>
                try simp only [Act.put, List.setIfInBounds_toArray, List.set_cons_zero, List.set_cons_succ]
                refine wpAnyH_take (i := 4) (oi := { dst := some 145, op := Go.Op.load 23 (Go.Operand.tmp 144), type := 23, pos := "ref.go:250", after := #[{ on := 3, ground := Go.Ground.data }], guard := none }) (v := (.slice (some ⟨g, 0, none⟩) nO c2)) rfl (by kernel_rfl) (by kernel_rfl) (by kernel_rfl) (fun _ _ _ h => h) (Or.inl ⟨by rfl, ?oy4⟩) (by assumption) ?or4
                case oy4 => (intro w hSw; (try dsimp only at hSw); go_simp; try (simp [hSw]))
                case or4 =>
                try simp only [Act.put, List.setIfInBounds_toArray, List.set_cons_zero, List.set_cons_succ]
                refine wpAnyH_take (i := 5) (oi := { dst := some 146, op := Go.Op.move (Go.Operand.tmp 9), type := 3, pos := "ref.go:250", after := #[], guard := none }) (v := ?ov5) rfl (by kernel_rfl) (by kernel_rfl) (by kernel_rfl) (fun _ _ _ h => h) (Or.inl ⟨by rfl, ?oy5⟩) (by assumption) ?or5
                case oy5 => (intro w hSw; (try dsimp only at hSw); go_simp; try (with_reducible rfl))
                case or5 =>
                try simp only [Act.put, List.setIfInBounds_toArray, List.set_cons_zero, List.set_cons_succ]
                refine wpAnyH_take (i := 6) (oi := { dst := some 147, op := Go.Op.indexAddr 23 (Go.Operand.tmp 145) (Go.Operand.tmp 146), type := 0, pos := "ref.go:250", after := #[{ on := 4, ground := Go.Ground.data }, { on := 5, ground := Go.Ground.data }], guard := none }) (v := ?ov6) rfl (by kernel_rfl) (by kernel_rfl) (by kernel_rfl) (fun _ _ _ h => h) (Or.inl ⟨by rfl, ?oy6⟩) (by assumption) ?or6
                case oy6 => (intro w hSw; (try dsimp only at hSw); go_simp; try (with_reducible rfl))
                case or6 =>
                try simp only [Act.put, List.setIfInBounds_toArray, List.set_cons_zero, List.set_cons_succ]
                refine wpAnyH_take (i := 7) (oi := { dst := some 148, op := Go.Op.fieldAddr 54 (Go.Operand.tmp 147) 1, type := 0, pos := "ref.go:250", after := #[{ on := 6, ground := Go.Ground.data }], guard := none }) (v := ?ov7) rfl (by kernel_rfl) (by kernel_rfl) (by kernel_rfl) (fun _ _ _ h => h) (Or.inl ⟨by rfl, ?oy7⟩) (by assumption) ?or7
                case oy7 => (intro w hSw; (try dsimp only at hSw); go_simp; try (with_reducible rfl))
                case or7 =>
                try simp only [Act.put, List.setIfInBounds_toArray, List.set_cons_zero, List.set_cons_succ]
                refine wpAnyH_take (i := 9) (oi := { dst := some 150, op := Go.Op.move (Go.Operand.tmp 2), type := 3, pos := "ref.go:250", after := #[], guard := none }) (v := ?ov9) rfl (by kernel_rfl) (by kernel_rfl) (by kernel_rfl) (fun _ _ _ h => h) (Or.inl ⟨by rfl, ?oy9⟩) (by assumption) ?or9
                case oy9 => (intro w hSw; (try dsimp only at hSw); go_simp; try (with_reducible rfl))
                case or9 =>
                try simp only [Act.put, List.setIfInBounds_toArray, List.set_cons_zero, List.set_cons_succ]
                refine wpAnyH_ready (rs := [8]) (by kernel_rfl) (by simp) ?_
                refine AllReadyH.cons (o := { dst := some 149, op := Go.Op.load 27 (Go.Operand.tmp 148), type := 27, pos := "ref.go:250", after := #[{ on := 7, ground := Go.Ground.data }], guard := none }) rfl (fun K hK => ?_) (AllReadyH.nil)
                go_simp
                refine hK.out _ _ ?_ (fun hHeld => ?_)
                · exact HS0.out
                clear hK K
                try simp only [Act.put, List.setIfInBounds_toArray, List.set_cons_zero, List.set_cons_succ]
                refine wpAnyH_take (i := 10) (oi := { dst := some 151, op := Go.Op.slice 27 (Go.Operand.tmp 149) none (some (Go.Operand.tmp 150)) none, type := 27, pos := "ref.go:250", after := #[{ on := 8, ground := Go.Ground.data }, { on := 9, ground := Go.Ground.data }], guard := none }) (v := (.slice As m cs)) rfl (by kernel_rfl) (by kernel_rfl) (by kernel_rfl) (fun _ _ _ h => h) (Or.inl ⟨by rfl, ?o_8y10⟩) (by assumption) ?o_8r10
                case o_8y10 => (intro w hSw; (try dsimp only at hSw); go_simp; try (with_reducible rfl))
                case o_8r10 =>
                try simp only [Act.put, List.setIfInBounds_toArray, List.set_cons_zero, List.set_cons_succ]
                refine wpAnyH_take (i := 11) (oi := { dst := some 152, op := Go.Op.indexAddr 23 (Go.Operand.tmp 142) (Go.Operand.tmp 143), type := 0, pos := "ref.go:250", after := #[{ on := 1, ground := Go.Ground.data }, { on := 2, ground := Go.Ground.data }, { on := 0, ground := Go.Ground.phase }, { on := 1, ground := Go.Ground.phase }, { on := 2, ground := Go.Ground.phase }, { on := 3, ground := Go.Ground.phase }, { on := 4, ground := Go.Ground.phase }, { on := 5, ground := Go.Ground.phase }, { on := 6, ground := Go.Ground.phase }, { on := 7, ground := Go.Ground.phase }, { on := 8, ground := Go.Ground.phase }, { on := 9, ground := Go.Ground.phase }, { on := 10, ground := Go.Ground.phase }], guard := none }) (v := ?o_8v11) rfl (by kernel_rfl) (by kernel_rfl) (by kernel_rfl) (fun _ _ _ h => h) (Or.inl ⟨by rfl, ?o_8y11⟩) (by assumption) ?o_8r11
                case o_8y11 => (intro w hSw; (try dsimp only at hSw); go_simp; try (with_reducible rfl))
                case o_8r11 =>
                try simp only [Act.put, List.setIfInBounds_toArray, List.set_cons_zero, List.set_cons_succ]
                refine wpAnyH_take (i := 12) (oi := { dst := some 153, op := Go.Op.fieldAddr 54 (Go.Operand.tmp 152) 1, type := 0, pos := "ref.go:250", after := #[{ on := 11, ground := Go.Ground.data }, { on := 0, ground := Go.Ground.phase }, { on := 1, ground := Go.Ground.phase }, { on := 2, ground := Go.Ground.phase }, { on := 3, ground := Go.Ground.phase }, { on := 4, ground := Go.Ground.phase }, { on := 5, ground := Go.Ground.phase }, { on := 6, ground := Go.Ground.phase }, { on := 7, ground := Go.Ground.phase }, { on := 8, ground := Go.Ground.phase }, { on := 9, ground := Go.Ground.phase }, { on := 10, ground := Go.Ground.phase }], guard := none }) (v := ?o_8v12) rfl (by kernel_rfl) (by kernel_rfl) (by kernel_rfl) (fun _ _ _ h => h) (Or.inl ⟨by rfl, ?o_8y12⟩) (by assumption) ?o_8r12
                case o_8y12 => (intro w hSw; (try dsimp only at hSw); go_simp; try (with_reducible rfl))
                case o_8r12 =>
                try simp only [Act.put, List.setIfInBounds_toArray, List.set_cons_zero, List.set_cons_succ]
                refine wpAnyH_ready (rs := [13]) (by kernel_rfl) (by simp) ?_
                refine AllReadyH.cons (o := { dst := none, op := Go.Op.store 27 (Go.Operand.tmp 153) (Go.Operand.tmp 151), type := 0, pos := "ref.go:250", after := #[{ on := 12, ground := Go.Ground.data }, { on := 10, ground := Go.Ground.data }, { on := 0, ground := Go.Ground.phase }, { on := 1, ground := Go.Ground.phase }, { on := 2, ground := Go.Ground.phase }, { on := 3, ground := Go.Ground.phase }, { on := 4, ground := Go.Ground.phase }, { on := 5, ground := Go.Ground.phase }, { on := 6, ground := Go.Ground.phase }, { on := 7, ground := Go.Ground.phase }, { on := 8, ground := Go.Ground.phase }, { on := 9, ground := Go.Ground.phase }, { on := 10, ground := Go.Ground.phase }], guard := none }) rfl (fun K hK => ?_) (AllReadyH.nil)
                go_simp
                refine hK.out _ _ ?_ (fun hHeld => ?_)
                · exact HS1.out
                clear hK K
                try simp only [Act.put]
                refine wpAnyH_done (by kernel_rfl) ?_ _
                go_wp2_with fail
                exact ⟨⟨j + 1, _, hlt, by first | rfl | (rw [wrap_small2 (by omega) (by omega)]; rfl), PN, HL4, HIN4⟩, meas_n hlt⟩
              · as_aux_lemma =>
                have db1 : decide ((m : Int) < (nZ : Int)) = false := decide_eq_false (by omega)
                go_wp2_with fail
                exact ⟨⟨j + 1, _, hlt, by first | rfl | (rw [wrap_small2 (by omega) (by omega)]; rfl), P4, HL2, Lib.hid (fun q z hq hz => by
                  by_cases hqj : q = j
                  · subst hqj
                    rw [HY.out] at hz
                    injection hz with hz
                    rw [← hz]
                    have := HNZ.out
                    omega
                  · exact HIN3.out q z (by omega) hz)⟩, meas_n hlt⟩
            · as_aux_lemma =>
              have dj : decide ((j : Int) < (nO : Int)) = false := decide_eq_false (by omega)
              have HAO := Lib.hid (show ∀ y ∈ Y2, y.p.sc.length ≤ m from fun y hy => by
                obtain ⟨q, hq⟩ := List.mem_iff_getElem?.1 hy
                exact HIN3.out q y (by have := (List.getElem?_eq_some_iff.1 hq).1; have := HL2.out; omega) hq)
              obtain ⟨FC2, hFC2⟩ : ∃ z, z = [Value.int .i32 ver, .slice A1 nI c1, .slice A2 nO c2, .int .u32 lk] := ⟨_, rfl⟩
              have ro : VRow w4 G3 26 FC2 := by rw [hFC2]; exact P4.out.t
              have rr : VRow w4 G6 26 ZT := by rw [HZT.out]; exact P4.out.r
              have HFS := Lib.hid (show (Tryd.prog.info? 26).map (·.size) = some FC2.length by rw [hFC2]; exact size_tx)
              have HFL := Lib.hid (show ZT.length = FC2.length by rw [hFC2, HZT.out]; rfl)
              have HF1 := Lib.hid (show FC2.toArray.all (·.oneCell') = true by rw [hFC2]; exact arr_one (fun v hv => by simp only [List.mem_cons, List.not_mem_nil, or_false] at hv; rcases hv with rfl | rfl | rfl | rfl <;> rfl))
              have HFC2 := Lib.hid hFC2
              have RO := Lib.hid ro
              have RR := Lib.hid rr
              clear hj hFC2 ro rr
              go_wp2_with (first
                | (refine wpList_load_vrow rfl 26 (.tmp 3) rfl rfl RO.out Tryd.underlying26 HFS.out ?_)
                | (refine wpList_store_vrow rfl 26 (.tmp 6) _ rfl rfl rfl RR.out HFS.out HFL.out HF1.out ?_))
              refine bodyPost_ret (v := .agg FC2.toArray) ?_ rfl ?_
              · obtain ⟨fr, hrw⟩ : ∃ fr, (w4.setRow G6 FC2.toArray).heap[G6]? = some (.cells FC2.toArray 26 fr) := ⟨_, RR.out.setRow FC2⟩
                exact results_cell_row Tryd.results20 _ _ G6 26 FC2.toArray fr _ rfl hrw Tryd.underlying26 rfl (by rw [List.size_toArray]; exact HFS.out)
              · have tt : Turns (fun q => q = G6) w4 (w4.setRow G6 FC2.toArray) := Turns.setRow (S := fun q => q = G6) (Turns.refl _ w4) (fun _ => rfl) _
                have hc := RR.out
                have hS : ∀ k, k = G6 → k < w4.heap.size → ∃ cs T m, w4.heap[k]? = some (.cells cs T m) ∧ 27 ≠ T ∧ 5 ≠ T := fun k q _ => by subst q; exact ⟨_, _, _, hc, by decide, by decide⟩
                refine ⟨⟨t.ver, X2.map (·.p), Y2.map (·.p), t.lock⟩, .slice A1 nI c1, .slice A2 nO c2, by rw [HFC2.out, HVER.out, HLK.out]; rfl, X2, Y2, ⟨HOK.out.v0, HOK.out.v1, HOK.out.l0, HOK.out.l1⟩, own_apart P4.out.ins tt (fun k q _ => by subst q; exact ⟨_, _, _, hc, by decide⟩), own_apart P4.out.outs tt (fun k q _ => by subst q; exact ⟨_, _, _, hc, by decide⟩), fun x hx => (P4.out.eI x hx).apart tt hS, fun y hy => (P4.out.eO y hy).apart tt hS, rfl, rfl, HALL.out, by rw [HL.out]; exact hnI, HAO.out, by rw [HL2.out]; exact hnO, below_setRow P4.out.bel (by have := HG6.out; omega) _⟩
end Go.Proofs.YthelmclpmalofaaDoor
