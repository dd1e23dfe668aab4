/-
  Texts joined: StBag, TvP, TvW. Conditions: those of each.
-/
import Derived.Test.YthelmclpmalofaaDoorK2
import Derived.Test.YthelmclpmalofaaDoorK1
/-
  Slices of slices of bytes, as they are read. Conditions: none.
-/
namespace Go.Proofs.YthelmclpmalofaaDoor
open Go.RowKit

/-- The slice value v reads as these slices of bytes. -/
def BagR (w : World) (B : Nat) (v : Value) (L : List (Value × List UInt8)) : Prop :=
  (∃ A c, v = .slice A L.length c ∧ L.length ≤ c ∧ c ≤ maxLen ∧ (L ≠ [] → ∃ b o, A = some ⟨b, o, none⟩ ∧ b < B ∧ ∀ i p, L[i]? = some p → w.cell? ⟨b, o + i, none⟩ = some p.1)) ∧ ∀ p ∈ L, Byt w B p.1 p.2
theorem BagR.form {w : World} {B : Nat} {v : Value} {L : List (Value × List UInt8)} (h : BagR w B v L) : ∃ A c, v = .slice A L.length c := by
  obtain ⟨⟨A, c, hv, _⟩, _⟩ := h
  exact ⟨A, c, hv⟩
theorem BagR.len {w : World} {B : Nat} {v : Value} {L : List (Value × List UInt8)} (h : BagR w B v L) : L.length ≤ 9223372036854775807 := by
  obtain ⟨⟨A, c, hv, h1, h2, _⟩, _⟩ := h
  unfold maxLen at h2
  omega
theorem BagR.below {w w' : World} {B : Nat} {v : Value} {L : List (Value × List UInt8)} (h : BagR w B v L) (hb : Below B w w') : BagR w' B v L := by
  obtain ⟨⟨A, c, hv, h1, h2, h3⟩, h4⟩ := h
  refine ⟨⟨A, c, hv, h1, h2, fun hne => ?_⟩, fun p hp => (h4 p hp).below hb⟩
  obtain ⟨b, o, e, hb', hc⟩ := h3 hne
  exact ⟨b, o, e, hb', fun i p hp => (hb.cell (p := ⟨b, _, none⟩) hb').trans (hc i p hp)⟩
theorem BagR.more {w : World} {B B' : Nat} {v : Value} {L : List (Value × List UInt8)} (h : BagR w B v L) (hB : B ≤ B') : BagR w B' v L := by
  obtain ⟨⟨A, c, hv, h1, h2, h3⟩, h4⟩ := h
  refine ⟨⟨A, c, hv, h1, h2, fun hne => ?_⟩, fun p hp => (h4 p hp).more hB⟩
  obtain ⟨b, o, e, hb', hc⟩ := h3 hne
  exact ⟨b, o, e, by omega, hc⟩
end Go.Proofs.YthelmclpmalofaaDoor

/-
  Transactions in memory: what may be read of them. Conditions: none.
-/
namespace Go.Proofs.YthelmclpmalofaaDoor
open Go.RowKit

theorem own_le {w : World} {b b' : Nat} {e : TypeId} {size n : Nat} {v : Value} {xs : List Value} (h : w.ownsRow b e size v n xs) (hb : b' ≤ b) : w.ownsRow b' e size v n xs := by
  refine ⟨h.1, ?_⟩
  rcases h.2 with h2 | ⟨g, cap, cur, e1, e2, e3⟩
  · exact .inl h2
  · exact .inr ⟨g, cap, cur, e1, Nat.le_trans hb e2, e3⟩
theorem wrap_small2 {x : Int} (h0 : -9223372036854775808 ≤ x) (h1 : x ≤ 9223372036854775807) : wrap64 x = x := by unfold wrap64; omega
/-- An input, in plain words. -/
structure InP where
  h : List UInt8
  ix : Int
  sc : List UInt8
  sq : Int
  wt : List (List UInt8)
structure OutP where
  v : Int
  sc : List UInt8
structure TxP where
  ver : Int
  ins : List InP
  outs : List OutP
  lock : Int
structure InP.ok (p : InP) : Prop where
  hl : p.h.length = 32
  ix0 : 0 ≤ p.ix
  ix1 : p.ix < 4294967296
  sq0 : 0 ≤ p.sq
  sq1 : p.sq < 4294967296
structure OutP.ok (p : OutP) : Prop where
  v0 : -9223372036854775808 ≤ p.v
  v1 : p.v ≤ 9223372036854775807
/-- An input's values in memory: its script's, its witness's, that one's items'. -/
structure InV where
  p : InP
  sv : Value
  wv : Value
  wl : List (Value × List UInt8)
structure OutV where
  p : OutP
  sv : Value
def inC (x : InV) : List Value := x.p.h.map bv ++ [.int .u32 x.p.ix, x.sv, .int .u32 x.p.sq, x.wv]
def outC (y : OutV) : List Value := [.int .i64 y.p.v, y.sv]
theorem inC_length {x : InV} (h : x.p.ok) : (inC x).length = 36 := by unfold inC; rw [List.length_append, List.length_map, h.hl]; rfl
theorem outC_length (y : OutV) : (outC y).length = 2 := rfl
theorem inC_hash {x : InV} {j : Nat} {v : Value} (h : (x.p.h.map bv)[j]? = some v) : (inC x)[j]? = some v := by
  unfold inC
  rw [List.getElem?_append_left (List.getElem?_eq_some_iff.1 h).1]
  exact h
theorem inC_high {x : InV} (h : x.p.ok) (j : Nat) : (inC x)[32 + j]? = [Value.int .u32 x.p.ix, x.sv, .int .u32 x.p.sq, x.wv][j]? := by
  unfold inC
  rw [List.getElem?_append_right (by rw [List.length_map, h.hl]; omega), List.length_map, h.hl]
  congr 1
  omega
theorem inC_ix {x : InV} (h : x.p.ok) : (inC x)[32]? = some (.int .u32 x.p.ix) := inC_high h 0
theorem inC_sc {x : InV} (h : x.p.ok) : (inC x)[33]? = some x.sv := inC_high h 1
theorem inC_sq {x : InV} (h : x.p.ok) : (inC x)[34]? = some (.int .u32 x.p.sq) := inC_high h 2
theorem inC_wt {x : InV} (h : x.p.ok) : (inC x)[35]? = some x.wv := inC_high h 3
theorem bv_one' (c : UInt8) : (bv c).oneCell' = true := rfl
theorem Byt.one {w : World} {B : Nat} {v : Value} {xs : List UInt8} (h : Byt w B v xs) : v.oneCell' = true := by obtain ⟨A, c, rfl, _⟩ := h; rfl
theorem BagR.one {w : World} {B : Nat} {v : Value} {L : List (Value × List UInt8)} (h : BagR w B v L) : v.oneCell' = true := by obtain ⟨A, c, rfl⟩ := h.form; rfl

/-- What lies behind an input's values. -/
structure InIs (w : World) (B : Nat) (x : InV) : Prop where
  ok : x.p.ok
  sc : Byt w B x.sv x.p.sc
  wt : BagR w B x.wv x.wl
  eq : x.wl.map (·.2) = x.p.wt
structure OutIs (w : World) (B : Nat) (y : OutV) : Prop where
  ok : y.p.ok
  sc : Byt w B y.sv y.p.sc
theorem InIs.below {w w' : World} {B : Nat} {x : InV} (h : InIs w B x) (hb : Below B w w') : InIs w' B x := ⟨h.ok, h.sc.below hb, h.wt.below hb, h.eq⟩
theorem InIs.more {w : World} {B B' : Nat} {x : InV} (h : InIs w B x) (hB : B ≤ B') : InIs w B' x := ⟨h.ok, h.sc.more hB, h.wt.more hB, h.eq⟩
theorem OutIs.below {w w' : World} {B : Nat} {x : OutV} (h : OutIs w B x) (hb : Below B w w') : OutIs w' B x := ⟨h.ok, h.sc.below hb⟩
theorem OutIs.more {w : World} {B B' : Nat} {x : OutV} (h : OutIs w B x) (hB : B ≤ B') : OutIs w B' x := ⟨h.ok, h.sc.more hB⟩
theorem InIs.one {w : World} {B : Nat} {x : InV} (h : InIs w B x) : ∀ v ∈ inC x, v.oneCell' = true := fun v hv => by
  unfold inC at hv
  rcases List.mem_append.1 hv with hv | hv
  · obtain ⟨c, _, rfl⟩ := List.mem_map.1 hv
    rfl
  · simp only [List.mem_cons, List.not_mem_nil, or_false] at hv
    rcases hv with rfl | rfl | rfl | rfl
    · rfl
    · exact h.sc.one
    · rfl
    · exact h.wt.one
theorem OutIs.one {w : World} {B : Nat} {y : OutV} (h : OutIs w B y) : ∀ v ∈ outC y, v.oneCell' = true := fun v hv => by
  unfold outC at hv
  simp only [List.mem_cons, List.not_mem_nil, or_false] at hv
  rcases hv with rfl | rfl
  · rfl
  · exact h.sc.one

/-- A slice whose elements' cells are these, one behind the other. -/
def RowR (w : World) (B : Nat) (v : Value) (n : Nat) (cs : List Value) : Prop := ∃ A c, v = .slice A n c ∧ n ≤ c ∧ c ≤ maxLen ∧ (n ≠ 0 → ∃ b o, A = some ⟨b, o, none⟩ ∧ b < B ∧ w.rangeAt b o cs)
theorem RowR.form {w : World} {B n : Nat} {v : Value} {cs : List Value} (h : RowR w B v n cs) : ∃ A c, v = .slice A n c ∧ n ≤ c ∧ c ≤ 9223372036854775807 := by
  obtain ⟨A, c, hv, h1, h2, _⟩ := h
  exact ⟨A, c, hv, h1, h2⟩
theorem RowR.one {w : World} {B n : Nat} {v : Value} {cs : List Value} (h : RowR w B v n cs) : v.oneCell' = true := by obtain ⟨A, c, rfl, _⟩ := h; rfl
theorem RowR.below {w w' : World} {B n : Nat} {v : Value} {cs : List Value} (h : RowR w B v n cs) (hb : Below B w w') : RowR w' B v n cs := by
  obtain ⟨A, c, hv, h1, h2, h3⟩ := h
  refine ⟨A, c, hv, h1, h2, fun hn => ?_⟩
  obtain ⟨b, o, e, hlt, hr⟩ := h3 hn
  exact ⟨b, o, e, hlt, fun j v hv => (hb.cell (p := ⟨b, _, none⟩) hlt).trans (hr j v hv)⟩
theorem RowR.more {w : World} {B B' n : Nat} {v : Value} {cs : List Value} (h : RowR w B v n cs) (hB : B ≤ B') : RowR w B' v n cs := by
  obtain ⟨A, c, hv, h1, h2, h3⟩ := h
  refine ⟨A, c, hv, h1, h2, fun hn => ?_⟩
  obtain ⟨b, o, e, hlt, hr⟩ := h3 hn
  exact ⟨b, o, e, by omega, hr⟩
theorem RowR.nil (w : World) (B : Nat) : RowR w B (.slice none 0 0) 0 [] := ⟨none, 0, rfl, Nat.le_refl _, by unfold maxLen; omega, fun h => absurd rfl h⟩
theorem RowR.of_own {w : World} {base n size : Nat} {e : TypeId} {v : Value} {cs : List Value} (h : w.ownsRow base e size v n cs) : RowR w w.heap.size v n cs := by
  rcases h.2 with ⟨rfl, hn⟩ | ⟨g, cap, cur, rfl, _, hg, hnc, hcm, _, _⟩
  · subst hn
    exact ⟨none, 0, rfl, Nat.le_refl _, by unfold maxLen; omega, fun h => absurd rfl h⟩
  · refine ⟨some ⟨g, 0, none⟩, cap, rfl, hnc, hcm, fun _ => ⟨g, 0, rfl, (h.lt g rfl).2, fun j u hu => ?_⟩⟩
    have hc := h.cells (g := g) rfl j u hu
    have hadd : (⟨g, 0, none⟩ : Addr).add j = ⟨g, 0 + j, none⟩ := by unfold Addr.add; split <;> simp_all
    rw [← hadd]
    exact hc
/-- Flat cells. -/
theorem flat_in {α : Type} (f : α → List Value) (n : Nat) : ∀ (X : List α), (∀ e ∈ X, (f e).length = n) → ∀ (i : Nat) (e : α), X[i]? = some e → ∀ j v, (f e)[j]? = some v → (X.flatMap f)[i * n + j]? = some v
  | [], _, i, e, h, _, _, _ => by simp at h
  | a :: X, hf, 0, e, h, j, v, hv => by
    obtain rfl : a = e := by simpa using h
    rw [List.flatMap_cons, Nat.zero_mul, Nat.zero_add, List.getElem?_append_left (List.getElem?_eq_some_iff.1 hv).1]
    exact hv
  | a :: X, hf, i + 1, e, h, j, v, hv => by
    have h' : X[i]? = some e := by simpa using h
    have ih := flat_in f n X (fun e he => hf e (by simp [he])) i e h' j v hv
    have ha := hf a (by simp)
    rw [List.flatMap_cons, List.getElem?_append_right (by rw [ha, Nat.add_mul]; omega), ha, show (i + 1) * n + j - n = i * n + j by rw [Nat.add_mul]; omega]
    exact ih
theorem flat_len {α : Type} (f : α → List Value) (n : Nat) : ∀ (X : List α), (∀ e ∈ X, (f e).length = n) → (X.flatMap f).length = X.length * n
  | [], _ => by simp
  | a :: X, hf => by rw [List.flatMap_cons, List.length_append, hf a (by simp), flat_len f n X (fun e he => hf e (by simp [he])), List.length_cons, Nat.add_mul]; omega
theorem flat_set {α : Type} (f : α → List Value) (n : Nat) : ∀ (X : List α), (∀ e ∈ X, (f e).length = n) → ∀ (i : Nat) (e e' : α) (j : Nat) (v : Value), X[i]? = some e → j < n → f e' = (f e).set j v → (X.flatMap f).set (i * n + j) v = (X.set i e').flatMap f
  | [], _, i, e, _, _, _, h, _, _ => by simp at h
  | a :: X, hf, 0, e, e', j, v, h, hj, he => by
    obtain rfl : a = e := by simpa using h
    rw [List.flatMap_cons, Nat.zero_mul, Nat.zero_add, List.set_cons_zero, List.flatMap_cons, he, List.set_append_left _ _ (by rw [hf a (by simp)]; exact hj)]
  | a :: X, hf, i + 1, e, e', j, v, h, hj, he => by
    have h' : X[i]? = some e := by simpa using h
    have ih := flat_set f n X (fun e he => hf e (by simp [he])) i e e' j v h' hj he
    have ha := hf a (by simp)
    rw [List.flatMap_cons, List.set_cons_succ, List.flatMap_cons, List.set_append_right _ _ (by rw [ha, Nat.add_mul]; omega), ha, show (i + 1) * n + j - n = i * n + j by rw [Nat.add_mul]; omega, ih]
theorem flat_take {α : Type} (f : α → List Value) (n : Nat) : ∀ (X : List α), (∀ e ∈ X, (f e).length = n) → ∀ (k : Nat), (X.flatMap f).take (k * n) = (X.take k).flatMap f
  | [], _, k => by simp
  | a :: X, hf, 0 => by simp
  | a :: X, hf, k + 1 => by
    have ha := hf a (by simp)
    rw [List.flatMap_cons, List.take_succ_cons, List.flatMap_cons, List.take_append, ha, show (k + 1) * n - n = k * n by rw [Nat.add_mul]; omega, flat_take f n X (fun e he => hf e (by simp [he])) k, List.take_of_length_le (by rw [ha, Nat.add_mul]; omega)]

structure InsR (w : World) (B : Nat) (v : Value) (X : List InV) : Prop where
  row : RowR w B v X.length (X.flatMap inC)
  each : ∀ x ∈ X, InIs w B x
structure OutsR (w : World) (B : Nat) (v : Value) (Y : List OutV) : Prop where
  row : RowR w B v Y.length (Y.flatMap outC)
  each : ∀ y ∈ Y, OutIs w B y
theorem InsR.below {w w' : World} {B : Nat} {v : Value} {X : List InV} (h : InsR w B v X) (hb : Below B w w') : InsR w' B v X := ⟨h.row.below hb, fun x hx => (h.each x hx).below hb⟩
theorem InsR.more {w : World} {B B' : Nat} {v : Value} {X : List InV} (h : InsR w B v X) (hB : B ≤ B') : InsR w B' v X := ⟨h.row.more hB, fun x hx => (h.each x hx).more hB⟩
theorem OutsR.below {w w' : World} {B : Nat} {v : Value} {Y : List OutV} (h : OutsR w B v Y) (hb : Below B w w') : OutsR w' B v Y := ⟨h.row.below hb, fun x hx => (h.each x hx).below hb⟩
theorem OutsR.more {w : World} {B B' : Nat} {v : Value} {Y : List OutV} (h : OutsR w B v Y) (hB : B ≤ B') : OutsR w B' v Y := ⟨h.row.more hB, fun x hx => (h.each x hx).more hB⟩
theorem InsR.nil (w : World) (B : Nat) : InsR w B (.slice none 0 0) [] := ⟨RowR.nil w B, fun _ h => by cases h⟩
theorem OutsR.nil (w : World) (B : Nat) : OutsR w B (.slice none 0 0) [] := ⟨RowR.nil w B, fun _ h => by cases h⟩
theorem InsR.at {w : World} {B : Nat} {v : Value} {X : List InV} (h : InsR w B v X) {i : Nat} {x : InV} (hi : X[i]? = some x) : ∃ b o c, v = .slice (some ⟨b, o, none⟩) X.length c ∧ X.length ≤ c ∧ c ≤ 9223372036854775807 ∧ b < B ∧ w.rangeAt b (o + i * 36) (inC x) ∧ InIs w B x := by
  obtain ⟨A, c, hv, h1, h2, h3⟩ := h.row
  have hl := (List.getElem?_eq_some_iff.1 hi).1
  obtain ⟨b, o, rfl, hlt, hr⟩ := h3 (by omega)
  refine ⟨b, o, c, hv, h1, h2, hlt, fun j u hu => ?_, h.each x (List.mem_of_getElem? hi)⟩
  rw [Nat.add_assoc]
  exact hr _ u (flat_in inC 36 X (fun e he => inC_length (h.each e he).ok) i x hi j u hu)
theorem OutsR.at {w : World} {B : Nat} {v : Value} {Y : List OutV} (h : OutsR w B v Y) {i : Nat} {y : OutV} (hi : Y[i]? = some y) : ∃ b o c, v = .slice (some ⟨b, o, none⟩) Y.length c ∧ Y.length ≤ c ∧ c ≤ 9223372036854775807 ∧ b < B ∧ w.rangeAt b (o + i * 2) (outC y) ∧ OutIs w B y := by
  obtain ⟨A, c, hv, h1, h2, h3⟩ := h.row
  have hl := (List.getElem?_eq_some_iff.1 hi).1
  obtain ⟨b, o, rfl, hlt, hr⟩ := h3 (by omega)
  refine ⟨b, o, c, hv, h1, h2, hlt, fun j u hu => ?_, h.each y (List.mem_of_getElem? hi)⟩
  rw [Nat.add_assoc]
  exact hr _ u (flat_in outC 2 Y (fun e _ => outC_length e) i y hi j u hu)

/-- A transaction's four cells. -/
def txC (t : TxP) (iv ov : Value) : List Value := [.int .i32 t.ver, iv, ov, .int .u32 t.lock]
structure TxP.ok (t : TxP) : Prop where
  v0 : -2147483648 ≤ t.ver
  v1 : t.ver ≤ 2147483647
  l0 : 0 ≤ t.lock
  l1 : t.lock < 4294967296
/-- A transaction, as it is read. -/
structure TxR (w : World) (B : Nat) (t : TxP) (iv ov : Value) (X : List InV) (Y : List OutV) : Prop where
  ok : t.ok
  ins : InsR w B iv X
  outs : OutsR w B ov Y
  ei : X.map (·.p) = t.ins
  eo : Y.map (·.p) = t.outs
theorem TxR.below {w w' : World} {B : Nat} {t : TxP} {iv ov : Value} {X : List InV} {Y : List OutV} (h : TxR w B t iv ov X Y) (hb : Below B w w') : TxR w' B t iv ov X Y := ⟨h.ok, h.ins.below hb, h.outs.below hb, h.ei, h.eo⟩
theorem TxR.more {w : World} {B B' : Nat} {t : TxP} {iv ov : Value} {X : List InV} {Y : List OutV} (h : TxR w B t iv ov X Y) (hB : B ≤ B') : TxR w B' t iv ov X Y := ⟨h.ok, h.ins.more hB, h.outs.more hB, h.ei, h.eo⟩
theorem TxR.one {w : World} {B : Nat} {t : TxP} {iv ov : Value} {X : List InV} {Y : List OutV} (h : TxR w B t iv ov X Y) : (txC t iv ov).toArray.all (·.oneCell') = true := Array.all_eq_true_iff_forall_mem.2 (fun v hv => by
  have hv' : v ∈ txC t iv ov := by simpa using hv
  unfold txC at hv'
  simp only [List.mem_cons, List.not_mem_nil, or_false] at hv'
  rcases hv' with rfl | rfl | rfl | rfl
  · rfl
  · exact h.ins.row.one
  · exact h.outs.row.one
  · rfl)
theorem TxR.nins {w : World} {B : Nat} {t : TxP} {iv ov : Value} {X : List InV} {Y : List OutV} (h : TxR w B t iv ov X Y) : X.length = t.ins.length := by rw [← h.ei, List.length_map]
theorem TxR.nouts {w : World} {B : Nat} {t : TxP} {iv ov : Value} {X : List InV} {Y : List OutV} (h : TxR w B t iv ov X Y) : Y.length = t.outs.length := by rw [← h.eo, List.length_map]
end Go.Proofs.YthelmclpmalofaaDoor

/-
  Writing with a writer of the call's own, held against the world where the call began. Conditions: sizes within the reach.
-/
namespace Go.Proofs.YthelmclpmalofaaDoor
open Go.RowKit

/-- The writer at block g has written xs; all below B is as it was in w0. -/
structure WrT (w0 w : World) (B g : Nat) (xs : List UInt8) : Prop where
  ex : ∃ v, Wr w g B v xs
  bel : Below B w0 w
  hg : B ≤ g
  hB : B ≤ w0.heap.size
theorem WrT.le {w0 w : World} {B g : Nat} {xs : List UInt8} (h : WrT w0 w B g xs) : B ≤ w.heap.size := Nat.le_trans h.hB h.bel.size
theorem WrT.lt {w0 w : World} {B g : Nat} {xs : List UInt8} (h : WrT w0 w B g xs) : g < w.heap.size := by obtain ⟨v, hw⟩ := h.ex; exact hw.lt
/-- Behind a step. -/
theorem WrT.step {w0 w w' : World} {B g : Nat} {v : Value} {xs zs : List UInt8} (h : WrT w0 w B g xs) (hv : Wr w g B v xs) (hs : WrStep w g B v zs w') : WrT w0 w' B g zs := by
  obtain ⟨v', hw, ht, hb⟩ := hs
  refine ⟨⟨v', hw⟩, h.bel.trans (ht.below_of h.le (fun i hi q => ?_)), h.hg, h.hB⟩
  rcases q with q | q
  · have := h.hg; omega
  · have := (hv.2.lt i q).1; omega
/-- Where only blocks made since have turned, and not the writer's. -/
theorem WrT.alloc {w0 w : World} {B g : Nat} {xs : List UInt8} (h : WrT w0 w B g xs) (o : Obj) : WrT w0 (w.alloc o) B g xs := by
  obtain ⟨v, hv⟩ := h.ex
  exact ⟨⟨v, hv.alloc o⟩, h.bel.alloc h.le o, h.hg, h.hB⟩
theorem WrT.below {w0 w w' : World} {B g : Nat} {xs : List UInt8} (h : WrT w0 w B g xs) (hb : Below w.heap.size w w') : WrT w0 w' B g xs := by
  obtain ⟨v, hv⟩ := h.ex
  refine ⟨⟨v, hv.turns (S := fun _ => False) (Turns.of_below hb) (fun q => q) (fun _ _ q => q)⟩, h.bel.trans (hb.mono h.le), h.hg, h.hB⟩
theorem WrT.drew {w0 w : World} {B g : Nat} {xs : List UInt8} (h : WrT w0 w B g xs) : WrT w0 w.drew B g xs := h.below (Below.refl _ w).drew
/-- Another block is written. -/
theorem WrT.setRow {w0 w : World} {B g k : Nat} {xs : List UInt8} {t : TypeId} {vs : List Value} (h : WrT w0 w B g xs) (hk : VRow w k t vs) (hkB : B ≤ k) (ht : t ≠ 5) (hkg : k ≠ g) (us : List Value) : WrT w0 (w.setRow k us.toArray) B g xs := by
  obtain ⟨v, hv⟩ := h.ex
  have tt : Turns (fun q => q = k) w (w.setRow k us.toArray) := Turns.setRow (S := fun q => q = k) (Turns.refl _ w) (fun _ => rfl) _
  refine ⟨⟨v, hv.turns tt (fun q => hkg q.symm) (fun b hb q => ?_)⟩, below_setRow h.bel hkB _, h.hg, h.hB⟩
  exact own_block_other hv.2 hk (fun e => ht e.symm) (by rw [hb, q])
/-- What has been written, out of the writer. -/
theorem WrT.cell {w0 w : World} {B g : Nat} {xs : List UInt8} (h : WrT w0 w B g xs) : ∃ v, w.cell? ⟨g, 0, none⟩ = some v ∧ OwnB w B v xs := by
  obtain ⟨v, hv⟩ := h.ex
  exact ⟨v, hv.cell, hv.2⟩
/-- Rows of other types than bytes, the writer's own aside, are as they were. -/
def KeepT (g : Nat) (w w' : World) : Prop := ∀ k t vs, t ≠ 5 → k ≠ g → VRow w k t vs → VRow w' k t vs
theorem KeepT.refl (g : Nat) (w : World) : KeepT g w w := fun _ _ _ _ _ h => h
theorem KeepT.trans {g : Nat} {a b c : World} (h : KeepT g a b) (k : KeepT g b c) : KeepT g a c := fun q t vs h1 h2 h3 => k q t vs h1 h2 (h q t vs h1 h2 h3)
theorem KeepT.below {g : Nat} {w w' : World} (h : Below w.heap.size w w') : KeepT g w w' := fun _ _ _ _ _ h3 => h3.below h h3.lt
theorem KeepT.step {g B : Nat} {v : Value} {xs zs : List UInt8} {w w' : World} (hv : Wr w g B v xs) (hs : WrStep w g B v zs w') : KeepT g w w' := by
  obtain ⟨v', _, ht, _⟩ := hs
  intro k t vs h1 h2 h3
  refine h3.turns ht ?_
  rintro (q | q)
  · exact h2 q
  · exact own_block_other hv.2 h3 (fun e => h1 e.symm) q
/-- Behind a call that writes: only below B is told of the others, and rows of other types. -/
def WrD (w0 : World) (B g : Nat) (w : World) (zs : List UInt8) (e : Ending) (w' : World) : Prop := e = .returned (.tuple #[]) ∧ WrT w0 w' B g zs ∧ KeepT g w w'
theorem wrt_of {w0 w : World} {B g : Nat} {f : FuncId} {args : Array Value} {xs zs : List UInt8} (h : WrT w0 w B g xs) (hc : ∀ v, Wr w g B v xs → Calls Tryd.prog f args w (WrPost w g B v zs)) : Calls Tryd.prog f args w (WrD w0 B g w zs) := by
  obtain ⟨v, hv⟩ := h.ex
  refine (hc v hv).mono ?_
  rintro e w' ⟨rfl, hs⟩
  exact ⟨rfl, h.step hv hs, KeepT.step hv hs⟩
theorem u32_t {w0 : World} {B g : Nat} (n : Int) (xs : List UInt8) (w : World) (h : WrT w0 w B g xs) (h0 : 0 ≤ n) (h1 : n < 4294967296) (hl : xs.length ≤ 46000) :
    Calls Tryd.prog 33 #[.pointer (some ⟨g, 0, none⟩), .int .u32 n] w (WrD w0 B g w (xs ++ low n 4)) :=
  wrt_of h fun v hv => u32_any g B v n xs w h0 h1 hv (by omega) h.le
theorem u64_t {w0 : World} {B g : Nat} (n : Int) (xs : List UInt8) (w : World) (h : WrT w0 w B g xs) (h0 : 0 ≤ n) (h1 : n < 18446744073709551616) (hl : xs.length ≤ 46000) :
    Calls Tryd.prog 45 #[.pointer (some ⟨g, 0, none⟩), .int .u64 n] w (WrD w0 B g w (xs ++ low n 8)) :=
  wrt_of h fun v hv => u64_any g B v n xs w h0 h1 hv (by omega) h.le
theorem size_t {w0 : World} {B g : Nat} (n : Int) (xs : List UInt8) (w : World) (h : WrT w0 w B g xs) (h0 : 0 ≤ n) (h1 : n < 18446744073709551616) (hl : xs.length ≤ 46000) :
    Calls Tryd.prog 56 #[.pointer (some ⟨g, 0, none⟩), .int .u64 n] w (WrD w0 B g w (xs ++ sizeB n)) :=
  wrt_of h fun v hv => size_any g B v n xs w h0 h1 hv (by omega) h.le
theorem raw_t {w0 : World} {B B' g : Nat} (x : Value) (ys xs : List UInt8) (w : World) (h : WrT w0 w B g xs) (hx : Byt w B' x ys) (hl : xs.length + ys.length ≤ 60000) :
    Calls Tryd.prog 31 #[.pointer (some ⟨g, 0, none⟩), x] w (WrD w0 B g w (xs ++ ys)) :=
  wrt_of h fun v hv => raw_any g B B' v x xs ys w hv hx hl h.le
theorem bytes_t {w0 : World} {B g : Nat} (x : Value) (ys xs : List UInt8) (w : World) (h : WrT w0 w B g xs) (hx : Byt w0 B x ys) (hl : xs.length ≤ 46000) (hy : ys.length ≤ 1000) :
    Calls Tryd.prog 44 #[.pointer (some ⟨g, 0, none⟩), x] w (WrD w0 B g w (xs ++ (sizeB ys.length ++ ys))) :=
  wrt_of h fun v hv => bytes_any g B B v x xs ys w hv (hx.below h.bel) (by omega) hy h.le h.le h.hg (fun k hk => (hv.2.lt k hk).1)
end Go.Proofs.YthelmclpmalofaaDoor
