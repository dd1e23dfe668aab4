/-
  Texts joined: Base, Wire, Row. Conditions: those of each.
-/
import Derived.Test.YthelmclpmalofaaDoorProg
import Derived.WalkKit
import Derived.WalkSpells
import Derived.WalkLawsBesides
import Derived.Maps.AppendAt
import Derived.Deep.Draws
import Derived.KernelRfl
import Derived.Lib.Hide
import Derived.Deep.DeepCutAuto
/-
  Bytes in memory: what it means that a slice value reads as a list of bytes, what a call leaves as it was, and an append onto a row of the call's own. Conditions: none (plain lemmas, over any program).
-/
namespace Go.Proofs.YthelmclpmalofaaDoor
open Go.RowKit

/-- One byte, as a value. -/
def bv (c : UInt8) : Value := .int .u8 (c.toNat : Int)

theorem bv_inj {a b : UInt8} (h : bv a = bv b) : a = b := by
  unfold bv at h
  injection h with _ h
  exact UInt8.toNat_inj.1 (by omega)

theorem bv_one (c : UInt8) : (bv c).oneCell' = true := rfl

/-- From a to w only blocks of S, and new ones, have turned. -/
structure Turns (S : Nat → Prop) (a w : World) : Prop where
  os : w.os = a.os
  tape : w.tape = a.tape
  output : w.output = a.output
  size : a.heap.size ≤ w.heap.size
  block : ∀ k, k < a.heap.size → ¬ S k → w.heap[k]? = a.heap[k]?

section
variable {S S' : Nat → Prop} {a b c w : World}
theorem Turns.refl (S : Nat → Prop) (a : World) : Turns S a a := ⟨rfl, rfl, rfl, Nat.le_refl _, fun _ _ _ => rfl⟩
theorem Turns.trans (h : Turns S a b) (k : Turns S' b c) (hs : ∀ i, i < a.heap.size → S' i → S i) : Turns S a c :=
  ⟨k.os.trans h.os, k.tape.trans h.tape, k.output.trans h.output, Nat.le_trans h.size k.size,
    fun i hi hn => (k.block i (Nat.lt_of_lt_of_le hi h.size) (fun e => hn (hs i hi e))).trans (h.block i hi hn)⟩
theorem Turns.mono (h : Turns S a b) (hs : ∀ i, i < a.heap.size → S i → S' i) : Turns S' a b := ⟨h.os, h.tape, h.output, h.size, fun i hi hn => h.block i hi (fun e => hn (hs i hi e))⟩
theorem Turns.alloc (h : Turns S a b) (o : Obj) : Turns S a (b.alloc o) :=
  h.trans (S' := fun _ => False) ⟨rfl, rfl, rfl, by simp, fun k hk _ => Below.heap_alloc _ _ _ hk⟩ (fun _ _ h => h.elim)
theorem Turns.drew (h : Turns S a b) : Turns S a b.drew := ⟨h.os, h.tape, h.output, h.size, h.block⟩
theorem Turns.drewN (h : Turns S a b) (n : Nat) : Turns S a (b.drewN n) := ⟨h.os, h.tape, h.output, h.size, h.block⟩
theorem Turns.setCell (h : Turns S a b) {p : Addr} (hp : p.block < a.heap.size → S p.block) (u : Value) : Turns S a (b.setCell p u) :=
  ⟨h.os, h.tape, h.output, by simpa [World.setCell] using h.size, fun k hk hn => (Below.heap_setCell _ _ _ _ (by rintro rfl; exact hn (hp hk))).trans (h.block k hk hn)⟩
theorem Turns.grown (h : Turns S a b) {row : Option Nat} (hg : b.grownBy c row) (hr : ∀ k, row = some k → k < a.heap.size → S k) : Turns S a c :=
  ⟨hg.os.trans h.os, hg.tape.trans h.tape, hg.output.trans h.output, Nat.le_trans h.size hg.size,
    fun k hk hn => (hg.block k (Nat.lt_of_lt_of_le hk h.size) (fun e => hn (hr k e.symm hk))).trans (h.block k hk hn)⟩
theorem Turns.cell (h : Turns S a w) {p : Addr} (hp : p.block < a.heap.size) (hn : ¬ S p.block) : w.cell? p = a.cell? p := World.cell?_of_block (w := a) (h.block p.block hp hn)
theorem Turns.frozen (h : Turns S a w) {p : Addr} (hp : p.block < a.heap.size) (hn : ¬ S p.block) : w.frozen? p = a.frozen? p := World.frozen?_of_block (w := a) (h.block p.block hp hn)
theorem Turns.below (h : Turns S a w) (hs : ∀ i, i < a.heap.size → ¬ S i) : Below a.heap.size a w := ⟨h.os, h.tape, h.output, h.size, fun k hk => h.block k hk (hs k hk)⟩
theorem Turns.of_below (h : Below a.heap.size a w) : Turns S a w := ⟨h.os, h.tape, h.output, h.size, fun k hk _ => h.block k hk⟩
theorem Turns.below_of {B : Nat} (h : Turns S a w) (hB : B ≤ a.heap.size) (hs : ∀ i, i < B → ¬ S i) : Below B a w := ⟨h.os, h.tape, h.output, h.size, fun k hk => h.block k (by omega) (hs k hk)⟩
end

/-- The slice value v holds the bytes xs, in a block below B (or is empty). -/
def Byt (w : World) (B : Nat) (v : Value) (xs : List UInt8) : Prop :=
  ∃ A c, v = .slice A xs.length c ∧ xs.length ≤ c ∧ c ≤ maxLen ∧ (A = none → xs = [] ∧ c = 0) ∧
    (xs ≠ [] → ∃ b o, A = some ⟨b, o, none⟩ ∧ b < B ∧ ∀ j u, xs[j]? = some u → w.cell? ⟨b, o + j, none⟩ = some (bv u))

section
variable {w w' : World} {B B' : Nat} {v : Value} {xs : List UInt8}
theorem Byt.keep (h : Byt w B v xs) (hk : ∀ b o, b < B → w'.cell? ⟨b, o, none⟩ = w.cell? ⟨b, o, none⟩) : Byt w' B v xs := by
  obtain ⟨A, c, hv, hl, hm, hA, hx⟩ := h
  refine ⟨A, c, hv, hl, hm, hA, fun hne => ?_⟩
  obtain ⟨b, o, e, hb, hc⟩ := hx hne
  exact ⟨b, o, e, hb, fun j u hu => (hk _ _ hb).trans (hc j u hu)⟩
theorem Byt.more (h : Byt w B v xs) (hB : B ≤ B') : Byt w B' v xs := by
  obtain ⟨A, c, hv, hl, hm, hA, hx⟩ := h
  refine ⟨A, c, hv, hl, hm, hA, fun hne => ?_⟩
  obtain ⟨b, o, e, hb, hc⟩ := hx hne
  exact ⟨b, o, e, by omega, hc⟩
theorem Byt.below (h : Byt w B v xs) (hb : Below B w w') : Byt w' B v xs := h.keep fun _ _ hp => hb.cell (p := ⟨_, _, none⟩) hp
theorem Byt.len (h : Byt w B v xs) : xs.length ≤ maxLen := by
  obtain ⟨A, c, hv, hl, hm, _⟩ := h
  omega
theorem Byt.nil (w : World) (B : Nat) : Byt w B (.slice none 0 0) [] := ⟨none, 0, rfl, Nat.le_refl _, by unfold maxLen; omega, fun _ => ⟨rfl, rfl⟩, fun h => absurd rfl h⟩
theorem Byt.of_own {base : Nat} {e : TypeId} (h : w.ownsRow base e 1 v xs.length (xs.map bv)) : Byt w w.heap.size v xs := by
  rcases h.2 with ⟨rfl, hn⟩ | ⟨g, cap, cur, rfl, _, hg, hnc, hcm, _, _⟩
  · obtain rfl : xs = [] := List.eq_nil_of_length_eq_zero hn
    exact Byt.nil _ _
  · refine ⟨some ⟨g, 0, none⟩, cap, rfl, hnc, hcm, (by intro h; cases h), fun hne => ⟨g, 0, rfl, (h.lt g rfl).2, fun j u hu => ?_⟩⟩
    have hc := h.cells (g := g) rfl j (bv u) (by rw [List.getElem?_map, hu]; rfl)
    have hadd : (⟨g, 0, none⟩ : Addr).add j = ⟨g, 0 + j, none⟩ := by unfold Addr.add; split <;> simp_all
    rw [← hadd]; exact hc
end

/-- `ownsRow` over bytes; the row is of one-cell elements. -/
theorem map_bv_length (xs : List UInt8) : (xs.map bv).length = xs.length := by simp

theorem own_block_other {w : World} {base g : Nat} {e t : TypeId} {v : Value} {n : Nat} {xs : List Value} {cs : Array Value} {m : Nat × Nat}
    (h : w.ownsRow base e 1 v n xs) (hg : w.heap[g]? = some (.cells cs t m)) (hne : e ≠ t) : v.ownBlock ≠ some g := by
  rcases h.2 with ⟨rfl, _⟩ | ⟨g', cap, cur, rfl, _, hh, _⟩
  · simp [Value.ownBlock]
  · intro he
    have e1 : g' = g := by simpa [Value.ownBlock] using he
    subst e1
    rw [hh] at hg
    injection hg with hg
    injection hg with _ ht
    exact hne ht

theorem own_turns {S : Nat → Prop} {w w' : World} {base : Nat} {e : TypeId} {size n : Nat} {v : Value} {xs : List Value}
    (h : w.ownsRow base e size v n xs) (ht : Turns S w w') (hS : ∀ k, v.ownBlock = some k → ¬ S k) : w'.ownsRow base e size v n xs := by
  refine ⟨h.1, ?_⟩
  rcases h.2 with hn | ⟨g, cap, cur, rfl, hb, hgg, rest⟩
  · exact .inl hn
  · refine .inr ⟨g, cap, cur, rfl, hb, ?_, rest⟩
    rw [ht.block g (Array.getElem?_eq_some_iff.1 hgg).1 (hS g rfl)]
    exact hgg

/-- append of bytes onto a row of the call's own: the source reads as bytes (it may be nil or empty). -/
theorem run_append_bytes {P : Program} (w : World) (base : Nat) (t ty e : TypeId) (i : TypeInfo) (ht : P.underlying t = some (.slice e)) (hi : P.info? e = some i)
    (hz : i.zero = some (.int .u8 0)) (hsize : i.size = 1) (hby : i.bytes = 1) (v : Value) (n : Nat) (xs : List Value) (hown : w.ownsRow base e 1 v n xs)
    (B : Nat) (x : Value) (ys : List UInt8) (hr : Byt w B x ys) (hb : n + ys.length ≤ 140737488355328) (hbase : base ≤ w.heap.size) :
    ∃ v' w', (Builtin.append_ #[t, t] ty #[v, x]).run P w = .ok v' w' ∧ w'.ownsRow base e 1 v' (n + ys.length) (xs ++ ys.map bv) ∧ w.grownBy w' v.ownBlock ∧
      (v'.ownBlock = v.ownBlock ∨ v'.ownBlock = some w.heap.size) := by
  obtain ⟨A, c, rfl, hl, hm, hA, hx⟩ := hr
  rcases A with _ | ad
  · obtain ⟨rfl, rfl⟩ := hA rfl
    refine ⟨v, w, ?_, by simpa using hown, ⟨rfl, rfl, rfl, Nat.le_refl _, fun _ _ _ => rfl⟩, .inl rfl⟩
    rcases hown.2 with ⟨rfl, rfl⟩ | ⟨g, cap, cur, rfl, _, _, hnc, _⟩
    · simp [Builtin.append_, run_underlying ht, sizeOf, typeInfo, hi, Builtin.lenOf, Builtin.firstCells]
    · simp [Builtin.append_, run_underlying ht, sizeOf, typeInfo, hi, Builtin.lenOf, Builtin.firstCells, hnc, storeCells]
  · have hcells : ∀ j u, (ys.map bv)[j]? = some u → w.cell? (ad.add j) = some u := by
      intro j u hu
      rw [List.getElem?_map] at hu
      cases hy : ys[j]? with
      | none => rw [hy] at hu; cases hu
      | some q =>
        rw [hy] at hu
        injection hu with hu
        subst hu
        have hne : ys ≠ [] := by rintro rfl; simp at hy
        obtain ⟨b, o, hAe, _, hc⟩ := hx hne
        injection hAe with hAe
        subst hAe
        have hadd : (⟨b, o, none⟩ : Addr).add j = ⟨b, o + j, none⟩ := by unfold Addr.add; split <;> simp_all
        rw [hadd]; exact hc j q hy
    obtain ⟨v', w', hrun, h2, h3, _, h5⟩ := run_append_own_at (P := P) w base t ty e i (.int .u8 0) 1 1 ht hi hz hsize hby rfl (by decide) v n xs hown ad ys.length c (ys.map bv)
      (by simp) hcells (by intro u hu; obtain ⟨q, _, rfl⟩ := List.mem_map.1 hu; rfl) (by unfold maxLen; omega) (by omega) hbase
    exact ⟨v', w', hrun, h2, h3, h5⟩

/-- At the operation. -/
theorem wpList_append_bytes {P : Program} {w : World} {ops : Array Oper} {rest : List Oper} {o : Oper} {a : Act} {Q : Exit → Act → World → Prop} (hgd : o.guard = none) (s x : Operand) (t : TypeId)
    (ho : o.op = .call { callee := .builtin .append, args := #[s, x], argTypes := #[t, t] })
    (base : Nat) (e : TypeId) (i : TypeInfo) (ht : P.underlying t = some (.slice e)) (hi : P.info? e = some i)
    (hz : i.zero = some (.int .u8 0)) (hsize : i.size = 1) (hby : i.bytes = 1)
    (v : Value) (n : Nat) (xs : List Value) (hs : a.eval s = v) (hown : w.ownsRow base e 1 v n xs)
    (B : Nat) (u : Value) (ys : List UInt8) (hx : a.eval x = u) (hr : Byt w B u ys) (hb : n + ys.length ≤ 140737488355328) (hbase : base ≤ w.heap.size)
    (h : ∀ v' w', w'.ownsRow base e 1 v' (n + ys.length) (xs ++ ys.map bv) → w.grownBy w' v.ownBlock → (v'.ownBlock = v.ownBlock ∨ v'.ownBlock = some w.heap.size) → wpList P ops Q rest (a.put o.dst v') w') :
    wpList P ops Q (o :: rest) a w := by
  refine wpList_plain hgd fun K hK => ?_
  obtain ⟨v', w', hrun, h2, h3, h4⟩ := run_append_bytes (P := P) w base t o.type e i ht hi hz hsize hby v n xs hown B u ys hr hb hbase
  unfold Oper.wp execOp
  simp only [ho, resolve, invoke, builtin, Sem.run_bind, Sem.run_pure, Result.andThen_ok, List.map_toArray, List.map_cons, List.map_nil, hs, hx, hrun]
  exact hK _ _ (h v' w' h2 h3 h4)

/-! Numbers as bytes -/
/-- The lowest byte of a number. -/
def b8 (n : Int) : UInt8 := UInt8.ofNat (n % 256).toNat
theorem b8_toNat (n : Int) : ((b8 n).toNat : Int) = n % 256 := by
  unfold b8
  rw [UInt8.toNat_ofNat']
  omega
theorem bv_b8 (n : Int) : bv (b8 n) = .int .u8 (n % 256) := by unfold bv; rw [b8_toNat]
theorem bv_b8_of {n : Int} (h0 : 0 ≤ n) (h1 : n < 256) : bv (b8 n) = .int .u8 n := by rw [bv_b8, Int.emod_eq_of_lt h0 h1]
/-- The lowest k bytes, the lowest first. -/
def low (n : Int) : Nat → List UInt8
  | 0 => []
  | k + 1 => b8 n :: low (n / 256) k
theorem low_length (n : Int) (k : Nat) : (low n k).length = k := by
  induction k generalizing n with
  | zero => rfl
  | succ k ih => simp [low, ih]

/-- A block that has just been made, of just these bytes. -/
theorem Byt.made (w : World) (e : TypeId) (l : List Value) (ys : List UInt8) (h : l = ys.map bv) (hl : ys.length ≤ maxLen) :
    Byt (w.alloc (.cells l.toArray e)) (w.heap.size + 1) (.slice (some ⟨w.heap.size, 0, none⟩) ys.length ys.length) ys := by
  refine ⟨_, _, rfl, Nat.le_refl _, hl, (by intro h; cases h), fun _ => ⟨_, _, rfl, by omega, fun j u hu => ?_⟩⟩
  rw [Nat.zero_add]
  show (w.alloc (.cells l.toArray e)).cell? ⟨w.heap.size, j, none⟩ = _
  rw [cell_of_row _ w.heap.size j _ _ _ (heap_alloc_new w _), h]
  simp [hu]

/-- A slice of bytes as a string. -/
theorem run_string_of {P : Program} (w : World) (src dst e : TypeId) (hs : P.underlying src = some (.slice e)) (he : P.underlying e = some (.int .u8)) (hd : P.underlying dst = some .string)
    (B : Nat) (v : Value) (xs : List UInt8) (h : Byt w B v xs) : (convert src dst v).run P w = .ok (.string ⟨xs.toArray⟩) w := by
  obtain ⟨A, c, rfl, hl, hm, hA, hx⟩ := h
  rcases A with _ | ad
  · obtain ⟨rfl, rfl⟩ := hA rfl
    rw [run_convert_bytes_string w src dst e none _ _ hs he hd]
    simp [Conv.bytesToString, Sem.run_pure]
    rfl
  · refine run_convert_bytes_back w src dst e ad c xs hs he hd fun j hj => ?_
    have hne : xs ≠ [] := by rintro rfl; simp at hj
    obtain ⟨b, o, hAe, _, hc⟩ := hx hne
    injection hAe with hAe
    subst hAe
    have hadd : (⟨b, o, none⟩ : Addr).add j = ⟨b, o + j, none⟩ := by unfold Addr.add; split <;> simp_all
    rw [hadd]
    exact hc j _ (List.getElem?_eq_getElem hj)

theorem own_form {w : World} {base : Nat} {e : TypeId} {size n : Nat} {v : Value} {xs : List Value} (h : w.ownsRow base e size v n xs) : ∃ A c, v = .slice A n c := by
  rcases h.2 with ⟨rfl, rfl⟩ | ⟨g, cap, cur, rfl, _⟩
  · exact ⟨_, _, rfl⟩
  · exact ⟨_, _, rfl⟩

end Go.Proofs.YthelmclpmalofaaDoor

/-
  What the writer's functions do, said of bytes in memory. Conditions: sizes within the reach.
-/
namespace Go.Proofs.YthelmclpmalofaaDoor
open Go.RowKit

/-- The row of the table for a byte. -/
theorem info_u8 : (Tryd.prog.info? 5).map (fun i => (i.zero, i.size, i.bytes)) = some (some (.int .u8 0), 1, 1) := by kernel_rfl
theorem slice_u8 : Tryd.prog.underlying 27 = some (.slice 5) := Tryd.underlying27

/-- A writer at block g: it has written xs, in a row of its own from base on. -/
def Wr (w : World) (g base : Nat) (v : Value) (xs : List UInt8) : Prop :=
  w.heap[g]? = some (.cells #[v] 81 (0, 0)) ∧ w.ownsRow base 5 1 v xs.length (xs.map bv)

theorem Wr.cell {w : World} {g base : Nat} {v : Value} {xs : List UInt8} (h : Wr w g base v xs) : w.cell? ⟨g, 0, none⟩ = some v := cell_of_row w g 0 _ _ _ h.1
theorem Wr.free {w : World} {g base : Nat} {v : Value} {xs : List UInt8} (h : Wr w g base v xs) : w.frozen? ⟨g, 0, none⟩ = false := by
  have h1 := h.1
  simp [World.frozen?, h1]
theorem Wr.lt {w : World} {g base : Nat} {v : Value} {xs : List UInt8} (h : Wr w g base v xs) : g < w.heap.size := (Array.getElem?_eq_some_iff.1 h.1).1
theorem Wr.other {w : World} {g base : Nat} {v : Value} {xs : List UInt8} (h : Wr w g base v xs) : v.ownBlock ≠ some g := own_block_other h.2 h.1 (by decide)
theorem Wr.turns {S : Nat → Prop} {w w' : World} {g base : Nat} {v : Value} {xs : List UInt8} (h : Wr w g base v xs) (ht : Turns S w w') (hg : ¬ S g) (hS : ∀ k, v.ownBlock = some k → ¬ S k) : Wr w' g base v xs :=
  ⟨(ht.block g h.lt hg).trans h.1, own_turns h.2 ht hS⟩

/-- One step of a writer: it has written zs in all behind it; only its own blocks have turned. -/
def WrStep (w : World) (g base : Nat) (v : Value) (zs : List UInt8) (w' : World) : Prop :=
  ∃ v', Wr w' g base v' zs ∧ Turns (fun k => k = g ∨ v.ownBlock = some k) w w' ∧ (v'.ownBlock = v.ownBlock ∨ ∃ k, v'.ownBlock = some k ∧ w.heap.size ≤ k)
def WrPost (w : World) (g base : Nat) (v : Value) (zs : List UInt8) (e : Ending) (w' : World) : Prop := e = .returned (.tuple #[]) ∧ WrStep w g base v zs w'

theorem WrStep.pre {w w1 w2 : World} {g base : Nat} {v : Value} {zs : List UInt8} (ht : Turns (fun _ => False) w w1) (h : WrStep w1 g base v zs w2) : WrStep w g base v zs w2 := by
  obtain ⟨v', h1, h2, h3⟩ := h
  refine ⟨v', h1, ?_, ?_⟩
  · refine (ht.mono (fun _ _ h => h.elim)).trans h2 (fun _ _ h => h)
  · rcases h3 with h3 | ⟨k, hk, hs⟩
    · exact .inl h3
    · exact .inr ⟨k, hk, Nat.le_trans ht.size hs⟩

theorem WrStep.next {w w1 w2 : World} {g base : Nat} {v v1 : Value} {zs : List UInt8} (ht : Turns (fun k => k = g ∨ v.ownBlock = some k) w w1) (hv : v1.ownBlock = v.ownBlock ∨ ∃ k, v1.ownBlock = some k ∧ w.heap.size ≤ k)
    (h : WrStep w1 g base v1 zs w2) : WrStep w g base v zs w2 := by
  obtain ⟨v', h1, h2, h3⟩ := h
  refine ⟨v', h1, ht.trans h2 (fun i hi hs => ?_), ?_⟩
  · rcases hs with hs | hs
    · exact .inl hs
    · rcases hv with hv | ⟨k, hk, hle⟩
      · exact .inr (hv ▸ hs)
      · rw [hk] at hs
        injection hs with hs
        omega
  · rcases h3 with h3 | ⟨k, hk, hs⟩
    · rw [h3]
      exact hv
    · exact .inr ⟨k, hk, Nat.le_trans ht.size hs⟩

/-- How many bytes a compact size takes. -/
def sizeLen (n : Int) : Int := if n < 253 then 1 else if n < 65536 then 3 else if n < 4294967296 then 5 else 9

set_option maxRecDepth 100000 in
set_option maxHeartbeats 400000 in
theorem length_any (n : Int) (w : World) :
    Calls Tryd.prog 72 #[.int .u64 n] w fun e w' => e = .returned (.int .i64 (sizeLen n)) ∧ w = w' := by
  have key : ∀ m : Int, m = sizeLen n → Ending.returned (.int .i64 m) = .returned (.int .i64 (sizeLen n)) := fun m h => by rw [h]
  go_enter Tryd.func72, Tryd.ntmps72
  go_wp2
  · go_ret
    exact ⟨key _ (by unfold sizeLen; rw [if_pos ‹_›]), rfl⟩
  · go_ret
    exact ⟨key _ (by unfold sizeLen; rw [if_neg (by omega), if_pos ‹_›]), rfl⟩
  · go_ret
    exact ⟨key _ (by unfold sizeLen; rw [if_neg (by omega), if_neg (by omega), if_pos ‹_›]), rfl⟩
  · go_ret
    exact ⟨key _ (by unfold sizeLen; rw [if_neg (by omega), if_neg (by omega), if_neg (by omega)]), rfl⟩


theorem raw_close {w w1 : World} {g base : Nat} {v v1 : Value} {xs ys : List UInt8} (hw : Wr w g base v xs)
    (hown1 : w1.ownsRow base 5 1 v1 (xs.length + ys.length) (xs.map bv ++ ys.map bv)) (hg1 : w.grownBy w1 v.ownBlock) (hat1 : v1.ownBlock = v.ownBlock ∨ v1.ownBlock = some w.heap.size) :
    WrStep w g base v (xs ++ ys) (w1.setCell ⟨g, 0, none⟩ v1) := by
  have hh : w1.heap[g]? = some (.cells #[v] 81 (0, 0)) := (hg1.block g hw.lt (fun e => hw.other e.symm)).trans hw.1
  have hne : v1.ownBlock ≠ some g := own_block_other hown1 hh (by decide)
  refine ⟨v1, ⟨?_, ?_⟩, ?_, ?_⟩
  · simp [World.setCell, Array.getElem?_modify, hh]
  · have := own_turns hown1 ((Turns.refl (fun k => k = g) w1).setCell (p := ⟨g, 0, none⟩) (fun _ => rfl) v1) (fun k hk e => hne (e ▸ hk))
    simpa using this
  · exact ((Turns.refl (fun k => k = g ∨ v.ownBlock = some k) w).grown hg1 (fun k hk _ => .inr hk)).setCell (p := ⟨g, 0, none⟩) (fun _ => .inl rfl) v1
  · rcases hat1 with h | h
    · exact .inl h
    · exact .inr ⟨_, h, Nat.le_refl _⟩

set_option maxRecDepth 100000 in
set_option maxHeartbeats 400000 in
theorem raw_any (g base B : Nat) (v x : Value) (xs ys : List UInt8) (w : World) (hw : Wr w g base v xs) (hr : Byt w B x ys) (hlen : xs.length + ys.length ≤ 60000) (hbase : base ≤ w.heap.size) :
    Calls Tryd.prog 31 #[.pointer (some ⟨g, 0, none⟩), x] w (WrPost w g base v (xs ++ ys)) := by
  obtain ⟨i0, hi, hz0, hz1, hz2⟩ := info_parts info_u8
  have hc := hw.cell
  have hoth := Lib.hid hw.other
  go_enter Tryd.func31, Tryd.ntmps31
  go_wp2_with (at_builtin; refine wpList_append_bytes rfl (.tmp 8) (.tmp 9) 27 rfl base 5 i0 slice_u8 hi hz0 hz1 hz2 v xs.length (xs.map bv) rfl hw.2 B x ys rfl hr (by omega) hbase ?_; intro v1 w1 hown1 hg1 hat1; obtain ⟨A1, c1, rfl⟩ := own_form hown1; have hg2 := hg1.block g hw.lt (fun e => hoth.out e.symm); have hc1 : w1.cell? ⟨g, 0, none⟩ = some v := (World.cell?_of_block (w := w) hg2).trans hc; have hf1 : w1.frozen? ⟨g, 0, none⟩ = false := (World.frozen?_of_block (w := w) hg2).trans hw.free)
  go_end0
  exact ⟨rfl, raw_close hw hown1 hg1 hat1⟩

theorem Wr.alloc {w : World} {g base : Nat} {v : Value} {xs : List UInt8} (h : Wr w g base v xs) (o : Obj) : Wr (w.alloc o) g base v xs :=
  h.turns ((Turns.refl (fun _ => False) w).alloc o) (fun h => h) (fun _ _ h => h)

/-- Raw of bytes that have just been laid. -/
theorem raw_lit (g base : Nat) (v : Value) (xs ys : List UInt8) (l : List Value) (w : World) (hw : Wr w g base v xs) (hl : l = ys.map bv) (hlen : xs.length + ys.length ≤ 60000) (hbase : base ≤ w.heap.size) :
    Calls Tryd.prog 31 #[.pointer (some ⟨g, 0, none⟩), .slice (some ⟨w.heap.size, 0, none⟩) ys.length ys.length] (w.alloc (.cells l.toArray 5)) (WrPost w g base v (xs ++ ys)) :=
  (raw_any g base (w.heap.size + 1) v _ xs ys _ (hw.alloc _) (Byt.made w _ l ys hl (by unfold maxLen; omega)) hlen (by simp; omega)).mono
    fun _ _ ⟨he, hs⟩ => ⟨he, WrStep.pre ((Turns.refl _ _).alloc _) hs⟩

set_option maxRecDepth 100000 in
set_option maxHeartbeats 400000 in
theorem u8_any (g base : Nat) (v : Value) (n : Int) (xs : List UInt8) (w : World) (h0 : 0 ≤ n) (h1 : n < 256) (hw : Wr w g base v xs) (hlen : xs.length ≤ 50000) (hbase : base ≤ w.heap.size) :
    Calls Tryd.prog 73 #[.pointer (some ⟨g, 0, none⟩), .int .u8 n] w (WrPost w g base v (xs ++ [b8 n])) := by
  have hl : [Value.int .u8 n] = [b8 n].map bv := by simp [bv_b8_of h0 h1]
  have HL := Lib.hid hl; clear hl
  go_enter Tryd.func73, Tryd.ntmps73
  go_wp2_with fail
  refine (raw_lit g base v xs [b8 n] _ w hw HL.out (by simp; omega) hbase).mono ?_
  rintro e w' ⟨rfl, hs⟩
  go_wp2
  go_end0
  exact ⟨rfl, hs⟩

set_option maxRecDepth 100000 in
set_option maxHeartbeats 400000 in
theorem u16_any (g base : Nat) (v : Value) (n : Int) (xs : List UInt8) (w : World) (h0 : 0 ≤ n) (h1 : n < 65536) (hw : Wr w g base v xs) (hlen : xs.length ≤ 50000) (hbase : base ≤ w.heap.size) :
    Calls Tryd.prog 74 #[.pointer (some ⟨g, 0, none⟩), .int .u16 n] w (WrPost w g base v (xs ++ low n 2)) := by
  have hl : [Value.int .u8 (n % 256), Value.int .u8 (n / 256)] = (low n 2).map bv := by simp [low, bv_b8]; omega
  have HL := Lib.hid hl; clear hl
  go_enter Tryd.func74, Tryd.ntmps74
  go_wp2_with fail
  refine (raw_lit g base v xs (low n 2) _ w hw HL.out (by simp [low_length]; omega) hbase).mono ?_
  rintro e w' ⟨rfl, hs⟩
  go_wp2
  go_end0
  exact ⟨rfl, hs⟩

set_option maxRecDepth 100000 in
set_option maxHeartbeats 400000 in
theorem u32_any (g base : Nat) (v : Value) (n : Int) (xs : List UInt8) (w : World) (h0 : 0 ≤ n) (h1 : n < 4294967296) (hw : Wr w g base v xs) (hlen : xs.length ≤ 50000) (hbase : base ≤ w.heap.size) :
    Calls Tryd.prog 33 #[.pointer (some ⟨g, 0, none⟩), .int .u32 n] w (WrPost w g base v (xs ++ low n 4)) := by
  have hl : [Value.int .u8 (n % 256), Value.int .u8 (n / 256 % 256), Value.int .u8 (n / 65536 % 256), Value.int .u8 (n / 16777216)] = (low n 4).map bv := by simp [low, bv_b8]; omega
  have HL := Lib.hid hl; clear hl
  go_enter Tryd.func33, Tryd.ntmps33
  go_wp2_with fail
  refine (raw_lit g base v xs (low n 4) _ w hw HL.out (by simp [low_length]; omega) hbase).mono ?_
  rintro e w' ⟨rfl, hs⟩
  go_wp2
  go_end0
  exact ⟨rfl, hs⟩


theorem b8_congr {a b : Int} (h : a % 256 = b % 256) : b8 a = b8 b := by unfold b8; rw [h]
theorem cons_congr {a b : UInt8} {l m : List UInt8} (h : a = b) (k : l = m) : a :: l = b :: m := by rw [h, k]
theorem low_eight (n : Int) : low n 8 = low (n % 4294967296) 4 ++ low (n / 4294967296) 4 := by
  simp only [low, List.cons_append, List.nil_append]
  refine cons_congr (b8_congr (by omega)) (cons_congr (b8_congr (by omega)) (cons_congr (b8_congr (by omega)) (cons_congr (b8_congr (by omega)) (cons_congr (b8_congr (by omega)) (cons_congr (b8_congr (by omega)) (cons_congr (b8_congr (by omega)) (cons_congr (b8_congr (by omega)) rfl)))))))

set_option maxRecDepth 100000 in
set_option maxHeartbeats 400000 in
theorem u64_any (g base : Nat) (v : Value) (n : Int) (xs : List UInt8) (w : World) (h0 : 0 ≤ n) (h1 : n < 18446744073709551616) (hw : Wr w g base v xs) (hlen : xs.length ≤ 49000) (hbase : base ≤ w.heap.size) :
    Calls Tryd.prog 45 #[.pointer (some ⟨g, 0, none⟩), .int .u64 n] w (WrPost w g base v (xs ++ low n 8)) := by
  have hl := low_eight n
  have HL := Lib.hid hl; clear hl
  go_enter Tryd.func45, Tryd.ntmps45
  go_wp2_with fail
  refine (u32_any g base v _ xs w (by omega) (by omega) hw (by omega) hbase).mono ?_
  rintro e w1 ⟨rfl, v1, hw1, ht1, hb1⟩
  go_wp2_with fail
  refine (u32_any g base v1 _ _ w1 (by omega) (by omega) hw1 (by simp [low_length]; omega) (Nat.le_trans hbase ht1.size)).mono ?_
  rintro e w2 ⟨rfl, hs⟩
  go_wp2
  go_end0
  refine ⟨rfl, WrStep.next ht1 hb1 ?_⟩
  rw [HL.out, ← List.append_assoc]
  exact hs

/-- A compact size's bytes. -/
def sizeB (n : Int) : List UInt8 :=
  if n < 253 then [b8 n] else if n < 65536 then b8 253 :: low n 2 else if n < 4294967296 then b8 254 :: low n 4 else b8 255 :: low n 8
theorem sizeB_length (n : Int) : ((sizeB n).length : Int) = sizeLen n := by
  unfold sizeB sizeLen
  split
  · rfl
  split
  · simp [low_length]
  split <;> simp [low_length]
theorem sizeB_le (n : Int) : (sizeB n).length ≤ 9 := by
  unfold sizeB
  split
  · simp
  split
  · simp [low_length]
  split <;> simp [low_length]

theorem length_eq (n k : Int) (h : sizeLen n = k) (w : World) :
    Calls Tryd.prog 72 #[.int .u64 n] w fun e w' => e = .returned (.int .i64 k) ∧ w = w' := by
  subst h
  exact length_any n w

set_option maxRecDepth 100000 in
set_option maxHeartbeats 800000 in
theorem size_any (g base : Nat) (v : Value) (n : Int) (xs : List UInt8) (w : World) (h0 : 0 ≤ n) (h1 : n < 18446744073709551616) (hw : Wr w g base v xs) (hlen : xs.length ≤ 48000) (hbase : base ≤ w.heap.size) :
    Calls Tryd.prog 56 #[.pointer (some ⟨g, 0, none⟩), .int .u64 n] w (WrPost w g base v (xs ++ sizeB n)) := by
  by_cases c1 : n < 253
  · have hl : sizeB n = [b8 n] := by unfold sizeB; rw [if_pos c1]
    have hs : sizeLen n = 1 := by unfold sizeLen; rw [if_pos c1]
    have HL := Lib.hid hl; clear hl
    have HS := Lib.hid hs; clear hs
    go_enter Tryd.func56, Tryd.ntmps56
    go_wp2_with fail
    refine (length_eq n 1 HS.out _).mono ?_
    rintro e w1 ⟨rfl, rfl⟩
    go_wp2_with fail
    refine (u8_any g base v _ xs w (by omega) (by omega) hw (by omega) hbase).mono ?_
    rintro e w1 ⟨rfl, hs⟩
    go_wp2
    go_end0
    refine ⟨rfl, ?_⟩
    rw [HL.out]
    exact hs
  by_cases c2 : n < 65536
  · have hl : sizeB n = b8 253 :: low n 2 := by unfold sizeB; rw [if_neg c1, if_pos c2]
    have hs : sizeLen n = 3 := by unfold sizeLen; rw [if_neg c1, if_pos c2]
    have HL := Lib.hid hl; clear hl
    have HS := Lib.hid hs; clear hs
    go_enter Tryd.func56, Tryd.ntmps56
    go_wp2_with fail
    refine (length_eq n 3 HS.out _).mono ?_
    rintro e w1 ⟨rfl, rfl⟩
    go_wp2_with fail
    refine (u8_any g base v _ xs w (by omega) (by omega) hw (by omega) hbase).mono ?_
    rintro e w1 ⟨rfl, v1, hw1, ht1, hb1⟩
    go_wp2_with fail
    refine (u16_any g base v1 _ _ w1 (by omega) (by omega) hw1 (by simp; omega) (Nat.le_trans hbase ht1.size)).mono ?_
    rintro e w2 ⟨rfl, hs⟩
    go_wp2
    go_end0
    refine ⟨rfl, WrStep.next ht1 hb1 ?_⟩
    rw [HL.out]
    simpa using hs
  by_cases c3 : n < 4294967296
  · have hl : sizeB n = b8 254 :: low n 4 := by unfold sizeB; rw [if_neg c1, if_neg c2, if_pos c3]
    have hs : sizeLen n = 5 := by unfold sizeLen; rw [if_neg c1, if_neg c2, if_pos c3]
    have HL := Lib.hid hl; clear hl
    have HS := Lib.hid hs; clear hs
    go_enter Tryd.func56, Tryd.ntmps56
    go_wp2_with fail
    refine (length_eq n 5 HS.out _).mono ?_
    rintro e w1 ⟨rfl, rfl⟩
    go_wp2_with fail
    refine (u8_any g base v _ xs w (by omega) (by omega) hw (by omega) hbase).mono ?_
    rintro e w1 ⟨rfl, v1, hw1, ht1, hb1⟩
    go_wp2_with fail
    refine (u32_any g base v1 _ _ w1 (by omega) (by omega) hw1 (by simp; omega) (Nat.le_trans hbase ht1.size)).mono ?_
    rintro e w2 ⟨rfl, hs⟩
    go_wp2
    go_end0
    refine ⟨rfl, WrStep.next ht1 hb1 ?_⟩
    rw [HL.out]
    simpa using hs
  · have hl : sizeB n = b8 255 :: low n 8 := by unfold sizeB; rw [if_neg c1, if_neg c2, if_neg c3]
    have hs : sizeLen n = 9 := by unfold sizeLen; rw [if_neg c1, if_neg c2, if_neg c3]
    have HL := Lib.hid hl; clear hl
    have HS := Lib.hid hs; clear hs
    go_enter Tryd.func56, Tryd.ntmps56
    go_wp2_with fail
    refine (length_eq n 9 HS.out _).mono ?_
    rintro e w1 ⟨rfl, rfl⟩
    go_wp2_with fail
    refine (u8_any g base v _ xs w (by omega) (by omega) hw (by omega) hbase).mono ?_
    rintro e w1 ⟨rfl, v1, hw1, ht1, hb1⟩
    go_wp2_with fail
    refine (u64_any g base v1 _ _ w1 (by omega) (by omega) hw1 (by simp; omega) (Nat.le_trans hbase ht1.size)).mono ?_
    rintro e w2 ⟨rfl, hs⟩
    go_wp2
    go_end0
    refine ⟨rfl, WrStep.next ht1 hb1 ?_⟩
    rw [HL.out]
    simpa using hs

theorem Byt.form {w : World} {B : Nat} {v : Value} {xs : List UInt8} (h : Byt w B v xs) : ∃ A c, v = .slice A xs.length c := by
  obtain ⟨A, c, hv, _⟩ := h
  exact ⟨A, c, hv⟩

set_option maxRecDepth 100000 in
set_option maxHeartbeats 400000 in
theorem bytes_any (g base B : Nat) (v x : Value) (xs ys : List UInt8) (w : World) (hw : Wr w g base v xs) (hr : Byt w B x ys) (hlen : xs.length ≤ 47000) (hy : ys.length ≤ 1000) (hbase : base ≤ w.heap.size)
    (hB : B ≤ w.heap.size) (hgB : B ≤ g) (hvB : ∀ k, v.ownBlock = some k → B ≤ k) :
    Calls Tryd.prog 44 #[.pointer (some ⟨g, 0, none⟩), x] w (WrPost w g base v (xs ++ (sizeB ys.length ++ ys))) := by
  obtain ⟨A, c, rfl⟩ := hr.form
  have hsl := sizeB_le ys.length
  go_enter Tryd.func44, Tryd.ntmps44
  go_wp2_with fail
  refine (size_any g base v _ xs w (by omega) (by omega) hw (by omega) hbase).mono ?_
  rintro e w1 ⟨rfl, v1, hw1, ht1, hb1⟩
  have hr1 : Byt w1 B (.slice A ys.length c) ys := hr.below (ht1.below_of hB (fun i hi h => by rcases h with h | h; omega; have := hvB _ h; omega))
  go_wp2_with fail
  refine (raw_any g base B v1 _ _ ys w1 hw1 hr1 (by simp; omega) (Nat.le_trans hbase ht1.size)).mono ?_
  rintro e w2 ⟨rfl, hs⟩
  go_wp2
  go_end0
  refine ⟨rfl, WrStep.next ht1 hb1 ?_⟩
  rw [← List.append_assoc]
  exact hs

end Go.Proofs.YthelmclpmalofaaDoor

/-
  Rows of bytes that may be written, and new ones of zeros. Conditions: sizes within the reach.
-/
namespace Go.Proofs.YthelmclpmalofaaDoor
open Go.RowKit

theorem Byt.cap {w : World} {B c : Nat} {A : Option Addr} {xs : List UInt8} (h : Byt w B (.slice A xs.length c) xs) : xs.length ≤ c ∧ c ≤ 9223372036854775807 := by
  obtain ⟨A', c', e, h1, h2, _⟩ := h
  injection e with e1 e2 e3
  subst e3
  unfold maxLen at h2
  exact ⟨h1, h2⟩

/-- Block g holds these bytes, and may be written. -/
def Row (w : World) (g : Nat) (xs : List UInt8) : Prop := w.heap[g]? = some (.cells (xs.map bv).toArray 5 (0, 0))

theorem Row.lt {w : World} {g : Nat} {xs : List UInt8} (h : Row w g xs) : g < w.heap.size := (Array.getElem?_eq_some_iff.1 h).1
theorem Row.cell {w : World} {g i : Nat} {xs : List UInt8} {c : UInt8} (h : Row w g xs) (hi : xs[i]? = some c) : w.cell? ⟨g, i, none⟩ = some (bv c) := by
  rw [cell_of_row w g i _ _ _ h]
  simp [hi]
theorem Row.free {w : World} {g : Nat} {xs : List UInt8} (h : Row w g xs) (i : Nat) : w.frozen? ⟨g, i, none⟩ = false := by
  unfold Row at h
  simp [World.frozen?, h]
theorem Row.set {w : World} {g i : Nat} {xs : List UInt8} (h : Row w g xs) (c : UInt8) : Row (w.setCell ⟨g, i, none⟩ (bv c)) g (xs.set i c) := by
  unfold Row at h ⊢
  simp [World.setCell, Array.getElem?_modify, h, List.map_set]
theorem Row.turns {S : Nat → Prop} {w w' : World} {g : Nat} {xs : List UInt8} (h : Row w g xs) (ht : Turns S w w') (hS : ¬ S g) : Row w' g xs := (ht.block g h.lt hS).trans h
theorem Row.byt {w : World} {g n c : Nat} {xs : List UInt8} (h : Row w g xs) (hn : n ≤ xs.length) (hc : n ≤ c) (hcm : c ≤ maxLen) : Byt w w.heap.size (.slice (some ⟨g, 0, none⟩) n c) (xs.take n) := by
  have hl : (xs.take n).length = n := by rw [List.length_take]; omega
  refine ⟨some ⟨g, 0, none⟩, c, by rw [hl], by omega, hcm, (by intro h; cases h), fun _ => ⟨g, 0, rfl, h.lt, fun j u hu => ?_⟩⟩
  rw [Nat.zero_add]
  refine h.cell ?_
  rw [List.getElem?_take] at hu
  split at hu
  · exact hu
  · cases hu

theorem set_next {xs zs : List UInt8} {i n : Nat} {c : UInt8} (hi : i < xs.length) (hc : xs[i]? = some c) (hz : zs = xs.take i ++ List.replicate (n - i) 0) (hn : n = xs.length) :
    zs.set i c = xs.take (i + 1) ++ List.replicate (n - (i + 1)) 0 := by
  subst hz
  have hl : (xs.take i).length = i := by rw [List.length_take]; omega
  rw [List.set_append_right _ _ (by omega), hl, Nat.sub_self]
  obtain ⟨m, hm⟩ : ∃ m, n - i = m + 1 := ⟨n - i - 1, by omega⟩
  rw [hm, List.replicate_succ, List.set_cons_zero, List.take_add_one, hc]
  have : n - (i + 1) = m := by omega
  rw [this]
  simp

/-- n zero bytes, as a block's cells. -/
def zeroRow (n : Nat) : Array Value := ((List.replicate n (0 : UInt8)).map bv).toArray

theorem made_zero (n : Nat) : madeCells (Value.int .u8 0).cells n = zeroRow n := by
  unfold zeroRow
  simp only [madeCells, Value.cells, List.map_replicate, bv]
  apply Array.ext
  · simp
  · intro i h1 h2
    simp [Nat.mod_one]

theorem make_bytes (W : World) (n : Nat) (q : Int) (hq : q = n) (hn : n ≤ 281474976710656) :
    (Instr.makeSlice 27 (.int .i64 q) (.int .i64 q)).run Tryd.prog W = .ok (.slice (some ⟨W.heap.size, 0, none⟩) n n) (W.alloc (.cells (zeroRow n) 5)) := by
  obtain ⟨i0, hi, hz0, hz1, hz2⟩ := info_parts info_u8
  subst hq
  rw [run_make (P := Tryd.prog) W 27 5 i0 (.int .u8 0) slice_u8 hi hz0 .i64 .i64 n n (by omega) (by omega) (by rw [hz2]; omega) (by omega), hz1]
  simp only [Int.toNat_natCast, Nat.mul_one]
  rw [made_zero]

theorem row_new (w : World) (n : Nat) : Row (w.alloc (.cells (zeroRow n) 5)) w.heap.size (List.replicate n 0) := heap_alloc_new w _


/-- Behind i rounds: the first i bytes are as they will be, the rest is zero. -/
def FillB (w : World) (g i : Nat) (bs : List UInt8) (wr : World) : Prop :=
  ∃ zs, zs = bs.take i ++ List.replicate (bs.length - i) 0 ∧ Row wr g zs ∧ Below w.heap.size w wr

theorem fillB_next {w w' : World} {g i : Nat} {bs zs : List UInt8} {c : UInt8} (hi : i < bs.length) (hc : bs[i]? = some c) (hz : zs = bs.take i ++ List.replicate (bs.length - i) 0)
    (hr : Row w' g (zs.set i c)) (hb' : Below w.heap.size w w') : FillB w g (i + 1) bs w' :=
  ⟨_, set_next hi hc hz rfl, hr, hb'⟩

theorem fillB_zero {bs zs : List UInt8} {i : Nat} (hi : i < bs.length) (hz : zs = bs.take i ++ List.replicate (bs.length - i) 0) : zs[i]? = some 0 := by
  subst hz
  have hl : (bs.take i).length = i := by rw [List.length_take]; omega
  rw [List.getElem?_append_right (by omega), hl, Nat.sub_self]
  obtain ⟨m, hm⟩ : ∃ m, bs.length - i = m + 1 := ⟨bs.length - i - 1, by omega⟩
  rw [hm, List.replicate_succ]
  rfl
theorem fillB_end {w wr : World} {g : Nat} {bs : List UInt8} (h : FillB w g bs.length bs wr) : Row wr g bs ∧ Below w.heap.size w wr := by
  obtain ⟨zs, hz, hr, hb⟩ := h
  rw [Nat.sub_self, List.replicate_zero, List.append_nil, List.take_length] at hz
  exact ⟨hz ▸ hr, hb⟩

end Go.Proofs.YthelmclpmalofaaDoor
