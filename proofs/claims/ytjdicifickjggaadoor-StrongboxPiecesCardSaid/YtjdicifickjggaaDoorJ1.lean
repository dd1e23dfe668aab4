/-
  Texts joined: Base, Wire, Ref, Read, Num. Conditions: those of each.
-/
import Derived.Test.YtjdicifickjggaaDoorProg
import Derived.WalkKit
import Derived.WalkSpells
import Derived.WalkLawsBesides
import Derived.Maps.AppendAt
import Derived.Deep.Draws
import Derived.KernelRfl
import Derived.Lib.Hide
import Derived.Maps.Own
import Derived.Maps.OwnOps
/-
  Bytes in memory: what it means that a slice value reads as a list of bytes, what a call leaves as it was, and an append onto a row of the call's own. Conditions: none (plain lemmas, over any program).
-/
namespace Go.Proofs.YtjdicifickjggaaDoor
open Go.RowKit

/-- One byte, as a value. -/
def bv (c : UInt8) : Value := .int .u8 (c.toNat : Int)

theorem bv_inj {a b : UInt8} (h : bv a = bv b) : a = b := by
  unfold bv at h
  injection h with _ h
  exact UInt8.toNat_inj.1 (by omega)

theorem bv_one (c : UInt8) : (bv c).oneCell' = true := rfl

/-- From a to w only blocks of S, and new ones, have turned. -/
structure Turns (S : Nat → Prop) (a w : World) : Prop where
  os : w.os = a.os
  tape : w.tape = a.tape
  output : w.output = a.output
  size : a.heap.size ≤ w.heap.size
  block : ∀ k, k < a.heap.size → ¬ S k → w.heap[k]? = a.heap[k]?

section
variable {S S' : Nat → Prop} {a b c w : World}
theorem Turns.refl (S : Nat → Prop) (a : World) : Turns S a a := ⟨rfl, rfl, rfl, Nat.le_refl _, fun _ _ _ => rfl⟩
theorem Turns.trans (h : Turns S a b) (k : Turns S' b c) (hs : ∀ i, i < a.heap.size → S' i → S i) : Turns S a c :=
  ⟨k.os.trans h.os, k.tape.trans h.tape, k.output.trans h.output, Nat.le_trans h.size k.size,
    fun i hi hn => (k.block i (Nat.lt_of_lt_of_le hi h.size) (fun e => hn (hs i hi e))).trans (h.block i hi hn)⟩
theorem Turns.mono (h : Turns S a b) (hs : ∀ i, i < a.heap.size → S i → S' i) : Turns S' a b := ⟨h.os, h.tape, h.output, h.size, fun i hi hn => h.block i hi (fun e => hn (hs i hi e))⟩
theorem Turns.alloc (h : Turns S a b) (o : Obj) : Turns S a (b.alloc o) :=
  h.trans (S' := fun _ => False) ⟨rfl, rfl, rfl, by simp, fun k hk _ => Below.heap_alloc _ _ _ hk⟩ (fun _ _ h => h.elim)
theorem Turns.drew (h : Turns S a b) : Turns S a b.drew := ⟨h.os, h.tape, h.output, h.size, h.block⟩
theorem Turns.drewN (h : Turns S a b) (n : Nat) : Turns S a (b.drewN n) := ⟨h.os, h.tape, h.output, h.size, h.block⟩
theorem Turns.setCell (h : Turns S a b) {p : Addr} (hp : p.block < a.heap.size → S p.block) (u : Value) : Turns S a (b.setCell p u) :=
  ⟨h.os, h.tape, h.output, by simpa [World.setCell] using h.size, fun k hk hn => (Below.heap_setCell _ _ _ _ (by rintro rfl; exact hn (hp hk))).trans (h.block k hk hn)⟩
theorem Turns.grown (h : Turns S a b) {row : Option Nat} (hg : b.grownBy c row) (hr : ∀ k, row = some k → k < a.heap.size → S k) : Turns S a c :=
  ⟨hg.os.trans h.os, hg.tape.trans h.tape, hg.output.trans h.output, Nat.le_trans h.size hg.size,
    fun k hk hn => (hg.block k (Nat.lt_of_lt_of_le hk h.size) (fun e => hn (hr k e.symm hk))).trans (h.block k hk hn)⟩
theorem Turns.cell (h : Turns S a w) {p : Addr} (hp : p.block < a.heap.size) (hn : ¬ S p.block) : w.cell? p = a.cell? p := World.cell?_of_block (w := a) (h.block p.block hp hn)
theorem Turns.frozen (h : Turns S a w) {p : Addr} (hp : p.block < a.heap.size) (hn : ¬ S p.block) : w.frozen? p = a.frozen? p := World.frozen?_of_block (w := a) (h.block p.block hp hn)
theorem Turns.below (h : Turns S a w) (hs : ∀ i, i < a.heap.size → ¬ S i) : Below a.heap.size a w := ⟨h.os, h.tape, h.output, h.size, fun k hk => h.block k hk (hs k hk)⟩
theorem Turns.of_below (h : Below a.heap.size a w) : Turns S a w := ⟨h.os, h.tape, h.output, h.size, fun k hk _ => h.block k hk⟩
theorem Turns.below_of {B : Nat} (h : Turns S a w) (hB : B ≤ a.heap.size) (hs : ∀ i, i < B → ¬ S i) : Below B a w := ⟨h.os, h.tape, h.output, h.size, fun k hk => h.block k (by omega) (hs k hk)⟩
end

/-- The slice value v holds the bytes xs, in a block below B (or is empty). -/
def Byt (w : World) (B : Nat) (v : Value) (xs : List UInt8) : Prop :=
  ∃ A c, v = .slice A xs.length c ∧ xs.length ≤ c ∧ c ≤ maxLen ∧ (A = none → xs = [] ∧ c = 0) ∧
    (xs ≠ [] → ∃ b o, A = some ⟨b, o, none⟩ ∧ b < B ∧ ∀ j u, xs[j]? = some u → w.cell? ⟨b, o + j, none⟩ = some (bv u))

section
variable {w w' : World} {B B' : Nat} {v : Value} {xs : List UInt8}
theorem Byt.keep (h : Byt w B v xs) (hk : ∀ b o, b < B → w'.cell? ⟨b, o, none⟩ = w.cell? ⟨b, o, none⟩) : Byt w' B v xs := by
  obtain ⟨A, c, hv, hl, hm, hA, hx⟩ := h
  refine ⟨A, c, hv, hl, hm, hA, fun hne => ?_⟩
  obtain ⟨b, o, e, hb, hc⟩ := hx hne
  exact ⟨b, o, e, hb, fun j u hu => (hk _ _ hb).trans (hc j u hu)⟩
theorem Byt.more (h : Byt w B v xs) (hB : B ≤ B') : Byt w B' v xs := by
  obtain ⟨A, c, hv, hl, hm, hA, hx⟩ := h
  refine ⟨A, c, hv, hl, hm, hA, fun hne => ?_⟩
  obtain ⟨b, o, e, hb, hc⟩ := hx hne
  exact ⟨b, o, e, by omega, hc⟩
theorem Byt.below (h : Byt w B v xs) (hb : Below B w w') : Byt w' B v xs := h.keep fun _ _ hp => hb.cell (p := ⟨_, _, none⟩) hp
theorem Byt.len (h : Byt w B v xs) : xs.length ≤ maxLen := by
  obtain ⟨A, c, hv, hl, hm, _⟩ := h
  omega
theorem Byt.nil (w : World) (B : Nat) : Byt w B (.slice none 0 0) [] := ⟨none, 0, rfl, Nat.le_refl _, by unfold maxLen; omega, fun _ => ⟨rfl, rfl⟩, fun h => absurd rfl h⟩
theorem Byt.of_own {base : Nat} {e : TypeId} (h : w.ownsRow base e 1 v xs.length (xs.map bv)) : Byt w w.heap.size v xs := by
  rcases h.2 with ⟨rfl, hn⟩ | ⟨g, cap, cur, rfl, _, hg, hnc, hcm, _, _⟩
  · obtain rfl : xs = [] := List.eq_nil_of_length_eq_zero hn
    exact Byt.nil _ _
  · refine ⟨some ⟨g, 0, none⟩, cap, rfl, hnc, hcm, (by intro h; cases h), fun hne => ⟨g, 0, rfl, (h.lt g rfl).2, fun j u hu => ?_⟩⟩
    have hc := h.cells (g := g) rfl j (bv u) (by rw [List.getElem?_map, hu]; rfl)
    have hadd : (⟨g, 0, none⟩ : Addr).add j = ⟨g, 0 + j, none⟩ := by unfold Addr.add; split <;> simp_all
    rw [← hadd]; exact hc
end

/-- `ownsRow` over bytes; the row is of one-cell elements. -/
theorem map_bv_length (xs : List UInt8) : (xs.map bv).length = xs.length := by simp

theorem own_block_other {w : World} {base g : Nat} {e t : TypeId} {v : Value} {n : Nat} {xs : List Value} {cs : Array Value} {m : Nat × Nat}
    (h : w.ownsRow base e 1 v n xs) (hg : w.heap[g]? = some (.cells cs t m)) (hne : e ≠ t) : v.ownBlock ≠ some g := by
  rcases h.2 with ⟨rfl, _⟩ | ⟨g', cap, cur, rfl, _, hh, _⟩
  · simp [Value.ownBlock]
  · intro he
    have e1 : g' = g := by simpa [Value.ownBlock] using he
    subst e1
    rw [hh] at hg
    injection hg with hg
    injection hg with _ ht
    exact hne ht

theorem own_turns {S : Nat → Prop} {w w' : World} {base : Nat} {e : TypeId} {size n : Nat} {v : Value} {xs : List Value}
    (h : w.ownsRow base e size v n xs) (ht : Turns S w w') (hS : ∀ k, v.ownBlock = some k → ¬ S k) : w'.ownsRow base e size v n xs := by
  refine ⟨h.1, ?_⟩
  rcases h.2 with hn | ⟨g, cap, cur, rfl, hb, hgg, rest⟩
  · exact .inl hn
  · refine .inr ⟨g, cap, cur, rfl, hb, ?_, rest⟩
    rw [ht.block g (Array.getElem?_eq_some_iff.1 hgg).1 (hS g rfl)]
    exact hgg

/-- append of bytes onto a row of the call's own: the source reads as bytes (it may be nil or empty). -/
theorem run_append_bytes {P : Program} (w : World) (base : Nat) (t ty e : TypeId) (i : TypeInfo) (ht : P.underlying t = some (.slice e)) (hi : P.info? e = some i)
    (hz : i.zero = some (.int .u8 0)) (hsize : i.size = 1) (hby : i.bytes = 1) (v : Value) (n : Nat) (xs : List Value) (hown : w.ownsRow base e 1 v n xs)
    (B : Nat) (x : Value) (ys : List UInt8) (hr : Byt w B x ys) (hb : n + ys.length ≤ 140737488355328) (hbase : base ≤ w.heap.size) :
    ∃ v' w', (Builtin.append_ #[t, t] ty #[v, x]).run P w = .ok v' w' ∧ w'.ownsRow base e 1 v' (n + ys.length) (xs ++ ys.map bv) ∧ w.grownBy w' v.ownBlock ∧
      (v'.ownBlock = v.ownBlock ∨ v'.ownBlock = some w.heap.size) := by
  obtain ⟨A, c, rfl, hl, hm, hA, hx⟩ := hr
  rcases A with _ | ad
  · obtain ⟨rfl, rfl⟩ := hA rfl
    refine ⟨v, w, ?_, by simpa using hown, ⟨rfl, rfl, rfl, Nat.le_refl _, fun _ _ _ => rfl⟩, .inl rfl⟩
    rcases hown.2 with ⟨rfl, rfl⟩ | ⟨g, cap, cur, rfl, _, _, hnc, _⟩
    · simp [Builtin.append_, run_underlying ht, sizeOf, typeInfo, hi, Builtin.lenOf, Builtin.firstCells]
    · simp [Builtin.append_, run_underlying ht, sizeOf, typeInfo, hi, Builtin.lenOf, Builtin.firstCells, hnc, storeCells]
  · have hcells : ∀ j u, (ys.map bv)[j]? = some u → w.cell? (ad.add j) = some u := by
      intro j u hu
      rw [List.getElem?_map] at hu
      cases hy : ys[j]? with
      | none => rw [hy] at hu; cases hu
      | some q =>
        rw [hy] at hu
        injection hu with hu
        subst hu
        have hne : ys ≠ [] := by rintro rfl; simp at hy
        obtain ⟨b, o, hAe, _, hc⟩ := hx hne
        injection hAe with hAe
        subst hAe
        have hadd : (⟨b, o, none⟩ : Addr).add j = ⟨b, o + j, none⟩ := by unfold Addr.add; split <;> simp_all
        rw [hadd]; exact hc j q hy
    obtain ⟨v', w', hrun, h2, h3, _, h5⟩ := run_append_own_at (P := P) w base t ty e i (.int .u8 0) 1 1 ht hi hz hsize hby rfl (by decide) v n xs hown ad ys.length c (ys.map bv)
      (by simp) hcells (by intro u hu; obtain ⟨q, _, rfl⟩ := List.mem_map.1 hu; rfl) (by unfold maxLen; omega) (by omega) hbase
    exact ⟨v', w', hrun, h2, h3, h5⟩

/-- At the operation. -/
theorem wpList_append_bytes {P : Program} {w : World} {ops : Array Oper} {rest : List Oper} {o : Oper} {a : Act} {Q : Exit → Act → World → Prop} (hgd : o.guard = none) (s x : Operand) (t : TypeId)
    (ho : o.op = .call { callee := .builtin .append, args := #[s, x], argTypes := #[t, t] })
    (base : Nat) (e : TypeId) (i : TypeInfo) (ht : P.underlying t = some (.slice e)) (hi : P.info? e = some i)
    (hz : i.zero = some (.int .u8 0)) (hsize : i.size = 1) (hby : i.bytes = 1)
    (v : Value) (n : Nat) (xs : List Value) (hs : a.eval s = v) (hown : w.ownsRow base e 1 v n xs)
    (B : Nat) (u : Value) (ys : List UInt8) (hx : a.eval x = u) (hr : Byt w B u ys) (hb : n + ys.length ≤ 140737488355328) (hbase : base ≤ w.heap.size)
    (h : ∀ v' w', w'.ownsRow base e 1 v' (n + ys.length) (xs ++ ys.map bv) → w.grownBy w' v.ownBlock → (v'.ownBlock = v.ownBlock ∨ v'.ownBlock = some w.heap.size) → wpList P ops Q rest (a.put o.dst v') w') :
    wpList P ops Q (o :: rest) a w := by
  refine wpList_plain hgd fun K hK => ?_
  obtain ⟨v', w', hrun, h2, h3, h4⟩ := run_append_bytes (P := P) w base t o.type e i ht hi hz hsize hby v n xs hown B u ys hr hb hbase
  unfold Oper.wp execOp
  simp only [ho, resolve, invoke, builtin, Sem.run_bind, Sem.run_pure, Result.andThen_ok, List.map_toArray, List.map_cons, List.map_nil, hs, hx, hrun]
  exact hK _ _ (h v' w' h2 h3 h4)

/-! Numbers as bytes -/
/-- The lowest byte of a number. -/
def b8 (n : Int) : UInt8 := UInt8.ofNat (n % 256).toNat
theorem b8_toNat (n : Int) : ((b8 n).toNat : Int) = n % 256 := by
  unfold b8
  rw [UInt8.toNat_ofNat']
  omega
theorem bv_b8 (n : Int) : bv (b8 n) = .int .u8 (n % 256) := by unfold bv; rw [b8_toNat]
theorem bv_b8_of {n : Int} (h0 : 0 ≤ n) (h1 : n < 256) : bv (b8 n) = .int .u8 n := by rw [bv_b8, Int.emod_eq_of_lt h0 h1]
/-- The lowest k bytes, the lowest first. -/
def low (n : Int) : Nat → List UInt8
  | 0 => []
  | k + 1 => b8 n :: low (n / 256) k
theorem low_length (n : Int) (k : Nat) : (low n k).length = k := by
  induction k generalizing n with
  | zero => rfl
  | succ k ih => simp [low, ih]

/-- A block that has just been made, of just these bytes. -/
theorem Byt.made (w : World) (e : TypeId) (l : List Value) (ys : List UInt8) (h : l = ys.map bv) (hl : ys.length ≤ maxLen) :
    Byt (w.alloc (.cells l.toArray e)) (w.heap.size + 1) (.slice (some ⟨w.heap.size, 0, none⟩) ys.length ys.length) ys := by
  refine ⟨_, _, rfl, Nat.le_refl _, hl, (by intro h; cases h), fun _ => ⟨_, _, rfl, by omega, fun j u hu => ?_⟩⟩
  rw [Nat.zero_add]
  show (w.alloc (.cells l.toArray e)).cell? ⟨w.heap.size, j, none⟩ = _
  rw [cell_of_row _ w.heap.size j _ _ _ (heap_alloc_new w _), h]
  simp [hu]

/-- A slice of bytes as a string. -/
theorem run_string_of {P : Program} (w : World) (src dst e : TypeId) (hs : P.underlying src = some (.slice e)) (he : P.underlying e = some (.int .u8)) (hd : P.underlying dst = some .string)
    (B : Nat) (v : Value) (xs : List UInt8) (h : Byt w B v xs) : (convert src dst v).run P w = .ok (.string ⟨xs.toArray⟩) w := by
  obtain ⟨A, c, rfl, hl, hm, hA, hx⟩ := h
  rcases A with _ | ad
  · obtain ⟨rfl, rfl⟩ := hA rfl
    rw [run_convert_bytes_string w src dst e none _ _ hs he hd]
    simp [Conv.bytesToString, Sem.run_pure]
    rfl
  · refine run_convert_bytes_back w src dst e ad c xs hs he hd fun j hj => ?_
    have hne : xs ≠ [] := by rintro rfl; simp at hj
    obtain ⟨b, o, hAe, _, hc⟩ := hx hne
    injection hAe with hAe
    subst hAe
    have hadd : (⟨b, o, none⟩ : Addr).add j = ⟨b, o + j, none⟩ := by unfold Addr.add; split <;> simp_all
    rw [hadd]
    exact hc j _ (List.getElem?_eq_getElem hj)

theorem own_form {w : World} {base : Nat} {e : TypeId} {size n : Nat} {v : Value} {xs : List Value} (h : w.ownsRow base e size v n xs) : ∃ A c, v = .slice A n c := by
  rcases h.2 with ⟨rfl, rfl⟩ | ⟨g, cap, cur, rfl, _⟩
  · exact ⟨_, _, rfl⟩
  · exact ⟨_, _, rfl⟩

end Go.Proofs.YtjdicifickjggaaDoor

/-
  What the writer's functions do, said of bytes in memory. Conditions: sizes within the reach.
-/
namespace Go.Proofs.YtjdicifickjggaaDoor
open Go.RowKit

/-- The row of the table for a byte. -/
theorem info_u8 : (Tryd.prog.info? 5).map (fun i => (i.zero, i.size, i.bytes)) = some (some (.int .u8 0), 1, 1) := by kernel_rfl
theorem slice_u8 : Tryd.prog.underlying 24 = some (.slice 5) := Tryd.underlying24

/-- A writer at block g: it has written xs, in a row of its own from base on. -/
def Wr (w : World) (g base : Nat) (v : Value) (xs : List UInt8) : Prop :=
  w.heap[g]? = some (.cells #[v] 26 (0, 0)) ∧ w.ownsRow base 5 1 v xs.length (xs.map bv)

theorem Wr.cell {w : World} {g base : Nat} {v : Value} {xs : List UInt8} (h : Wr w g base v xs) : w.cell? ⟨g, 0, none⟩ = some v := cell_of_row w g 0 _ _ _ h.1
theorem Wr.free {w : World} {g base : Nat} {v : Value} {xs : List UInt8} (h : Wr w g base v xs) : w.frozen? ⟨g, 0, none⟩ = false := by
  have h1 := h.1
  simp [World.frozen?, h1]
theorem Wr.lt {w : World} {g base : Nat} {v : Value} {xs : List UInt8} (h : Wr w g base v xs) : g < w.heap.size := (Array.getElem?_eq_some_iff.1 h.1).1
theorem Wr.other {w : World} {g base : Nat} {v : Value} {xs : List UInt8} (h : Wr w g base v xs) : v.ownBlock ≠ some g := own_block_other h.2 h.1 (by decide)
theorem Wr.turns {S : Nat → Prop} {w w' : World} {g base : Nat} {v : Value} {xs : List UInt8} (h : Wr w g base v xs) (ht : Turns S w w') (hg : ¬ S g) (hS : ∀ k, v.ownBlock = some k → ¬ S k) : Wr w' g base v xs :=
  ⟨(ht.block g h.lt hg).trans h.1, own_turns h.2 ht hS⟩

/-- One step of a writer: it has written zs in all behind it; only its own blocks have turned. -/
def WrStep (w : World) (g base : Nat) (v : Value) (zs : List UInt8) (w' : World) : Prop :=
  ∃ v', Wr w' g base v' zs ∧ Turns (fun k => k = g ∨ v.ownBlock = some k) w w' ∧ (v'.ownBlock = v.ownBlock ∨ ∃ k, v'.ownBlock = some k ∧ w.heap.size ≤ k)
def WrPost (w : World) (g base : Nat) (v : Value) (zs : List UInt8) (e : Ending) (w' : World) : Prop := e = .returned (.tuple #[]) ∧ WrStep w g base v zs w'

theorem WrStep.pre {w w1 w2 : World} {g base : Nat} {v : Value} {zs : List UInt8} (ht : Turns (fun _ => False) w w1) (h : WrStep w1 g base v zs w2) : WrStep w g base v zs w2 := by
  obtain ⟨v', h1, h2, h3⟩ := h
  refine ⟨v', h1, ?_, ?_⟩
  · refine (ht.mono (fun _ _ h => h.elim)).trans h2 (fun _ _ h => h)
  · rcases h3 with h3 | ⟨k, hk, hs⟩
    · exact .inl h3
    · exact .inr ⟨k, hk, Nat.le_trans ht.size hs⟩

theorem WrStep.next {w w1 w2 : World} {g base : Nat} {v v1 : Value} {zs : List UInt8} (ht : Turns (fun k => k = g ∨ v.ownBlock = some k) w w1) (hv : v1.ownBlock = v.ownBlock ∨ ∃ k, v1.ownBlock = some k ∧ w.heap.size ≤ k)
    (h : WrStep w1 g base v1 zs w2) : WrStep w g base v zs w2 := by
  obtain ⟨v', h1, h2, h3⟩ := h
  refine ⟨v', h1, ht.trans h2 (fun i hi hs => ?_), ?_⟩
  · rcases hs with hs | hs
    · exact .inl hs
    · rcases hv with hv | ⟨k, hk, hle⟩
      · exact .inr (hv ▸ hs)
      · rw [hk] at hs
        injection hs with hs
        omega
  · rcases h3 with h3 | ⟨k, hk, hs⟩
    · rw [h3]
      exact hv
    · exact .inr ⟨k, hk, Nat.le_trans ht.size hs⟩

/-- How many bytes a compact size takes. -/
def sizeLen (n : Int) : Int := if n < 253 then 1 else if n < 65536 then 3 else if n < 4294967296 then 5 else 9

set_option maxHeartbeats 400000 in
theorem length_any (n : Int) (w : World) :
    Calls Tryd.prog 40 #[.int .u64 n] w fun e w' => e = .returned (.int .i64 (sizeLen n)) ∧ w = w' := by
  have key : ∀ m : Int, m = sizeLen n → Ending.returned (.int .i64 m) = .returned (.int .i64 (sizeLen n)) := fun m h => by rw [h]
  go_enter Tryd.func40, Tryd.ntmps40
  go_wp2
  · go_ret
    exact ⟨key _ (by unfold sizeLen; rw [if_pos ‹_›]), rfl⟩
  · go_ret
    exact ⟨key _ (by unfold sizeLen; rw [if_neg (by omega), if_pos ‹_›]), rfl⟩
  · go_ret
    exact ⟨key _ (by unfold sizeLen; rw [if_neg (by omega), if_neg (by omega), if_pos ‹_›]), rfl⟩
  · go_ret
    exact ⟨key _ (by unfold sizeLen; rw [if_neg (by omega), if_neg (by omega), if_neg (by omega)]), rfl⟩


theorem raw_close {w w1 : World} {g base : Nat} {v v1 : Value} {xs ys : List UInt8} (hw : Wr w g base v xs)
    (hown1 : w1.ownsRow base 5 1 v1 (xs.length + ys.length) (xs.map bv ++ ys.map bv)) (hg1 : w.grownBy w1 v.ownBlock) (hat1 : v1.ownBlock = v.ownBlock ∨ v1.ownBlock = some w.heap.size) :
    WrStep w g base v (xs ++ ys) (w1.setCell ⟨g, 0, none⟩ v1) := by
  have hh : w1.heap[g]? = some (.cells #[v] 26 (0, 0)) := (hg1.block g hw.lt (fun e => hw.other e.symm)).trans hw.1
  have hne : v1.ownBlock ≠ some g := own_block_other hown1 hh (by decide)
  refine ⟨v1, ⟨?_, ?_⟩, ?_, ?_⟩
  · simp [World.setCell, Array.getElem?_modify, hh]
  · have := own_turns hown1 ((Turns.refl (fun k => k = g) w1).setCell (p := ⟨g, 0, none⟩) (fun _ => rfl) v1) (fun k hk e => hne (e ▸ hk))
    simpa using this
  · exact ((Turns.refl (fun k => k = g ∨ v.ownBlock = some k) w).grown hg1 (fun k hk _ => .inr hk)).setCell (p := ⟨g, 0, none⟩) (fun _ => .inl rfl) v1
  · rcases hat1 with h | h
    · exact .inl h
    · exact .inr ⟨_, h, Nat.le_refl _⟩

set_option maxHeartbeats 400000 in
theorem raw_any (g base B : Nat) (v x : Value) (xs ys : List UInt8) (w : World) (hw : Wr w g base v xs) (hr : Byt w B x ys) (hlen : xs.length + ys.length ≤ 60000) (hbase : base ≤ w.heap.size) :
    Calls Tryd.prog 23 #[.pointer (some ⟨g, 0, none⟩), x] w (WrPost w g base v (xs ++ ys)) := by
  obtain ⟨i0, hi, hz0, hz1, hz2⟩ := info_parts info_u8
  have hc := hw.cell
  have hoth := Lib.hid hw.other
  go_enter Tryd.func23, Tryd.ntmps23
  go_wp2_with (at_builtin; refine wpList_append_bytes rfl (.tmp 8) (.tmp 9) 24 rfl base 5 i0 slice_u8 hi hz0 hz1 hz2 v xs.length (xs.map bv) rfl hw.2 B x ys rfl hr (by omega) hbase ?_; intro v1 w1 hown1 hg1 hat1; obtain ⟨A1, c1, rfl⟩ := own_form hown1; have hg2 := hg1.block g hw.lt (fun e => hoth.out e.symm); have hc1 : w1.cell? ⟨g, 0, none⟩ = some v := (World.cell?_of_block (w := w) hg2).trans hc; have hf1 : w1.frozen? ⟨g, 0, none⟩ = false := (World.frozen?_of_block (w := w) hg2).trans hw.free)
  go_end0
  exact ⟨rfl, raw_close hw hown1 hg1 hat1⟩

theorem Wr.alloc {w : World} {g base : Nat} {v : Value} {xs : List UInt8} (h : Wr w g base v xs) (o : Obj) : Wr (w.alloc o) g base v xs :=
  h.turns ((Turns.refl (fun _ => False) w).alloc o) (fun h => h) (fun _ _ h => h)

/-- Raw of bytes that have just been laid. -/
theorem raw_lit (g base : Nat) (v : Value) (xs ys : List UInt8) (l : List Value) (w : World) (hw : Wr w g base v xs) (hl : l = ys.map bv) (hlen : xs.length + ys.length ≤ 60000) (hbase : base ≤ w.heap.size) :
    Calls Tryd.prog 23 #[.pointer (some ⟨g, 0, none⟩), .slice (some ⟨w.heap.size, 0, none⟩) ys.length ys.length] (w.alloc (.cells l.toArray 5)) (WrPost w g base v (xs ++ ys)) :=
  (raw_any g base (w.heap.size + 1) v _ xs ys _ (hw.alloc _) (Byt.made w _ l ys hl (by unfold maxLen; omega)) hlen (by simp; omega)).mono
    fun _ _ ⟨he, hs⟩ => ⟨he, WrStep.pre ((Turns.refl _ _).alloc _) hs⟩

set_option maxHeartbeats 400000 in
theorem u8_any (g base : Nat) (v : Value) (n : Int) (xs : List UInt8) (w : World) (h0 : 0 ≤ n) (h1 : n < 256) (hw : Wr w g base v xs) (hlen : xs.length ≤ 50000) (hbase : base ≤ w.heap.size) :
    Calls Tryd.prog 41 #[.pointer (some ⟨g, 0, none⟩), .int .u8 n] w (WrPost w g base v (xs ++ [b8 n])) := by
  have hl : [Value.int .u8 n] = [b8 n].map bv := by simp [bv_b8_of h0 h1]
  have HL := Lib.hid hl; clear hl
  go_enter Tryd.func41, Tryd.ntmps41
  go_wp2_with fail
  refine (raw_lit g base v xs [b8 n] _ w hw HL.out (by simp; omega) hbase).mono ?_
  rintro e w' ⟨rfl, hs⟩
  go_wp2
  go_end0
  exact ⟨rfl, hs⟩

set_option maxHeartbeats 400000 in
theorem u16_any (g base : Nat) (v : Value) (n : Int) (xs : List UInt8) (w : World) (h0 : 0 ≤ n) (h1 : n < 65536) (hw : Wr w g base v xs) (hlen : xs.length ≤ 50000) (hbase : base ≤ w.heap.size) :
    Calls Tryd.prog 42 #[.pointer (some ⟨g, 0, none⟩), .int .u16 n] w (WrPost w g base v (xs ++ low n 2)) := by
  have hl : [Value.int .u8 (n % 256), Value.int .u8 (n / 256)] = (low n 2).map bv := by simp [low, bv_b8]; omega
  have HL := Lib.hid hl; clear hl
  go_enter Tryd.func42, Tryd.ntmps42
  go_wp2_with fail
  refine (raw_lit g base v xs (low n 2) _ w hw HL.out (by simp [low_length]; omega) hbase).mono ?_
  rintro e w' ⟨rfl, hs⟩
  go_wp2
  go_end0
  exact ⟨rfl, hs⟩

set_option maxHeartbeats 400000 in
theorem u32_any (g base : Nat) (v : Value) (n : Int) (xs : List UInt8) (w : World) (h0 : 0 ≤ n) (h1 : n < 4294967296) (hw : Wr w g base v xs) (hlen : xs.length ≤ 50000) (hbase : base ≤ w.heap.size) :
    Calls Tryd.prog 24 #[.pointer (some ⟨g, 0, none⟩), .int .u32 n] w (WrPost w g base v (xs ++ low n 4)) := by
  have hl : [Value.int .u8 (n % 256), Value.int .u8 (n / 256 % 256), Value.int .u8 (n / 65536 % 256), Value.int .u8 (n / 16777216)] = (low n 4).map bv := by simp [low, bv_b8]; omega
  have HL := Lib.hid hl; clear hl
  go_enter Tryd.func24, Tryd.ntmps24
  go_wp2_with fail
  refine (raw_lit g base v xs (low n 4) _ w hw HL.out (by simp [low_length]; omega) hbase).mono ?_
  rintro e w' ⟨rfl, hs⟩
  go_wp2
  go_end0
  exact ⟨rfl, hs⟩


theorem b8_congr {a b : Int} (h : a % 256 = b % 256) : b8 a = b8 b := by unfold b8; rw [h]
theorem cons_congr {a b : UInt8} {l m : List UInt8} (h : a = b) (k : l = m) : a :: l = b :: m := by rw [h, k]
theorem low_eight (n : Int) : low n 8 = low (n % 4294967296) 4 ++ low (n / 4294967296) 4 := by
  simp only [low, List.cons_append, List.nil_append]
  refine cons_congr (b8_congr (by omega)) (cons_congr (b8_congr (by omega)) (cons_congr (b8_congr (by omega)) (cons_congr (b8_congr (by omega)) (cons_congr (b8_congr (by omega)) (cons_congr (b8_congr (by omega)) (cons_congr (b8_congr (by omega)) (cons_congr (b8_congr (by omega)) rfl)))))))

set_option maxHeartbeats 400000 in
theorem u64_any (g base : Nat) (v : Value) (n : Int) (xs : List UInt8) (w : World) (h0 : 0 ≤ n) (h1 : n < 18446744073709551616) (hw : Wr w g base v xs) (hlen : xs.length ≤ 49000) (hbase : base ≤ w.heap.size) :
    Calls Tryd.prog 5 #[.pointer (some ⟨g, 0, none⟩), .int .u64 n] w (WrPost w g base v (xs ++ low n 8)) := by
  have hl := low_eight n
  have HL := Lib.hid hl; clear hl
  go_enter Tryd.func5, Tryd.ntmps5
  go_wp2_with fail
  refine (u32_any g base v _ xs w (by omega) (by omega) hw (by omega) hbase).mono ?_
  rintro e w1 ⟨rfl, v1, hw1, ht1, hb1⟩
  go_wp2_with fail
  refine (u32_any g base v1 _ _ w1 (by omega) (by omega) hw1 (by simp [low_length]; omega) (Nat.le_trans hbase ht1.size)).mono ?_
  rintro e w2 ⟨rfl, hs⟩
  go_wp2
  go_end0
  refine ⟨rfl, WrStep.next ht1 hb1 ?_⟩
  rw [HL.out, ← List.append_assoc]
  exact hs

/-- A compact size's bytes. -/
def sizeB (n : Int) : List UInt8 :=
  if n < 253 then [b8 n] else if n < 65536 then b8 253 :: low n 2 else if n < 4294967296 then b8 254 :: low n 4 else b8 255 :: low n 8
theorem sizeB_length (n : Int) : ((sizeB n).length : Int) = sizeLen n := by
  unfold sizeB sizeLen
  split
  · rfl
  split
  · simp [low_length]
  split <;> simp [low_length]
theorem sizeB_le (n : Int) : (sizeB n).length ≤ 9 := by
  unfold sizeB
  split
  · simp
  split
  · simp [low_length]
  split <;> simp [low_length]

theorem length_eq (n k : Int) (h : sizeLen n = k) (w : World) :
    Calls Tryd.prog 40 #[.int .u64 n] w fun e w' => e = .returned (.int .i64 k) ∧ w = w' := by
  subst h
  exact length_any n w

set_option maxHeartbeats 800000 in
theorem size_any (g base : Nat) (v : Value) (n : Int) (xs : List UInt8) (w : World) (h0 : 0 ≤ n) (h1 : n < 18446744073709551616) (hw : Wr w g base v xs) (hlen : xs.length ≤ 48000) (hbase : base ≤ w.heap.size) :
    Calls Tryd.prog 22 #[.pointer (some ⟨g, 0, none⟩), .int .u64 n] w (WrPost w g base v (xs ++ sizeB n)) := by
  by_cases c1 : n < 253
  · have hl : sizeB n = [b8 n] := by unfold sizeB; rw [if_pos c1]
    have hs : sizeLen n = 1 := by unfold sizeLen; rw [if_pos c1]
    have HL := Lib.hid hl; clear hl
    have HS := Lib.hid hs; clear hs
    go_enter Tryd.func22, Tryd.ntmps22
    go_wp2_with fail
    refine (length_eq n 1 HS.out _).mono ?_
    rintro e w1 ⟨rfl, rfl⟩
    go_wp2_with fail
    refine (u8_any g base v _ xs w (by omega) (by omega) hw (by omega) hbase).mono ?_
    rintro e w1 ⟨rfl, hs⟩
    go_wp2
    go_end0
    refine ⟨rfl, ?_⟩
    rw [HL.out]
    exact hs
  by_cases c2 : n < 65536
  · have hl : sizeB n = b8 253 :: low n 2 := by unfold sizeB; rw [if_neg c1, if_pos c2]
    have hs : sizeLen n = 3 := by unfold sizeLen; rw [if_neg c1, if_pos c2]
    have HL := Lib.hid hl; clear hl
    have HS := Lib.hid hs; clear hs
    go_enter Tryd.func22, Tryd.ntmps22
    go_wp2_with fail
    refine (length_eq n 3 HS.out _).mono ?_
    rintro e w1 ⟨rfl, rfl⟩
    go_wp2_with fail
    refine (u8_any g base v _ xs w (by omega) (by omega) hw (by omega) hbase).mono ?_
    rintro e w1 ⟨rfl, v1, hw1, ht1, hb1⟩
    go_wp2_with fail
    refine (u16_any g base v1 _ _ w1 (by omega) (by omega) hw1 (by simp; omega) (Nat.le_trans hbase ht1.size)).mono ?_
    rintro e w2 ⟨rfl, hs⟩
    go_wp2
    go_end0
    refine ⟨rfl, WrStep.next ht1 hb1 ?_⟩
    rw [HL.out]
    simpa using hs
  by_cases c3 : n < 4294967296
  · have hl : sizeB n = b8 254 :: low n 4 := by unfold sizeB; rw [if_neg c1, if_neg c2, if_pos c3]
    have hs : sizeLen n = 5 := by unfold sizeLen; rw [if_neg c1, if_neg c2, if_pos c3]
    have HL := Lib.hid hl; clear hl
    have HS := Lib.hid hs; clear hs
    go_enter Tryd.func22, Tryd.ntmps22
    go_wp2_with fail
    refine (length_eq n 5 HS.out _).mono ?_
    rintro e w1 ⟨rfl, rfl⟩
    go_wp2_with fail
    refine (u8_any g base v _ xs w (by omega) (by omega) hw (by omega) hbase).mono ?_
    rintro e w1 ⟨rfl, v1, hw1, ht1, hb1⟩
    go_wp2_with fail
    refine (u32_any g base v1 _ _ w1 (by omega) (by omega) hw1 (by simp; omega) (Nat.le_trans hbase ht1.size)).mono ?_
    rintro e w2 ⟨rfl, hs⟩
    go_wp2
    go_end0
    refine ⟨rfl, WrStep.next ht1 hb1 ?_⟩
    rw [HL.out]
    simpa using hs
  · have hl : sizeB n = b8 255 :: low n 8 := by unfold sizeB; rw [if_neg c1, if_neg c2, if_neg c3]
    have hs : sizeLen n = 9 := by unfold sizeLen; rw [if_neg c1, if_neg c2, if_neg c3]
    have HL := Lib.hid hl; clear hl
    have HS := Lib.hid hs; clear hs
    go_enter Tryd.func22, Tryd.ntmps22
    go_wp2_with fail
    refine (length_eq n 9 HS.out _).mono ?_
    rintro e w1 ⟨rfl, rfl⟩
    go_wp2_with fail
    refine (u8_any g base v _ xs w (by omega) (by omega) hw (by omega) hbase).mono ?_
    rintro e w1 ⟨rfl, v1, hw1, ht1, hb1⟩
    go_wp2_with fail
    refine (u64_any g base v1 _ _ w1 (by omega) (by omega) hw1 (by simp; omega) (Nat.le_trans hbase ht1.size)).mono ?_
    rintro e w2 ⟨rfl, hs⟩
    go_wp2
    go_end0
    refine ⟨rfl, WrStep.next ht1 hb1 ?_⟩
    rw [HL.out]
    simpa using hs

theorem Byt.form {w : World} {B : Nat} {v : Value} {xs : List UInt8} (h : Byt w B v xs) : ∃ A c, v = .slice A xs.length c := by
  obtain ⟨A, c, hv, _⟩ := h
  exact ⟨A, c, hv⟩

set_option maxHeartbeats 400000 in
theorem bytes_any (g base B : Nat) (v x : Value) (xs ys : List UInt8) (w : World) (hw : Wr w g base v xs) (hr : Byt w B x ys) (hlen : xs.length ≤ 47000) (hy : ys.length ≤ 1000) (hbase : base ≤ w.heap.size)
    (hB : B ≤ w.heap.size) (hgB : B ≤ g) (hvB : ∀ k, v.ownBlock = some k → B ≤ k) :
    Calls Tryd.prog 4 #[.pointer (some ⟨g, 0, none⟩), x] w (WrPost w g base v (xs ++ (sizeB ys.length ++ ys))) := by
  obtain ⟨A, c, rfl⟩ := hr.form
  have hsl := sizeB_le ys.length
  go_enter Tryd.func4, Tryd.ntmps4
  go_wp2_with fail
  refine (size_any g base v _ xs w (by omega) (by omega) hw (by omega) hbase).mono ?_
  rintro e w1 ⟨rfl, v1, hw1, ht1, hb1⟩
  have hr1 : Byt w1 B (.slice A ys.length c) ys := hr.below (ht1.below_of hB (fun i hi h => by rcases h with h | h; omega; have := hvB _ h; omega))
  go_wp2_with fail
  refine (raw_any g base B v1 _ _ ys w1 hw1 hr1 (by simp; omega) (Nat.le_trans hbase ht1.size)).mono ?_
  rintro e w2 ⟨rfl, hs⟩
  go_wp2
  go_end0
  refine ⟨rfl, WrStep.next ht1 hb1 ?_⟩
  rw [← List.append_assoc]
  exact hs

end Go.Proofs.YtjdicifickjggaaDoor

/-
  What Clone, Out and the references' own byte functions do. Conditions: sizes within the reach.
-/
namespace Go.Proofs.YtjdicifickjggaaDoor
open Go.RowKit

/-- A call that hands back a new row of these bytes, and turns nothing that was there. -/
def Fresh (w : World) (xs : List UInt8) (e : Ending) (w' : World) : Prop :=
  ∃ A c, e = .returned (.slice A xs.length c) ∧ w'.ownsRow w.heap.size 5 1 (.slice A xs.length c) xs.length (xs.map bv) ∧ Below w.heap.size w w'

theorem fresh_of {w w' : World} {v : Value} {xs : List UInt8} (h : w'.ownsRow w.heap.size 5 1 v xs.length (xs.map bv)) (hb : Below w.heap.size w w') : Fresh w xs (.returned v) w' := by
  obtain ⟨A, c, rfl⟩ := own_form h
  exact ⟨A, c, rfl, h, hb⟩

set_option maxHeartbeats 400000 in
theorem clone_any (B : Nat) (x : Value) (xs : List UInt8) (w : World) (hr : Byt w B x xs) (hlen : xs.length ≤ 140737488355328) :
    Calls Tryd.prog 28 #[x] w (Fresh w xs) := by
  obtain ⟨i0, hi, hz0, hz1, hz2⟩ := info_parts info_u8
  obtain ⟨A, c, hx⟩ := hr.form
  subst hx
  rcases A with _ | ad
  · have hnil : xs = [] := by
      obtain ⟨A', c', e, _, _, hA, _⟩ := hr
      exact (hA (Value.slice.inj e).1.symm).1
    subst hnil
    have hq := Lib.run_eql_slice_nil (P := Tryd.prog) w 24 5 none 0 c 0 0 slice_u8
    go_enter Tryd.func28, Tryd.ntmps28
    go_wp2
    go_ret
    exact fresh_of (World.ownsRow_nil _ _ _ _) (Below.refl _ _)
  · have hq := Lib.run_eql_slice_nil (P := Tryd.prog) w 24 5 (some ad) xs.length c 0 0 slice_u8
    have hr1 : Byt (w.alloc (.cells #[] 5)) B (.slice (some ad) xs.length c) xs := by
      obtain ⟨A', c', e, h1, h2, h3, h4⟩ := hr
      refine ⟨A', c', e, h1, h2, h3, fun hne => ?_⟩
      obtain ⟨b, o, e1, hb, hc⟩ := h4 hne
      exact ⟨b, o, e1, hb, fun j u hu => cell_later (Below.alloc (Below.refl _ _) (Nat.le_refl _) _) (hc j u hu)⟩
    have hown : (w.alloc (.cells #[] 5)).ownsRow w.heap.size 5 1 (.slice (some ⟨w.heap.size, 0, none⟩) 0 0) 0 [] :=
      World.ownsRow_made w #[] 0 (Nat.le_refl _) (by unfold maxLen; omega) rfl
    go_enter Tryd.func28, Tryd.ntmps28
    go_wp2_with (at_builtin; refine wpList_append_bytes rfl (.tmp 5) (.tmp 6) 24 rfl w.heap.size 5 i0 slice_u8 hi hz0 hz1 hz2 _ 0 [] rfl hown B _ xs rfl hr1 (by omega) (by simp) ?_; intro v1 w1 hown1 hg1 hat1; obtain ⟨A1, c1, rfl⟩ := own_form hown1)
    go_ret
    rw [Nat.zero_add] at *
    exact fresh_of hown1 ((Below.alloc (Below.refl _ _) (Nat.le_refl _) _).grown hg1 (by simp) (fun k hk => by cases hk; exact Nat.le_refl _))

theorem Wr.byt {w : World} {g base : Nat} {v : Value} {xs : List UInt8} (h : Wr w g base v xs) : Byt w w.heap.size v xs := Byt.of_own h.2

set_option maxHeartbeats 400000 in
theorem out_any (g base : Nat) (v : Value) (xs : List UInt8) (w : World) (hw : Wr w g base v xs) (hlen : xs.length ≤ 60000) :
    Calls Tryd.prog 10 #[.pointer (some ⟨g, 0, none⟩)] w (Fresh w xs) := by
  have hc := hw.cell
  obtain ⟨A, c, rfl⟩ := own_form hw.2
  go_enter Tryd.func10, Tryd.ntmps10
  go_wp2_with fail
  refine (clone_any w.heap.size _ xs w hw.byt (by omega)).mono ?_
  rintro e w1 ⟨A1, c1, rfl, hown1, hb1⟩
  go_wp2
  go_ret
  exact ⟨_, _, rfl, hown1, hb1⟩

set_option maxHeartbeats 400000 in
theorem equal_any (B B' : Nat) (x y : Value) (xs ys : List UInt8) (w : World) (hx : Byt w B x xs) (hy : Byt w B' y ys) :
    Calls Tryd.prog 19 #[x, y] w fun e w' => e = .returned (.bool (xs == ys)) ∧ w = w' := by
  have h1 := run_string_of (P := Tryd.prog) w 24 9 5 slice_u8 Tryd.underlying5 Tryd.underlying9 B x xs hx
  have h2 := run_string_of (P := Tryd.prog) w 24 9 5 slice_u8 Tryd.underlying5 Tryd.underlying9 B' y ys hy
  go_enter Tryd.func19, Tryd.ntmps19
  go_wp2
  go_ret
  exact ⟨rfl, rfl⟩

theorem equal_yes (B B' : Nat) (x y : Value) (xs ys : List UInt8) (w : World) (hx : Byt w B x xs) (hy : Byt w B' y ys) (h : xs = ys) :
    Calls Tryd.prog 19 #[x, y] w fun e w' => e = .returned (.bool true) ∧ w = w' :=
  (equal_any B B' x y xs ys w hx hy).mono fun _ _ ⟨he, hw⟩ => ⟨by rw [he, h]; simp, hw⟩

theorem Byt.take_ {w : World} {B c : Nat} {A : Option Addr} {xs : List UInt8} (h : Byt w B (.slice A xs.length c) xs) {k : Nat} (hk : k ≤ xs.length) : Byt w B (.slice A k c) (xs.take k) := by
  obtain ⟨A', c', e, h1, h2, h3, h4⟩ := h
  injection e with e1 e2 e3
  subst e1 e3
  refine ⟨A, c, by rw [List.length_take, Nat.min_eq_left hk], by rw [List.length_take]; omega, h2, fun h => ?_, fun hne => ?_⟩
  · obtain ⟨rfl, hc⟩ := h3 h
    exact ⟨by simp, hc⟩
  · obtain ⟨b, o, e1, hb, hc⟩ := h4 (by rintro rfl; simp at hne)
    refine ⟨b, o, e1, hb, fun j u hu => hc j u ?_⟩
    rw [List.getElem?_take] at hu
    split at hu
    · exact hu
    · cases hu

theorem low_split (m : Int) (k : Nat) (hk : 0 < k) : low m k = b8 m :: low (m / 256) (k - 1) := by
  obtain ⟨k, rfl⟩ : ∃ j, k = j + 1 := ⟨k - 1, by omega⟩
  rfl

theorem low_step {n m : Int} {k : Nat} {zs : List UInt8} (hlt : zs.length < k) (h : low n k = zs ++ low m (k - zs.length)) : low n k = (zs ++ [b8 m]) ++ low (m / 256) (k - (zs ++ [b8 m]).length) := by
  rw [h, low_split m _ (by omega), List.length_append]
  simp
  congr 1

set_option maxHeartbeats 400000 in
theorem low_any (n : Int) (k : Nat) (w : World) (h0 : 0 ≤ n) (h1 : n < 18446744073709551616) (hk : k ≤ 8) :
    Calls Tryd.prog 7 #[.int .u64 n, .int .i64 (k : Int)] w (Fresh w (low n k)) := by
  obtain ⟨i0, hi, hz0, hz1, hz2⟩ := info_parts info_u8
  go_enter Tryd.func7, Tryd.ntmps7
  go_wp2
  go_loopw [0, 5, 6] (fun x v i wr => ∃ (m : Int) (zs : List UInt8), zs.length ≤ k ∧ i = .int .i64 (zs.length : Int) ∧ x = .int .u64 m ∧ 0 ≤ m ∧ m < 18446744073709551616 ∧ Hid (low n k = zs ++ low m (k - zs.length)) ∧
      wr.ownsRow w.heap.size 5 1 v zs.length (zs.map bv) ∧ Below w.heap.size w wr)
    (fun _ _ i _ => k - (intOf i).toNat)
  case atStart => exact ⟨n, [], by simp, rfl, rfl, h0, h1, rfl, World.ownsRow_nil _ _ _ _, Below.refl _ _⟩
  case round =>
    obtain ⟨m, zs, hz, rfl, rfl, hm0, hm1, hlow, hown, hbel⟩ := hrel
    by_cases hlt : zs.length < k
    · have hmade : Byt (wr.alloc (.cells #[.int .u8 (m % 256)] 5)) (wr.heap.size + 1) (.slice (some ⟨wr.heap.size, 0, none⟩) 1 1) [b8 m] := Byt.made wr _ [_] [b8 m] (by simp [bv_b8]) (by unfold maxLen; simp)
      go_wp2_with (at_builtin; refine wpList_append_bytes rfl (.tmp 12) (.tmp 16) 24 rfl w.heap.size 5 i0 slice_u8 hi hz0 hz1 hz2 _ zs.length (zs.map bv) rfl (hown.alloc _) (wr.heap.size + 1) _ [b8 m] rfl hmade (by simp; omega) (by have := hbel.size; simp; omega) ?_; intro v1 w1 hown1 hg1 hat1)
      have hstep := low_step hlt hlow.out
      have HS := Lib.hid hstep
      clear hstep
      have hb1 : Below w.heap.size w w1 := (hbel.alloc hbel.size _).grown hg1 (by have := hbel.size; simp; omega) (fun j hj => (hown.lt j hj).1)
      go_roundw
      case rel => exact ⟨m / 256, zs ++ [b8 m], by simp; omega, by simp, rfl, by omega, by omega, HS, by simpa using hown1, hb1⟩
      case measure => simp [intOf]; omega
    · go_wp2
      go_ret
      have hzk : zs.length = k := by omega
      have : low n k = zs := by
        have h := hlow.out
        rw [hzk, Nat.sub_self] at h
        simpa [low] using h
      rw [this]
      exact fresh_of hown hbel


theorem own_made (w : World) (e : TypeId) (l : List Value) (ys : List UInt8) (h : l = ys.map bv) (hl : ys.length ≤ maxLen) :
    (w.alloc (.cells l.toArray e)).ownsRow w.heap.size e 1 (.slice (some ⟨w.heap.size, 0, none⟩) ys.length ys.length) ys.length (ys.map bv) := by
  refine ⟨by simp, .inr ⟨w.heap.size, ys.length, l.toArray, rfl, Nat.le_refl _, heap_alloc_new w _, Nat.le_refl _, hl, by simp [h], ?_⟩⟩
  rw [h]
  exact List.take_of_length_le (by simp)

theorem Fresh.pre {w w1 w2 : World} {xs : List UInt8} {e : Ending} (hb : Below w.heap.size w w1) (h : Fresh w1 xs e w2) : Fresh w xs e w2 := by
  obtain ⟨A, c, he, hown, hb2⟩ := h
  refine ⟨A, c, he, ⟨hown.1, ?_⟩, hb.trans (hb2.mono hb.size)⟩
  rcases hown.2 with h | ⟨g, cap, cur, hv, hg, r⟩
  · exact .inl h
  · exact .inr ⟨g, cap, cur, hv, Nat.le_trans hb.size hg, r⟩

theorem low_num (n : Int) (k : Nat) (q : Int) (hq : q = k) (w : World) (h0 : 0 ≤ n) (h1 : n < 18446744073709551616) (hk : k ≤ 8) :
    Calls Tryd.prog 7 #[.int .u64 n, .int .i64 q] w (Fresh w (low n k)) := by
  subst hq
  exact low_any n k w h0 h1 hk

/-- What a longer size's three calls leave: its first byte's row, the number's row behind it, both joined. -/
theorem size_join {w w1 w2 : World} {b : UInt8} {l : List Value} {zs : List UInt8} {A : Option Addr} {c : Nat} {v2 : Value} (_hl : l = [b].map bv)
    (hb1 : Below (w.alloc (.cells l.toArray 5)).heap.size (w.alloc (.cells l.toArray 5)) w1)
    (_hz : w1.ownsRow (w.alloc (.cells l.toArray 5)).heap.size 5 1 (.slice A zs.length c) zs.length (zs.map bv))
    (hown2 : w2.ownsRow w.heap.size 5 1 v2 (1 + zs.length) ([b].map bv ++ zs.map bv)) (hg2 : w1.grownBy w2 (some w.heap.size)) : Fresh w (b :: zs) (.returned v2) w2 := by
  have h := hb1.size
  simp at h
  refine fresh_of (by simpa [Nat.add_comm] using hown2) ?_
  exact (((Below.refl w.heap.size w).alloc (Nat.le_refl _) _).trans (hb1.mono (by simp))).grown hg2 (by omega) (fun k hk => by cases hk; exact Nat.le_refl _)

set_option maxHeartbeats 800000 in
theorem rsize_any (n : Int) (w : World) (h0 : 0 ≤ n) (h1 : n < 18446744073709551616) :
    Calls Tryd.prog 25 #[.int .u64 n] w (Fresh w (sizeB n)) := by
  obtain ⟨i0, hi, hz0, hz1, hz2⟩ := info_parts info_u8
  by_cases c1 : n < 253
  · have hl : sizeB n = [b8 n] := by unfold sizeB; rw [if_pos c1]
    have hm := own_made w 5 [.int .u8 n] [b8 n] (by simp [bv_b8_of h0 (by omega : n < 256)]) (by unfold maxLen; simp)
    have HL := Lib.hid hl; clear hl
    go_enter Tryd.func25, Tryd.ntmps25
    go_wp2
    go_ret
    rw [HL.out]
    exact fresh_of hm ((Below.refl _ _).alloc (Nat.le_refl _) _)
  by_cases c2 : n < 65536
  · have hl : sizeB n = b8 253 :: low n 2 := by unfold sizeB; rw [if_neg c1, if_pos c2]
    have hm := own_made w 5 [.int .u8 253] [b8 253] rfl (by unfold maxLen; simp)
    have HL := Lib.hid hl; clear hl
    go_enter Tryd.func25, Tryd.ntmps25
    go_wp2_with fail
    refine (low_num n 2 _ rfl _ h0 h1 (by omega)).mono ?_
    rintro e w1 ⟨A, c, rfl, hown, hb1⟩
    have hm1 := own_turns hm (Turns.of_below (S := fun _ => False) hb1) (fun _ _ h => h)
    go_wp2_with (at_builtin; refine wpList_append_bytes rfl (.tmp 12) (.tmp 14) 24 rfl w.heap.size 5 i0 slice_u8 hi hz0 hz1 hz2 _ 1 _ rfl hm1 w1.heap.size _ (low n 2) rfl (Byt.of_own hown) (by simp [low_length]) (by have := hb1.size; simp at this; omega) ?_; intro v2 w2 hown2 hg2 hat2)
    go_ret
    rw [HL.out]
    exact size_join rfl hb1 hown hown2 hg2
  by_cases c3 : n < 4294967296
  · have hl : sizeB n = b8 254 :: low n 4 := by unfold sizeB; rw [if_neg c1, if_neg c2, if_pos c3]
    have hm := own_made w 5 [.int .u8 254] [b8 254] rfl (by unfold maxLen; simp)
    have HL := Lib.hid hl; clear hl
    go_enter Tryd.func25, Tryd.ntmps25
    go_wp2_with fail
    refine (low_num n 4 _ rfl _ h0 h1 (by omega)).mono ?_
    rintro e w1 ⟨A, c, rfl, hown, hb1⟩
    have hm1 := own_turns hm (Turns.of_below (S := fun _ => False) hb1) (fun _ _ h => h)
    go_wp2_with (at_builtin; refine wpList_append_bytes rfl (.tmp 19) (.tmp 21) 24 rfl w.heap.size 5 i0 slice_u8 hi hz0 hz1 hz2 _ 1 _ rfl hm1 w1.heap.size _ (low n 4) rfl (Byt.of_own hown) (by simp [low_length]) (by have := hb1.size; simp at this; omega) ?_; intro v2 w2 hown2 hg2 hat2)
    go_ret
    rw [HL.out]
    exact size_join rfl hb1 hown hown2 hg2
  · have hl : sizeB n = b8 255 :: low n 8 := by unfold sizeB; rw [if_neg c1, if_neg c2, if_neg c3]
    have hm := own_made w 5 [.int .u8 255] [b8 255] rfl (by unfold maxLen; simp)
    have HL := Lib.hid hl; clear hl
    go_enter Tryd.func25, Tryd.ntmps25
    go_wp2_with fail
    refine (low_num n 8 _ rfl _ h0 h1 (by omega)).mono ?_
    rintro e w1 ⟨A, c, rfl, hown, hb1⟩
    have hm1 := own_turns hm (Turns.of_below (S := fun _ => False) hb1) (fun _ _ h => h)
    go_wp2_with (at_builtin; refine wpList_append_bytes rfl (.tmp 23) (.tmp 25) 24 rfl w.heap.size 5 i0 slice_u8 hi hz0 hz1 hz2 _ 1 _ rfl hm1 w1.heap.size _ (low n 8) rfl (Byt.of_own hown) (by simp [low_length]) (by have := hb1.size; simp at this; omega) ?_; intro v2 w2 hown2 hg2 hat2)
    go_ret
    rw [HL.out]
    exact size_join rfl hb1 hown hown2 hg2

set_option maxHeartbeats 400000 in
theorem rtext_any (B : Nat) (x : Value) (ys : List UInt8) (w : World) (hr : Byt w B x ys) (hB : B ≤ w.heap.size) (hy : ys.length ≤ 60000) :
    Calls Tryd.prog 6 #[x] w (Fresh w (sizeB ys.length ++ ys)) := by
  obtain ⟨i0, hi, hz0, hz1, hz2⟩ := info_parts info_u8
  obtain ⟨A, c, rfl⟩ := hr.form
  have hsl := sizeB_le ys.length
  go_enter Tryd.func6, Tryd.ntmps6
  go_wp2_with fail
  refine (rsize_any _ _ (by omega) (by omega)).mono ?_
  rintro e w1 ⟨A1, c1, rfl, hown, hb1⟩
  have hr1 := hr.below (hb1.mono hB)
  go_wp2_with (at_builtin; refine wpList_append_bytes rfl (.tmp 6) (.tmp 7) 24 rfl w.heap.size 5 i0 slice_u8 hi hz0 hz1 hz2 _ _ _ rfl hown B _ ys rfl hr1 (by omega) hb1.size ?_; intro v2 w2 hown2 hg2 hat2)
  go_ret
  refine fresh_of (by simpa using hown2) (hb1.grown hg2 hb1.size (fun k hk => (hown.lt k hk).1))

end Go.Proofs.YtjdicifickjggaaDoor

/-
  What the reader's inner functions do, said of bytes in memory: each either answers and moves on, or gives up with a fault. Conditions: sizes within the reach.
-/
namespace Go.Proofs.YtjdicifickjggaaDoor
open Go.RowKit Go.Maps

/-- The number of bytes, the lowest first. -/
def val : List UInt8 → Int
  | [] => 0
  | b :: bs => b.toNat + 256 * val bs
theorem val_bd (xs : List UInt8) : 0 ≤ val xs ∧ val xs < 256 ^ xs.length := by
  induction xs with
  | nil => simp [val]
  | cons b bs ih =>
    have hb := b.toNat_lt
    simp only [val, List.length_cons, Int.pow_succ]
    omega
theorem val_snoc (xs : List UInt8) (b : UInt8) : val (xs ++ [b]) = val xs + 256 ^ xs.length * b.toNat := by
  induction xs with
  | nil => simp [val]
  | cons c cs ih =>
    simp only [List.cons_append, val, ih, List.length_cons, Int.pow_succ, Int.mul_add]
    rw [← Int.mul_assoc, Int.mul_comm 256 (256 ^ cs.length)]
    omega
theorem val_le8 {xs : List UInt8} (h : xs.length ≤ 8) : val xs < 18446744073709551616 := by
  have h1 := (val_bd xs).2
  have h2 : (256 : Nat) ^ xs.length ≤ 256 ^ 8 := Nat.pow_le_pow_right (by decide) h
  have h3 : (256 : Nat) ^ 8 = 18446744073709551616 := by decide
  have h4 : ((256 ^ xs.length : Nat) : Int) = (256 : Int) ^ xs.length := Int.natCast_pow _ _
  omega

theorem or_nat64 (a b : Nat) (ha : a < 18446744073709551616) (hb : b < 18446744073709551616) : bits .or .u64 (a : Int) (b : Int) = ((a ||| b : Nat) : Int) := Go.u64_or_nat a b ha hb

/-- One byte more: the 'or' is a sum. -/
theorem or_step {a : Int} {b : UInt8} {j : Nat} (h0 : 0 ≤ a) (h1 : a < 256 ^ j) (hj : j < 8) :
    bits .or .u64 a (IntKind.u64.wrap ((b.toNat : Int) * 2 ^ (8 * j))) = a + 256 ^ j * b.toNat := by
  obtain ⟨m, rfl⟩ := Int.eq_ofNat_of_zero_le h0
  have hb := b.toNat_lt
  have hpow : (2 : Nat) ^ (8 * j) = 256 ^ j := by rw [Nat.pow_mul]
  have hI : ((256 ^ j : Nat) : Int) = (256 : Int) ^ j := Int.natCast_pow _ _
  have hI2 : ((2 ^ (8 * j) : Nat) : Int) = (2 : Int) ^ (8 * j) := Int.natCast_pow _ _
  have hm : m < 2 ^ (8 * j) := by
    rw [hpow]
    rw [← hI] at h1
    exact Int.ofNat_lt.1 h1
  have hle : 2 ^ (8 * j) ≤ 72057594037927936 := by
    have : 2 ^ (8 * j) ≤ 2 ^ 56 := Nat.pow_le_pow_right (by decide) (by omega)
    have h2 : (2 : Nat) ^ 56 = 72057594037927936 := by decide
    omega
  have hprod : b.toNat * 2 ^ (8 * j) < 18446744073709551616 := by
    have h2 : b.toNat * 2 ^ (8 * j) ≤ 255 * 72057594037927936 := Nat.mul_le_mul (by omega) hle
    omega
  have hcast : ((b.toNat : Int) * 2 ^ (8 * j)) = ((b.toNat * 2 ^ (8 * j) : Nat) : Int) := by rw [Int.natCast_mul, hI2]
  have hw : IntKind.u64.wrap ((b.toNat * 2 ^ (8 * j) : Nat) : Int) = ((b.toNat * 2 ^ (8 * j) : Nat) : Int) := by
    rw [IntKind.wrap_u64]
    omega
  rw [hcast, hw, or_nat64 _ _ (by omega) hprod]
  rw [Nat.or_comm, Nat.mul_comm b.toNat, ← Nat.two_pow_add_eq_or_of_lt hm, hpow, Int.natCast_add, Int.natCast_mul, hI]
  omega

/-- What a step that fails panics with. -/
def flt (n : Int) : List PanicEntry := [{ v := .iface 90 (.agg #[.int .i64 n]), recovered := false }]

set_option maxHeartbeats 400000 in
theorem fail_any (n : Int) (w : World) :
    Calls Tryd.prog 47 #[.int .i64 n] w fun e w' => e = .panicked (flt n) ∧ w = w' := by
  go_enter Tryd.func47, Tryd.ntmps47
  go_wp2
  exact ⟨rfl, rfl, rfl⟩

/-- A reader at block r: its first error is k, and the bytes xs are left, in a block below B. -/
def Cu (w : World) (r B : Nat) (v : Value) (k : Int) (xs : List UInt8) : Prop :=
  w.heap[r]? = some (.cells #[v, .int .i64 k] 76 (0, 0)) ∧ Byt w B v xs ∧ B ≤ r

section
variable {w w' : World} {r B : Nat} {v : Value} {k : Int} {xs : List UInt8}
theorem Cu.cell (h : Cu w r B v k xs) : w.cell? ⟨r, 0, none⟩ = some v := cell_of_row w r 0 _ _ _ h.1
theorem Cu.cell1 (h : Cu w r B v k xs) : w.cell? ⟨r, 1, none⟩ = some (.int .i64 k) := cell_of_row w r 1 _ _ _ h.1
theorem Cu.free (h : Cu w r B v k xs) (j : Nat) : w.frozen? ⟨r, j, none⟩ = false := by
  have h1 := h.1
  simp [World.frozen?, h1]
theorem Cu.lt (h : Cu w r B v k xs) : r < w.heap.size := (Array.getElem?_eq_some_iff.1 h.1).1
theorem Cu.turns {S : Nat → Prop} (h : Cu w r B v k xs) (ht : Turns S w w') (hr : ¬ S r) (hS : ∀ i, i < B → ¬ S i) : Cu w' r B v k xs := by
  have hlt := h.lt
  obtain ⟨h1, h2, h3⟩ := h
  exact ⟨(ht.block r hlt hr).trans h1, h2.keep fun b o hb => ht.cell (p := ⟨b, o, none⟩) (by show b < _; omega) (hS b hb), h3⟩
theorem Cu.alloc (h : Cu w r B v k xs) (o : Obj) : Cu (w.alloc o) r B v k xs := h.turns ((Turns.refl (fun _ => False) w).alloc o) (fun h => h) (fun _ _ h => h)
theorem Cu.below (h : Cu w r B v k xs) (hb : Below w.heap.size w w') : Cu w' r B v k xs := h.turns (Turns.of_below (S := fun _ => False) hb) (fun h => h) (fun _ _ h => h)
/-- The reader's bytes are cut. -/
theorem Cu.set (h : Cu w r B v k xs) {v' : Value} {ys : List UInt8} (hy : Byt w B v' ys) : Cu (w.setCell ⟨r, 0, none⟩ v') r B v' k ys := by
  obtain ⟨h1, h2, h3⟩ := h
  refine ⟨by simp [World.setCell, Array.getElem?_modify, h1], hy.keep fun b o hb => ?_, h3⟩
  exact World.cell?_setCell_other _ _ _ _ (by intro e; injection e with e; omega)
theorem turns_set (w : World) (r : Nat) (j : Nat) (u : Value) : Turns (fun i => i = r) w (w.setCell ⟨r, j, none⟩ u) := (Turns.refl (fun i => i = r) w).setCell (p := ⟨r, j, none⟩) (fun _ => rfl) u
end

/-- An inner function answers u, and ys are left. -/
def Goes (w : World) (r B : Nat) (k : Int) (u : Value) (ys : List UInt8) (e : Ending) (w' : World) : Prop :=
  e = .returned u ∧ ∃ v', Cu w' r B v' k ys ∧ Turns (fun i => i = r) w w'
/-- It gives up with the error c; the reader's bytes may be cut. -/
def Stops (w : World) (r B : Nat) (k c : Int) (e : Ending) (w' : World) : Prop :=
  e = .panicked (flt c) ∧ ∃ v' ys, Cu w' r B v' k ys ∧ Turns (fun i => i = r) w w'

theorem Goes.pre {w w1 w2 : World} {r B : Nat} {k : Int} {u : Value} {ys : List UInt8} {e : Ending} (ht : Turns (fun i => i = r) w w1) (h : Goes w1 r B k u ys e w2) : Goes w r B k u ys e w2 := by
  obtain ⟨he, v', hc, ht2⟩ := h
  exact ⟨he, v', hc, ht.trans ht2 (fun _ _ h => h)⟩
theorem Stops.pre {w w1 w2 : World} {r B : Nat} {k c : Int} {e : Ending} (ht : Turns (fun i => i = r) w w1) (h : Stops w1 r B k c e w2) : Stops w r B k c e w2 := by
  obtain ⟨he, v', ys, hc, ht2⟩ := h
  exact ⟨he, v', ys, hc, ht.trans ht2 (fun _ _ h => h)⟩

theorem Byt.drop_ {w : World} {B c : Nat} {A : Option Addr} {xs : List UInt8} (h : Byt w B (.slice A xs.length c) xs) {k : Nat} (hk : k ≤ xs.length) (_hc : c ≠ k) :
    Byt w B (.slice (A.map (fun x => x.add k)) (xs.length - k) (c - k)) (xs.drop k) := by
  obtain ⟨A', c', e, h1, h2, h3, h4⟩ := h
  injection e with e1 e2 e3
  subst e1 e3
  refine ⟨_, _, by rw [List.length_drop], by rw [List.length_drop]; omega, by omega, fun h => ?_, fun hne => ?_⟩
  · cases A with
    | none => obtain ⟨rfl, hc0⟩ := h3 rfl; exact ⟨by simp, by omega⟩
    | some a => cases h
  · obtain ⟨b, o, rfl, hb, hcell⟩ := h4 (by rintro rfl; simp at hne)
    have hadd : (⟨b, o, none⟩ : Addr).add k = ⟨b, o + k, none⟩ := by
      unfold Addr.add
      split <;> simp_all
    refine ⟨b, o + k, by simp [hadd], hb, fun j u hu => ?_⟩
    rw [Nat.add_assoc]
    exact hcell _ u (by rw [← hu, List.getElem?_drop])
theorem Byt.drop_all {w : World} {B c : Nat} {A : Option Addr} {xs : List UInt8} (h : Byt w B (.slice A xs.length c) xs) {k : Nat} (hk : k ≤ xs.length) (hc : c = k) :
    Byt w B (.slice A (xs.length - k) 0) (xs.drop k) := by
  obtain ⟨A', c', e, h1, h2, h3, h4⟩ := h
  injection e with e1 e2 e3
  subst e1 e3
  have hd : xs.drop k = [] := List.drop_of_length_le (by omega)
  rw [hd]
  refine ⟨A, 0, by rw [List.length_nil]; congr 1; omega, Nat.le_refl _, by unfold maxLen; omega, fun _ => ⟨rfl, rfl⟩, fun h => absurd rfl h⟩

theorem Byt.cap {w : World} {B c : Nat} {A : Option Addr} {xs : List UInt8} (h : Byt w B (.slice A xs.length c) xs) : xs.length ≤ c ∧ c ≤ 9223372036854775807 := by
  obtain ⟨A', c', e, h1, h2, _⟩ := h
  injection e with e1 e2 e3
  subst e3
  unfold maxLen at h2
  exact ⟨h1, h2⟩

set_option maxHeartbeats 800000 in
theorem take_ok (r B : Nat) (v : Value) (k n : Int) (xs : List UInt8) (w : World) (h0 : 0 ≤ n) (h1 : n ≤ xs.length) (hc : Cu w r B v k xs) :
    Calls Tryd.prog 48 #[.pointer (some ⟨r, 0, none⟩), .int .i64 n] w fun e w' => ∃ A c, Goes w r B k (.slice A n.toNat c) (xs.drop n.toNat) e w' ∧ Byt w' B (.slice A n.toNat c) (xs.take n.toNat) := by
  obtain ⟨A, c, rfl⟩ := hc.2.1.form
  have hcell := hc.cell
  have hfr := hc.free 0
  obtain ⟨hc1, hc2⟩ := hc.2.1.cap
  go_enter Tryd.func48, Tryd.ntmps48
  go_wp2
  all_goals go_ret
  · have hcn : c = n.toNat := by assumption
    subst hcn
    have hcu := hc.set (Byt.drop_all hc.2.1 (k := n.toNat) (by omega) rfl)
    refine ⟨A, n.toNat, ⟨rfl, _, hcu, turns_set _ _ _ _⟩, ?_⟩
    exact (Byt.take_ hc.2.1 (by omega)).keep fun b o hb => World.cell?_setCell_other _ _ _ _ (by intro e; injection e with e; have := hc.2.2; omega)
  · have hcn : ¬ c = n.toNat := by assumption
    have hcu := hc.set (Byt.drop_ hc.2.1 (k := n.toNat) (by omega) hcn)
    refine ⟨A, c, ⟨rfl, _, hcu, turns_set _ _ _ _⟩, ?_⟩
    exact (Byt.take_ hc.2.1 (by omega)).keep fun b o hb => World.cell?_setCell_other _ _ _ _ (by intro e; injection e with e; have := hc.2.2; omega)

set_option maxHeartbeats 400000 in
theorem take_end (r B : Nat) (v : Value) (k n : Int) (xs : List UInt8) (w : World) (h1 : xs.length < n) (hc : Cu w r B v k xs) :
    Calls Tryd.prog 48 #[.pointer (some ⟨r, 0, none⟩), .int .i64 n] w (Stops w r B k 4) := by
  obtain ⟨A, c, rfl⟩ := hc.2.1.form
  have hcell := hc.cell
  have hfr := hc.free 0
  obtain ⟨hc1, hc2⟩ := hc.2.1.cap
  go_enter Tryd.func48, Tryd.ntmps48
  go_wp2_with fail
  refine (fail_any _ _).mono ?_
  rintro e w1 ⟨rfl, rfl⟩
  go_wp2
  exact ⟨rfl, rfl, _, _, hc, Turns.refl _ _⟩

end Go.Proofs.YtjdicifickjggaaDoor

/-
  What the reader's inner functions that read numbers, sizes and lists do. Conditions: sizes within the reach.
-/
namespace Go.Proofs.YtjdicifickjggaaDoor
open Go.RowKit Go.Maps

theorem take_nat (r B : Nat) (v : Value) (k : Int) (n : Nat) (xs : List UInt8) (w : World) (h1 : n ≤ xs.length) (hc : Cu w r B v k xs) :
    Calls Tryd.prog 48 #[.pointer (some ⟨r, 0, none⟩), .int .i64 (n : Int)] w fun e w' => ∃ A c, Goes w r B k (.slice A n c) (xs.drop n) e w' ∧ Byt w' B (.slice A n c) (xs.take n) :=
  (take_ok r B v k n xs w (by omega) (by omega) hc).mono fun e w' h => by simpa using h

theorem val_take_snoc {ts : List UInt8} {j : Nat} (h : j < ts.length) : val (ts.take (j + 1)) = val (ts.take j) + 256 ^ j * (ts[j]).toNat := by
  rw [List.take_succ_eq_append_getElem h, val_snoc, List.length_take, Nat.min_eq_left (Nat.le_of_lt h)]

set_option maxHeartbeats 800000 in
theorem number_ok (r B : Nat) (v : Value) (k : Int) (n : Nat) (xs : List UInt8) (w : World) (hn0 : 0 < n) (hn8 : n ≤ 8) (h1 : n ≤ xs.length) (hc : Cu w r B v k xs) :
    Calls Tryd.prog 50 #[.pointer (some ⟨r, 0, none⟩), .int .i64 (n : Int)] w (Goes w r B k (.int .u64 (val (xs.take n))) (xs.drop n)) := by
  go_enter Tryd.func50, Tryd.ntmps50
  go_wp2_with fail
  refine (take_nat r B v k n xs w h1 hc).mono ?_
  rintro e w1 ⟨A, c, ⟨rfl, hgo⟩, hby⟩
  obtain ⟨ts, hts⟩ : ∃ ts, ts = xs.take n := ⟨_, rfl⟩
  have hlen : ts.length = n := by rw [hts, List.length_take]; omega
  rw [← hts] at hby
  obtain ⟨A', c', e0, _, _, _, h4⟩ := hby
  injection e0 with e1 e2 e3
  obtain ⟨b, o, rfl, _, hcell⟩ := h4 (by rintro rfl; simp at hlen; omega)
  subst e1
  have HL := Lib.hid hlen
  have HC := Lib.hid hcell
  have HT := Lib.hid hts
  have HG := Lib.hid hgo
  clear hlen hcell hts hgo e2 e3 h4
  go_wp2_with fail
  go_loop [5, 12] (fun x i => ∃ j : Nat, j ≤ n ∧ i = .int .i64 (j : Int) ∧ x = .int .u64 (val (ts.take j))) (fun _ i => n - (intOf i).toNat)
  case atStart => exact ⟨0, Nat.zero_le _, rfl, rfl⟩
  case round =>
    obtain ⟨j, hj, rfl, rfl⟩ := hrel
    have hbd := val_bd (ts.take j)
    have hjl : (ts.take j).length = j := by rw [List.length_take, HL.out]; omega
    rw [hjl] at hbd
    have hb1 := hbd.1
    have hb2 := val_le8 (xs := ts.take j) (by omega)
    have HB := Lib.hid hbd
    clear hbd hjl
    by_cases hlt : j < n
    · have hcj : w1.cell? ⟨b, o + j, none⟩ = some (.int .u8 ((ts[j]'(by have := HL.out; omega)).toNat : Int)) := HC.out j _ (List.getElem?_eq_getElem (by have := HL.out; omega))
      have hb := (ts[j]'(by have := HL.out; omega)).toNat_lt
      go_wp2
      have hv := or_step (b := ts[j]'(by have := HL.out; omega)) HB.out.1 HB.out.2 (by omega : j < 8)
      rw [← val_take_snoc] at hv
      refine ⟨⟨j + 1, by omega, by go_num, by rw [hv]⟩, by simp [intOf]; omega⟩
    · go_wp2
      go_ret
      have hjn : j = n := by omega
      have : val (ts.take j) = val (xs.take n) := by rw [HT.out, hjn, List.take_take, Nat.min_self]
      exact ⟨congrArg (fun q => Ending.returned (.int .u64 q)) this, HG.out⟩

set_option maxHeartbeats 400000 in
theorem number_end (r B : Nat) (v : Value) (k : Int) (n : Int) (xs : List UInt8) (w : World) (h1 : xs.length < n) (hc : Cu w r B v k xs) :
    Calls Tryd.prog 50 #[.pointer (some ⟨r, 0, none⟩), .int .i64 n] w (Stops w r B k 4) := by
  go_enter Tryd.func50, Tryd.ntmps50
  go_wp2_with fail
  refine (take_end r B v k n xs w h1 hc).mono ?_
  rintro e w1 ⟨rfl, hst⟩
  go_wp2
  exact ⟨rfl, rfl, hst⟩

theorem number_num (r B : Nat) (v : Value) (k : Int) (q : Int) (n : Nat) (hq : q = n) (xs : List UInt8) (w : World) (hn0 : 0 < n) (hn8 : n ≤ 8) (h1 : n ≤ xs.length) (hc : Cu w r B v k xs) :
    Calls Tryd.prog 50 #[.pointer (some ⟨r, 0, none⟩), .int .i64 q] w (Goes w r B k (.int .u64 (val (xs.take n))) (xs.drop n)) := by
  subst hq
  exact number_ok r B v k n xs w hn0 hn8 h1 hc

end Go.Proofs.YtjdicifickjggaaDoor
