/-
  Texts joined: Base, Row, Op, Own, AscPure, Asc, Backw, Spell, Places. Conditions: those of each.
-/
import Derived.Test.YtehodjbjioepnaaDoorProg
import Derived.WalkKit
import Derived.WalkSpells
import Derived.WalkLawsBesides
import Derived.Maps.AppendAt
import Derived.Deep.Draws
import Derived.KernelRfl
import Derived.Lib.Hide
import Derived.Deep.DeepCutAuto
import Derived.BigQuiet
import Derived.Deep.QuietTactic
import Derived.IntWalk
import Derived.Deep.RegionHeld
import Derived.OrdersHeld
import Derived.RangeFuncNested
import Derived.RangeFuncBound
import Derived.RangeFuncCalls
import Derived.RangeFuncLeaves
import Derived.RangeFuncBox
import Derived.Shelf.Abstract
import Derived.Shelf.RegionOpen
import Derived.OwnWalkIn
import Derived.TacticsInMore
import Derived.LoopNIn
import Derived.LoopIn
import Derived.Lib.IndexBytes
import Derived.Lib.Bytealg
/-
  Bytes in memory: what it means that a slice value reads as a list of bytes, what a call leaves as it was, and an append onto a row of the call's own. Conditions: none (plain lemmas, over any program).
-/
namespace Go.Proofs.YtehodjbjioepnaaDoor
open Go.RowKit

/-- One byte, as a value. -/
def bv (c : UInt8) : Value := .int .u8 (c.toNat : Int)

theorem bv_inj {a b : UInt8} (h : bv a = bv b) : a = b := by
  unfold bv at h
  injection h with _ h
  exact UInt8.toNat_inj.1 (by omega)

theorem bv_one (c : UInt8) : (bv c).oneCell' = true := rfl

/-- From a to w only blocks of S, and new ones, have turned. -/
structure Turns (S : Nat → Prop) (a w : World) : Prop where
  os : w.os = a.os
  tape : w.tape = a.tape
  output : w.output = a.output
  size : a.heap.size ≤ w.heap.size
  block : ∀ k, k < a.heap.size → ¬ S k → w.heap[k]? = a.heap[k]?

section
variable {S S' : Nat → Prop} {a b c w : World}
theorem Turns.refl (S : Nat → Prop) (a : World) : Turns S a a := ⟨rfl, rfl, rfl, Nat.le_refl _, fun _ _ _ => rfl⟩
theorem Turns.trans (h : Turns S a b) (k : Turns S' b c) (hs : ∀ i, i < a.heap.size → S' i → S i) : Turns S a c :=
  ⟨k.os.trans h.os, k.tape.trans h.tape, k.output.trans h.output, Nat.le_trans h.size k.size,
    fun i hi hn => (k.block i (Nat.lt_of_lt_of_le hi h.size) (fun e => hn (hs i hi e))).trans (h.block i hi hn)⟩
theorem Turns.mono (h : Turns S a b) (hs : ∀ i, i < a.heap.size → S i → S' i) : Turns S' a b := ⟨h.os, h.tape, h.output, h.size, fun i hi hn => h.block i hi (fun e => hn (hs i hi e))⟩
theorem Turns.alloc (h : Turns S a b) (o : Obj) : Turns S a (b.alloc o) :=
  h.trans (S' := fun _ => False) ⟨rfl, rfl, rfl, by simp, fun k hk _ => Below.heap_alloc _ _ _ hk⟩ (fun _ _ h => h.elim)
theorem Turns.drew (h : Turns S a b) : Turns S a b.drew := ⟨h.os, h.tape, h.output, h.size, h.block⟩
theorem Turns.drewN (h : Turns S a b) (n : Nat) : Turns S a (b.drewN n) := ⟨h.os, h.tape, h.output, h.size, h.block⟩
theorem Turns.setCell (h : Turns S a b) {p : Addr} (hp : p.block < a.heap.size → S p.block) (u : Value) : Turns S a (b.setCell p u) :=
  ⟨h.os, h.tape, h.output, by simpa [World.setCell] using h.size, fun k hk hn => (Below.heap_setCell _ _ _ _ (by rintro rfl; exact hn (hp hk))).trans (h.block k hk hn)⟩
theorem Turns.grown (h : Turns S a b) {row : Option Nat} (hg : b.grownBy c row) (hr : ∀ k, row = some k → k < a.heap.size → S k) : Turns S a c :=
  ⟨hg.os.trans h.os, hg.tape.trans h.tape, hg.output.trans h.output, Nat.le_trans h.size hg.size,
    fun k hk hn => (hg.block k (Nat.lt_of_lt_of_le hk h.size) (fun e => hn (hr k e.symm hk))).trans (h.block k hk hn)⟩
theorem Turns.cell (h : Turns S a w) {p : Addr} (hp : p.block < a.heap.size) (hn : ¬ S p.block) : w.cell? p = a.cell? p := World.cell?_of_block (w := a) (h.block p.block hp hn)
theorem Turns.frozen (h : Turns S a w) {p : Addr} (hp : p.block < a.heap.size) (hn : ¬ S p.block) : w.frozen? p = a.frozen? p := World.frozen?_of_block (w := a) (h.block p.block hp hn)
theorem Turns.below (h : Turns S a w) (hs : ∀ i, i < a.heap.size → ¬ S i) : Below a.heap.size a w := ⟨h.os, h.tape, h.output, h.size, fun k hk => h.block k hk (hs k hk)⟩
theorem Turns.of_below (h : Below a.heap.size a w) : Turns S a w := ⟨h.os, h.tape, h.output, h.size, fun k hk _ => h.block k hk⟩
theorem Turns.below_of {B : Nat} (h : Turns S a w) (hB : B ≤ a.heap.size) (hs : ∀ i, i < B → ¬ S i) : Below B a w := ⟨h.os, h.tape, h.output, h.size, fun k hk => h.block k (by omega) (hs k hk)⟩
end

/-- The slice value v holds the bytes xs, in a block below B (or is empty). -/
def Byt (w : World) (B : Nat) (v : Value) (xs : List UInt8) : Prop :=
  ∃ A c, v = .slice A xs.length c ∧ xs.length ≤ c ∧ c ≤ maxLen ∧ (A = none → xs = [] ∧ c = 0) ∧
    (xs ≠ [] → ∃ b o, A = some ⟨b, o, none⟩ ∧ b < B ∧ ∀ j u, xs[j]? = some u → w.cell? ⟨b, o + j, none⟩ = some (bv u))

section
variable {w w' : World} {B B' : Nat} {v : Value} {xs : List UInt8}
theorem Byt.keep (h : Byt w B v xs) (hk : ∀ b o, b < B → w'.cell? ⟨b, o, none⟩ = w.cell? ⟨b, o, none⟩) : Byt w' B v xs := by
  obtain ⟨A, c, hv, hl, hm, hA, hx⟩ := h
  refine ⟨A, c, hv, hl, hm, hA, fun hne => ?_⟩
  obtain ⟨b, o, e, hb, hc⟩ := hx hne
  exact ⟨b, o, e, hb, fun j u hu => (hk _ _ hb).trans (hc j u hu)⟩
theorem Byt.more (h : Byt w B v xs) (hB : B ≤ B') : Byt w B' v xs := by
  obtain ⟨A, c, hv, hl, hm, hA, hx⟩ := h
  refine ⟨A, c, hv, hl, hm, hA, fun hne => ?_⟩
  obtain ⟨b, o, e, hb, hc⟩ := hx hne
  exact ⟨b, o, e, by omega, hc⟩
theorem Byt.below (h : Byt w B v xs) (hb : Below B w w') : Byt w' B v xs := h.keep fun _ _ hp => hb.cell (p := ⟨_, _, none⟩) hp
theorem Byt.len (h : Byt w B v xs) : xs.length ≤ maxLen := by
  obtain ⟨A, c, hv, hl, hm, _⟩ := h
  omega
theorem Byt.nil (w : World) (B : Nat) : Byt w B (.slice none 0 0) [] := ⟨none, 0, rfl, Nat.le_refl _, by unfold maxLen; omega, fun _ => ⟨rfl, rfl⟩, fun h => absurd rfl h⟩
theorem Byt.of_own {base : Nat} {e : TypeId} (h : w.ownsRow base e 1 v xs.length (xs.map bv)) : Byt w w.heap.size v xs := by
  rcases h.2 with ⟨rfl, hn⟩ | ⟨g, cap, cur, rfl, _, hg, hnc, hcm, _, _⟩
  · obtain rfl : xs = [] := List.eq_nil_of_length_eq_zero hn
    exact Byt.nil _ _
  · refine ⟨some ⟨g, 0, none⟩, cap, rfl, hnc, hcm, (by intro h; cases h), fun hne => ⟨g, 0, rfl, (h.lt g rfl).2, fun j u hu => ?_⟩⟩
    have hc := h.cells (g := g) rfl j (bv u) (by rw [List.getElem?_map, hu]; rfl)
    have hadd : (⟨g, 0, none⟩ : Addr).add j = ⟨g, 0 + j, none⟩ := by unfold Addr.add; split <;> simp_all
    rw [← hadd]; exact hc
end

/-- `ownsRow` over bytes; the row is of one-cell elements. -/
theorem map_bv_length (xs : List UInt8) : (xs.map bv).length = xs.length := by simp

theorem own_block_other {w : World} {base g : Nat} {e t : TypeId} {v : Value} {n : Nat} {xs : List Value} {cs : Array Value} {m : Nat × Nat}
    (h : w.ownsRow base e 1 v n xs) (hg : w.heap[g]? = some (.cells cs t m)) (hne : e ≠ t) : v.ownBlock ≠ some g := by
  rcases h.2 with ⟨rfl, _⟩ | ⟨g', cap, cur, rfl, _, hh, _⟩
  · simp [Value.ownBlock]
  · intro he
    have e1 : g' = g := by simpa [Value.ownBlock] using he
    subst e1
    rw [hh] at hg
    injection hg with hg
    injection hg with _ ht
    exact hne ht

theorem own_turns {S : Nat → Prop} {w w' : World} {base : Nat} {e : TypeId} {size n : Nat} {v : Value} {xs : List Value}
    (h : w.ownsRow base e size v n xs) (ht : Turns S w w') (hS : ∀ k, v.ownBlock = some k → ¬ S k) : w'.ownsRow base e size v n xs := by
  refine ⟨h.1, ?_⟩
  rcases h.2 with hn | ⟨g, cap, cur, rfl, hb, hgg, rest⟩
  · exact .inl hn
  · refine .inr ⟨g, cap, cur, rfl, hb, ?_, rest⟩
    rw [ht.block g (Array.getElem?_eq_some_iff.1 hgg).1 (hS g rfl)]
    exact hgg

/-- append of bytes onto a row of the call's own: the source reads as bytes (it may be nil or empty). -/
theorem run_append_bytes {P : Program} (w : World) (base : Nat) (t ty e : TypeId) (i : TypeInfo) (ht : P.underlying t = some (.slice e)) (hi : P.info? e = some i)
    (hz : i.zero = some (.int .u8 0)) (hsize : i.size = 1) (hby : i.bytes = 1) (v : Value) (n : Nat) (xs : List Value) (hown : w.ownsRow base e 1 v n xs)
    (B : Nat) (x : Value) (ys : List UInt8) (hr : Byt w B x ys) (hb : n + ys.length ≤ 140737488355328) (hbase : base ≤ w.heap.size) :
    ∃ v' w', (Builtin.append_ #[t, t] ty #[v, x]).run P w = .ok v' w' ∧ w'.ownsRow base e 1 v' (n + ys.length) (xs ++ ys.map bv) ∧ w.grownBy w' v.ownBlock ∧
      (v'.ownBlock = v.ownBlock ∨ v'.ownBlock = some w.heap.size) := by
  obtain ⟨A, c, rfl, hl, hm, hA, hx⟩ := hr
  rcases A with _ | ad
  · obtain ⟨rfl, rfl⟩ := hA rfl
    refine ⟨v, w, ?_, by simpa using hown, ⟨rfl, rfl, rfl, Nat.le_refl _, fun _ _ _ => rfl⟩, .inl rfl⟩
    rcases hown.2 with ⟨rfl, rfl⟩ | ⟨g, cap, cur, rfl, _, _, hnc, _⟩
    · simp [Builtin.append_, run_underlying ht, sizeOf, typeInfo, hi, Builtin.lenOf, Builtin.firstCells]
    · simp [Builtin.append_, run_underlying ht, sizeOf, typeInfo, hi, Builtin.lenOf, Builtin.firstCells, hnc, storeCells]
  · have hcells : ∀ j u, (ys.map bv)[j]? = some u → w.cell? (ad.add j) = some u := by
      intro j u hu
      rw [List.getElem?_map] at hu
      cases hy : ys[j]? with
      | none => rw [hy] at hu; cases hu
      | some q =>
        rw [hy] at hu
        injection hu with hu
        subst hu
        have hne : ys ≠ [] := by rintro rfl; simp at hy
        obtain ⟨b, o, hAe, _, hc⟩ := hx hne
        injection hAe with hAe
        subst hAe
        have hadd : (⟨b, o, none⟩ : Addr).add j = ⟨b, o + j, none⟩ := by unfold Addr.add; split <;> simp_all
        rw [hadd]; exact hc j q hy
    obtain ⟨v', w', hrun, h2, h3, _, h5⟩ := run_append_own_at (P := P) w base t ty e i (.int .u8 0) 1 1 ht hi hz hsize hby rfl (by decide) v n xs hown ad ys.length c (ys.map bv)
      (by simp) hcells (by intro u hu; obtain ⟨q, _, rfl⟩ := List.mem_map.1 hu; rfl) (by unfold maxLen; omega) (by omega) hbase
    exact ⟨v', w', hrun, h2, h3, h5⟩

/-- At the operation. -/
theorem wpList_append_bytes {P : Program} {w : World} {ops : Array Oper} {rest : List Oper} {o : Oper} {a : Act} {Q : Exit → Act → World → Prop} (hgd : o.guard = none) (s x : Operand) (t : TypeId)
    (ho : o.op = .call { callee := .builtin .append, args := #[s, x], argTypes := #[t, t] })
    (base : Nat) (e : TypeId) (i : TypeInfo) (ht : P.underlying t = some (.slice e)) (hi : P.info? e = some i)
    (hz : i.zero = some (.int .u8 0)) (hsize : i.size = 1) (hby : i.bytes = 1)
    (v : Value) (n : Nat) (xs : List Value) (hs : a.eval s = v) (hown : w.ownsRow base e 1 v n xs)
    (B : Nat) (u : Value) (ys : List UInt8) (hx : a.eval x = u) (hr : Byt w B u ys) (hb : n + ys.length ≤ 140737488355328) (hbase : base ≤ w.heap.size)
    (h : ∀ v' w', w'.ownsRow base e 1 v' (n + ys.length) (xs ++ ys.map bv) → w.grownBy w' v.ownBlock → (v'.ownBlock = v.ownBlock ∨ v'.ownBlock = some w.heap.size) → wpList P ops Q rest (a.put o.dst v') w') :
    wpList P ops Q (o :: rest) a w := by
  refine wpList_plain hgd fun K hK => ?_
  obtain ⟨v', w', hrun, h2, h3, h4⟩ := run_append_bytes (P := P) w base t o.type e i ht hi hz hsize hby v n xs hown B u ys hr hb hbase
  unfold Oper.wp execOp
  simp only [ho, resolve, invoke, builtin, Sem.run_bind, Sem.run_pure, Result.andThen_ok, List.map_toArray, List.map_cons, List.map_nil, hs, hx, hrun]
  exact hK _ _ (h v' w' h2 h3 h4)

/-! Numbers as bytes -/
/-- The lowest byte of a number. -/
def b8 (n : Int) : UInt8 := UInt8.ofNat (n % 256).toNat
theorem b8_toNat (n : Int) : ((b8 n).toNat : Int) = n % 256 := by
  unfold b8
  rw [UInt8.toNat_ofNat']
  omega
theorem bv_b8 (n : Int) : bv (b8 n) = .int .u8 (n % 256) := by unfold bv; rw [b8_toNat]
theorem bv_b8_of {n : Int} (h0 : 0 ≤ n) (h1 : n < 256) : bv (b8 n) = .int .u8 n := by rw [bv_b8, Int.emod_eq_of_lt h0 h1]
/-- The lowest k bytes, the lowest first. -/
def low (n : Int) : Nat → List UInt8
  | 0 => []
  | k + 1 => b8 n :: low (n / 256) k
theorem low_length (n : Int) (k : Nat) : (low n k).length = k := by
  induction k generalizing n with
  | zero => rfl
  | succ k ih => simp [low, ih]

/-- A block that has just been made, of just these bytes. -/
theorem Byt.made (w : World) (e : TypeId) (l : List Value) (ys : List UInt8) (h : l = ys.map bv) (hl : ys.length ≤ maxLen) :
    Byt (w.alloc (.cells l.toArray e)) (w.heap.size + 1) (.slice (some ⟨w.heap.size, 0, none⟩) ys.length ys.length) ys := by
  refine ⟨_, _, rfl, Nat.le_refl _, hl, (by intro h; cases h), fun _ => ⟨_, _, rfl, by omega, fun j u hu => ?_⟩⟩
  rw [Nat.zero_add]
  show (w.alloc (.cells l.toArray e)).cell? ⟨w.heap.size, j, none⟩ = _
  rw [cell_of_row _ w.heap.size j _ _ _ (heap_alloc_new w _), h]
  simp [hu]

/-- A slice of bytes as a string. -/
theorem run_string_of {P : Program} (w : World) (src dst e : TypeId) (hs : P.underlying src = some (.slice e)) (he : P.underlying e = some (.int .u8)) (hd : P.underlying dst = some .string)
    (B : Nat) (v : Value) (xs : List UInt8) (h : Byt w B v xs) : (convert src dst v).run P w = .ok (.string ⟨xs.toArray⟩) w := by
  obtain ⟨A, c, rfl, hl, hm, hA, hx⟩ := h
  rcases A with _ | ad
  · obtain ⟨rfl, rfl⟩ := hA rfl
    rw [run_convert_bytes_string w src dst e none _ _ hs he hd]
    simp [Conv.bytesToString, Sem.run_pure]
    rfl
  · refine run_convert_bytes_back w src dst e ad c xs hs he hd fun j hj => ?_
    have hne : xs ≠ [] := by rintro rfl; simp at hj
    obtain ⟨b, o, hAe, _, hc⟩ := hx hne
    injection hAe with hAe
    subst hAe
    have hadd : (⟨b, o, none⟩ : Addr).add j = ⟨b, o + j, none⟩ := by unfold Addr.add; split <;> simp_all
    rw [hadd]
    exact hc j _ (List.getElem?_eq_getElem hj)

theorem own_form {w : World} {base : Nat} {e : TypeId} {size n : Nat} {v : Value} {xs : List Value} (h : w.ownsRow base e size v n xs) : ∃ A c, v = .slice A n c := by
  rcases h.2 with ⟨rfl, rfl⟩ | ⟨g, cap, cur, rfl, _⟩
  · exact ⟨_, _, rfl⟩
  · exact ⟨_, _, rfl⟩

end Go.Proofs.YtehodjbjioepnaaDoor

/-
  Rows of bytes that may be written, and new ones of zeros. Conditions: sizes within the reach.
-/
namespace Go.Proofs.YtehodjbjioepnaaDoor
open Go.RowKit

theorem info_u8 : (Tryd.prog.info? 5).map (fun i => (i.zero, i.size, i.bytes)) = some (some (.int .u8 0), 1, 1) := by kernel_rfl
theorem slice_u8 : Tryd.prog.underlying 22 = some (.slice 5) := Tryd.underlying22

theorem Byt.form {w : World} {B : Nat} {v : Value} {xs : List UInt8} (h : Byt w B v xs) : ∃ A c, v = .slice A xs.length c := by
  obtain ⟨A, c, hv, _⟩ := h
  exact ⟨A, c, hv⟩
theorem Byt.cap {w : World} {B c : Nat} {A : Option Addr} {xs : List UInt8} (h : Byt w B (.slice A xs.length c) xs) : xs.length ≤ c ∧ c ≤ 9223372036854775807 := by
  obtain ⟨A', c', e, h1, h2, _⟩ := h
  injection e with e1 e2 e3
  subst e3
  unfold maxLen at h2
  exact ⟨h1, h2⟩

/-- Block g holds these bytes, and may be written. -/
def Row (w : World) (g : Nat) (xs : List UInt8) : Prop := w.heap[g]? = some (.cells (xs.map bv).toArray 5 (0, 0))

theorem Row.lt {w : World} {g : Nat} {xs : List UInt8} (h : Row w g xs) : g < w.heap.size := (Array.getElem?_eq_some_iff.1 h).1
theorem Row.cell {w : World} {g i : Nat} {xs : List UInt8} {c : UInt8} (h : Row w g xs) (hi : xs[i]? = some c) : w.cell? ⟨g, i, none⟩ = some (bv c) := by
  rw [cell_of_row w g i _ _ _ h]
  simp [hi]
theorem Row.free {w : World} {g : Nat} {xs : List UInt8} (h : Row w g xs) (i : Nat) : w.frozen? ⟨g, i, none⟩ = false := by
  unfold Row at h
  simp [World.frozen?, h]
theorem Row.set {w : World} {g i : Nat} {xs : List UInt8} (h : Row w g xs) (c : UInt8) : Row (w.setCell ⟨g, i, none⟩ (bv c)) g (xs.set i c) := by
  unfold Row at h ⊢
  simp [World.setCell, Array.getElem?_modify, h, List.map_set]
theorem Row.turns {S : Nat → Prop} {w w' : World} {g : Nat} {xs : List UInt8} (h : Row w g xs) (ht : Turns S w w') (hS : ¬ S g) : Row w' g xs := (ht.block g h.lt hS).trans h
theorem Row.byt {w : World} {g n c : Nat} {xs : List UInt8} (h : Row w g xs) (hn : n ≤ xs.length) (hc : n ≤ c) (hcm : c ≤ maxLen) : Byt w w.heap.size (.slice (some ⟨g, 0, none⟩) n c) (xs.take n) := by
  have hl : (xs.take n).length = n := by rw [List.length_take]; omega
  refine ⟨some ⟨g, 0, none⟩, c, by rw [hl], by omega, hcm, (by intro h; cases h), fun _ => ⟨g, 0, rfl, h.lt, fun j u hu => ?_⟩⟩
  rw [Nat.zero_add]
  refine h.cell ?_
  rw [List.getElem?_take] at hu
  split at hu
  · exact hu
  · cases hu

theorem set_next {xs zs : List UInt8} {i n : Nat} {c : UInt8} (hi : i < xs.length) (hc : xs[i]? = some c) (hz : zs = xs.take i ++ List.replicate (n - i) 0) (hn : n = xs.length) :
    zs.set i c = xs.take (i + 1) ++ List.replicate (n - (i + 1)) 0 := by
  subst hz
  have hl : (xs.take i).length = i := by rw [List.length_take]; omega
  rw [List.set_append_right _ _ (by omega), hl, Nat.sub_self]
  obtain ⟨m, hm⟩ : ∃ m, n - i = m + 1 := ⟨n - i - 1, by omega⟩
  rw [hm, List.replicate_succ, List.set_cons_zero, List.take_add_one, hc]
  have : n - (i + 1) = m := by omega
  rw [this]
  simp

/-- n zero bytes, as a block's cells. -/
def zeroRow (n : Nat) : Array Value := ((List.replicate n (0 : UInt8)).map bv).toArray

theorem made_zero (n : Nat) : madeCells (Value.int .u8 0).cells n = zeroRow n := by
  unfold zeroRow
  simp only [madeCells, Value.cells, List.map_replicate, bv]
  apply Array.ext
  · simp
  · intro i h1 h2
    simp [Nat.mod_one]

theorem make_bytes (W : World) (n : Nat) (q : Int) (hq : q = n) (hn : n ≤ 281474976710656) :
    (Instr.makeSlice 22 (.int .i64 q) (.int .i64 q)).run Tryd.prog W = .ok (.slice (some ⟨W.heap.size, 0, none⟩) n n) (W.alloc (.cells (zeroRow n) 5)) := by
  obtain ⟨i0, hi, hz0, hz1, hz2⟩ := info_parts info_u8
  subst hq
  rw [run_make (P := Tryd.prog) W 22 5 i0 (.int .u8 0) slice_u8 hi hz0 .i64 .i64 n n (by omega) (by omega) (by rw [hz2]; omega) (by omega), hz1]
  simp only [Int.toNat_natCast, Nat.mul_one]
  rw [made_zero]

theorem row_new (w : World) (n : Nat) : Row (w.alloc (.cells (zeroRow n) 5)) w.heap.size (List.replicate n 0) := heap_alloc_new w _


/-- Behind i rounds: the first i bytes are as they will be, the rest is zero. -/
def FillB (w : World) (g i : Nat) (bs : List UInt8) (wr : World) : Prop :=
  ∃ zs, zs = bs.take i ++ List.replicate (bs.length - i) 0 ∧ Row wr g zs ∧ Below w.heap.size w wr

theorem fillB_next {w w' : World} {g i : Nat} {bs zs : List UInt8} {c : UInt8} (hi : i < bs.length) (hc : bs[i]? = some c) (hz : zs = bs.take i ++ List.replicate (bs.length - i) 0)
    (hr : Row w' g (zs.set i c)) (hb' : Below w.heap.size w w') : FillB w g (i + 1) bs w' :=
  ⟨_, set_next hi hc hz rfl, hr, hb'⟩

theorem fillB_zero {bs zs : List UInt8} {i : Nat} (hi : i < bs.length) (hz : zs = bs.take i ++ List.replicate (bs.length - i) 0) : zs[i]? = some 0 := by
  subst hz
  have hl : (bs.take i).length = i := by rw [List.length_take]; omega
  rw [List.getElem?_append_right (by omega), hl, Nat.sub_self]
  obtain ⟨m, hm⟩ : ∃ m, bs.length - i = m + 1 := ⟨bs.length - i - 1, by omega⟩
  rw [hm, List.replicate_succ]
  rfl
theorem fillB_end {w wr : World} {g : Nat} {bs : List UInt8} (h : FillB w g bs.length bs wr) : Row wr g bs ∧ Below w.heap.size w wr := by
  obtain ⟨zs, hz, hr, hb⟩ := h
  rw [Nat.sub_self, List.replicate_zero, List.append_nil, List.take_length] at hz
  exact ⟨hz ▸ hr, hb⟩

end Go.Proofs.YtehodjbjioepnaaDoor

/-
  An append of bytes, at an operation of a region that draws its order. Conditions: sizes within the reach.
-/
namespace Go.Proofs.YtehodjbjioepnaaDoor
open Go.RowKit

/-- Says nothing. -/
def AnyW (_ : World) : Prop := True
theorem anyW (w : World) : AnyW w := trivial

theorem op_append_bytes {P : Program} {w : World} {o : Oper} {a : Act} {K : Act → World → Prop} {Q : Exit → Act → World → Prop} (s x : Operand) (t : TypeId)
    (ho : o.op = .call { callee := .builtin .append, args := #[s, x], argTypes := #[t, t] })
    (base : Nat) (e : TypeId) (i : TypeInfo) (ht : P.underlying t = some (.slice e)) (hi : P.info? e = some i)
    (hz : i.zero = some (.int .u8 0)) (hsize : i.size = 1) (hby : i.bytes = 1)
    (v : Value) (n : Nat) (xs : List Value) (hs : a.eval s = v) (hown : w.ownsRow base e 1 v n xs)
    (B : Nat) (u : Value) (ys : List UInt8) (hx : a.eval x = u) (hr : Byt w B u ys) (hb : n + ys.length ≤ 140737488355328) (hbase : base ≤ w.heap.size)
    (h : ∀ v' w', w'.ownsRow base e 1 v' (n + ys.length) (xs ++ ys.map bv) → w.grownBy w' v.ownBlock → (v'.ownBlock = v.ownBlock ∨ v'.ownBlock = some w.heap.size) → K (a.put o.dst v') w') :
    o.wp P a w K Q := by
  obtain ⟨v', w', hrun, h2, h3, h4⟩ := run_append_bytes (P := P) w base t o.type e i ht hi hz hsize hby v n xs hown B u ys hr hb hbase
  unfold Oper.wp execOp
  simp only [ho, resolve, invoke, builtin, Sem.run_bind, Sem.run_pure, Result.andThen_ok, List.map_toArray, List.map_cons, List.map_nil, hs, hx, hrun]
  exact h v' w' h2 h3 h4
end Go.Proofs.YtehodjbjioepnaaDoor

/-
  A row of bytes of the call's own: what may be read, and what a store changes. Conditions: none.
-/
namespace Go.Proofs.YtehodjbjioepnaaDoor
open Go.RowKit

/-- The slice value v owns these bytes, in a block from base on. -/
def OwnB (w : World) (base : Nat) (v : Value) (ys : List UInt8) : Prop := w.ownsRow base 5 1 v ys.length (ys.map bv)
theorem OwnB.nil (w : World) (base : Nat) : OwnB w base (.slice none 0 0) [] := World.ownsRow_nil _ _ _ _
theorem OwnB.form {w : World} {base : Nat} {v : Value} {ys : List UInt8} (h : OwnB w base v ys) : ∃ A c, v = .slice A ys.length c := own_form h
theorem OwnB.block {w : World} {base : Nat} {v : Value} {ys : List UInt8} (h : OwnB w base v ys) (hn : 0 < ys.length) : ∃ g c, v = .slice (some ⟨g, 0, none⟩) ys.length c ∧ base ≤ g ∧ g < w.heap.size ∧ ys.length ≤ c := by
  rcases h.2 with ⟨_, h0⟩ | ⟨g, cap, cur, rfl, hb, hg, hnc, _⟩
  · omega
  · exact ⟨g, cap, rfl, hb, (Array.getElem?_eq_some_iff.1 hg).1, hnc⟩
theorem OwnB.cell {w : World} {base g n c k : Nat} {q : UInt8} {ys : List UInt8} (h : OwnB w base (.slice (some ⟨g, 0, none⟩) n c) ys) (hk : ys[k]? = some q) : w.cell? ⟨g, k, none⟩ = some (bv q) := by
  have h1 := World.ownsRow.cells (g := g) h rfl k (bv q) (by rw [List.getElem?_map, hk]; rfl)
  have hadd : (⟨g, 0, none⟩ : Addr).add k = ⟨g, 0 + k, none⟩ := by unfold Addr.add; split <;> simp_all
  rw [hadd, Nat.zero_add] at h1
  exact h1
theorem OwnB.free {w : World} {base g n c : Nat} {ys : List UInt8} (h : OwnB w base (.slice (some ⟨g, 0, none⟩) n c) ys) (k : Nat) : w.frozen? ⟨g, k, none⟩ = false := by
  rcases h.2 with ⟨e, _⟩ | ⟨g', cap, cur, e, _, hg, _⟩
  · cases e
  · injection e with e1 _ _
    injection e1 with e1
    injection e1 with e1
    subst e1
    simp [World.frozen?, hg]
theorem OwnB.set {w : World} {base g n c : Nat} {ys : List UInt8} (h : OwnB w base (.slice (some ⟨g, 0, none⟩) n c) ys) (k : Nat) (q : UInt8) : OwnB (w.setCell ⟨g, k, none⟩ (bv q)) base (.slice (some ⟨g, 0, none⟩) n c) (ys.set k q) := by
  unfold OwnB at h ⊢
  rw [List.length_set]
  refine ⟨by simp, ?_⟩
  rcases h.2 with ⟨e, _⟩ | ⟨g', cap, cur, e, hb, hg, hnc, hcm, hcs, ht⟩
  · cases e
  · have e' := e
    injection e' with e1 _ _
    injection e1 with e1
    injection e1 with e1
    subst e1
    refine .inr ⟨g, cap, cur.setIfInBounds k (bv q), e, hb, ?_, hnc, hcm, by simpa using hcs, ?_⟩
    · simp [World.setCell, Array.getElem?_modify, hg]
    · rw [Array.toList_setIfInBounds, List.map_set, ← ht]
      exact List.take_set
theorem OwnB.byt {w : World} {base : Nat} {v : Value} {ys : List UInt8} (h : OwnB w base v ys) : Byt w w.heap.size v ys := Byt.of_own h
end Go.Proofs.YtehodjbjioepnaaDoor

/-
  A number's digits, the least one first. Conditions: none (plain mathematics).
-/
namespace Go.Proofs.YtehodjbjioepnaaDoor
open Go.RowKit

def valF (b : Nat) (ds : List UInt8) : Nat := ds.foldl (fun a d => a * b + d.toNat) 0
theorem valF_snoc (b : Nat) {ds : List UInt8} {i : Nat} {d : UInt8} (h : ds[i]? = some d) : valF b (ds.take (i + 1)) = valF b (ds.take i) * b + d.toNat := by
  unfold valF
  rw [List.take_add_one, h, List.foldl_append]
  rfl
/-- The j-th digit. -/
def digN (b N j : Nat) : UInt8 := b8 ((N / b ^ j % b : Nat) : Int)
def digitsL (b N k : Nat) : List UInt8 := (List.range k).map (digN b N)
theorem digitsL_length (b N k : Nat) : (digitsL b N k).length = k := by simp [digitsL]
theorem digitsL_succ (b N k : Nat) : digitsL b N (k + 1) = digitsL b N k ++ [digN b N k] := by simp [digitsL, List.range_succ]
theorem digitsL_at {b N k j : Nat} (h : j < k) : (digitsL b N k)[j]? = some (digN b N j) := by
  unfold digitsL
  rw [List.getElem?_map, List.getElem?_range h]
  rfl
theorem digN_nat {b N j : Nat} (h0 : 0 < b) (h : b ≤ 256) : (digN b N j).toNat = N / b ^ j % b := by
  have h1 := b8_toNat ((N / b ^ j % b : Nat) : Int)
  have h2 := Nat.mod_lt (N / b ^ j) h0
  unfold digN
  omega
/-- The digits of N, none of them for nothing. -/
def AscOf (b N : Nat) (out : List UInt8) : Prop := ∃ k, out = digitsL b N k ∧ N / b ^ k = 0 ∧ ∀ j, j < k → N / b ^ j ≠ 0
theorem AscOf.zero (b : Nat) : AscOf b 0 [] := ⟨0, rfl, by simp, fun j h => by omega⟩
theorem AscOf.unique {b N : Nat} {x y : List UInt8} (hx : AscOf b N x) (hy : AscOf b N y) : x = y := by
  obtain ⟨k, rfl, hk, hkj⟩ := hx
  obtain ⟨m, rfl, hm, hmj⟩ := hy
  have h1 : ¬ k < m := fun h => hmj k h hk
  have h2 : ¬ m < k := fun h => hkj m h hm
  have : k = m := by omega
  rw [this]
theorem digits_short {b N m n : Nat} (hb : 2 ≤ b) (hN : N < 2 ^ n) (h : ∀ j, j < m → N / b ^ j ≠ 0) : m ≤ n := by
  rcases Nat.lt_or_ge n m with hl | hl
  · exfalso
    refine h n hl (Nat.div_eq_of_lt (Nat.lt_of_lt_of_le hN ?_))
    exact Nat.pow_le_pow_left hb n
  · exact hl
theorem AscOf.short {b N : Nat} {out : List UInt8} {n : Nat} (h : AscOf b N out) (hb : 2 ≤ b) (hN : N < 2 ^ n) : out.length ≤ n := by
  obtain ⟨k, rfl, hk, hkj⟩ := h
  rw [digitsL_length]
  exact digits_short hb hN hkj
theorem valF_lt {b : Nat} (hb : b ≤ 256) (_h1 : 0 < b) (ds : List UInt8) (hd : ∀ d ∈ ds, d.toNat < b) : valF b ds < 2 ^ (8 * ds.length) := by
  obtain ⟨r, hr⟩ : ∃ r, r = ds.reverse := ⟨_, rfl⟩
  have hp : ds = r.reverse := by rw [hr, List.reverse_reverse]
  rw [hp] at hd ⊢
  clear hp hr ds
  induction r with
  | nil => simp [valF]
  | cons d r ih =>
    have hd0 := hd d (by simp)
    have ih := ih (fun e he => hd e (by rw [List.reverse_cons]; exact List.mem_append_left _ he))
    have e : valF b (d :: r).reverse = valF b r.reverse * b + d.toNat := by
      unfold valF
      rw [List.reverse_cons, List.foldl_append]
      rfl
    rw [e]
    simp only [List.length_reverse, List.length_cons] at ih ⊢
    have h2 : 2 ^ (8 * (r.length + 1)) = 2 ^ (8 * r.length) * 256 := by
      rw [Nat.mul_add, Nat.pow_add]
    have h3 : (valF b r.reverse + 1) * b ≤ 2 ^ (8 * r.length) * 256 := Nat.mul_le_mul ih hb
    have h4 : (valF b r.reverse + 1) * b = valF b r.reverse * b + b := by rw [Nat.add_mul, Nat.one_mul]
    omega

/-- One digit more of M * f + d, while the old digits of M are turned. -/
theorem carry_next {b f M N m cr : Nat} (hb : 2 ≤ b) (_hf : 0 < f) (hcr : cr < f) (h : N / b ^ m = cr + M / b ^ m * f) :
    (cr + M / b ^ m % b * f) % b = N / b ^ m % b ∧ N / b ^ (m + 1) = (cr + M / b ^ m % b * f) / b + M / b ^ (m + 1) * f ∧ (cr + M / b ^ m % b * f) / b < f := by
  have e1 : M / b ^ (m + 1) = M / b ^ m / b := by rw [Nat.pow_succ, Nat.div_div_eq_div_mul]
  have e2 : N / b ^ (m + 1) = N / b ^ m / b := by rw [Nat.pow_succ, Nat.div_div_eq_div_mul]
  rw [e1, e2, h]
  generalize M / b ^ m = x
  obtain ⟨q, r, hq, hr, hx⟩ : ∃ q r, x / b = q ∧ x % b = r ∧ x = b * q + r := ⟨_, _, rfl, rfl, (Nat.div_add_mod x b).symm⟩
  have hrb : r < b := by rw [← hr]; exact Nat.mod_lt _ (by omega)
  rw [hq, hr]
  have h1 : cr + x * f = cr + r * f + b * (q * f) := by
    rw [hx, Nat.add_mul, Nat.mul_assoc]; omega
  rw [h1]
  refine ⟨(Nat.add_mul_mod_self_left _ _ _).symm, Nat.add_mul_div_left _ _ (by omega), ?_⟩
  rw [Nat.div_lt_iff_lt_mul (by omega)]
  have h2 : r * f ≤ (b - 1) * f := Nat.mul_le_mul_right _ (by omega)
  have h3 : (b - 1) * f + f = f * b := by
    have : (b - 1 + 1) * f = b * f := by rw [Nat.sub_add_cancel (by omega)]
    rw [Nat.add_mul, Nat.one_mul] at this
    rw [this, Nat.mul_comm]
  omega
theorem div_next {b N m : Nat} : N / b ^ (m + 1) = N / b ^ m / b := by rw [Nat.pow_succ, Nat.div_div_eq_div_mul]
end Go.Proofs.YtehodjbjioepnaaDoor

/-
  text.ascending: the same number in digits of another base. Conditions: the bases are from 2 to 256; sizes within the reach.
-/
namespace Go.Proofs.YtehodjbjioepnaaDoor
open Go.RowKit

/-- The first m digits are those of N, the others still those of M. -/
def mixL (b N M k m : Nat) : List UInt8 := digitsL b N m ++ (digitsL b M k).drop m
theorem mixL_length {b N M k m : Nat} (h : m ≤ k) : (mixL b N M k m).length = k := by simp [mixL, digitsL_length]; omega
theorem mixL_at {b N M k m : Nat} (h : m < k) : (mixL b N M k m)[m]? = some (digN b M m) := by
  unfold mixL
  rw [List.getElem?_append_right (by rw [digitsL_length]; omega), digitsL_length, Nat.sub_self, List.getElem?_drop, Nat.add_zero, digitsL_at h]
theorem mixL_set {b N M k m : Nat} (h : m < k) : (mixL b N M k m).set m (digN b N m) = mixL b N M k (m + 1) := by
  unfold mixL
  rw [List.set_append_right _ _ (by rw [digitsL_length]; omega), digitsL_length, Nat.sub_self]
  have hd : (digitsL b M k).drop m = digN b M m :: (digitsL b M k).drop (m + 1) := by
    rw [List.drop_eq_getElem_cons (by rw [digitsL_length]; exact h)]
    have := digitsL_at (b := b) (N := M) h
    rw [List.getElem?_eq_some_iff] at this
    rw [this.2]
  rw [hd, List.set_cons_zero, digitsL_succ]
  simp
theorem mixL_zero (b N M k : Nat) : mixL b N M k 0 = digitsL b M k := by simp [mixL, digitsL]
theorem mixL_all (b N M k : Nat) : mixL b N M k k = digitsL b N k := by
  unfold mixL
  rw [List.drop_eq_nil_of_le (by rw [digitsL_length]; exact Nat.le_refl _), List.append_nil]

set_option maxRecDepth 100000 in
set_option maxHeartbeats 3200000 in
theorem asc_any (B : Nat) (x : Value) (ds : List UInt8) (f b : Nat) (w : World) (hx : Byt w B x ds) (hB : B ≤ w.heap.size) (hl : ds.length ≤ 60000) (hf0 : 2 ≤ f) (hf1 : f ≤ 256) (hb0 : 2 ≤ b) (hb1 : b ≤ 256) (hds : ∀ d ∈ ds, d.toNat < f) :
    Calls Tryd.prog 31 #[x, .int .i64 f, .int .i64 b] w fun e w' => ∃ v out, e = .returned v ∧ AscOf b (valF f ds) out ∧ OwnB w' w.heap.size v out ∧ Below w.heap.size w w' := by
  obtain ⟨i0, hi, hz0, hz1, hz2⟩ := info_parts info_u8
  obtain ⟨A, c, hxf⟩ := hx.form
  subst hxf
  have hX := Lib.hid hx
  have HDS := Lib.hid hds
  clear hx hds
  go_enter Tryd.func31, Tryd.ntmps31
  go_wp2_with fail
  go_loopw [15, 7] (fun j v wr => ∃ i k : Nat, i ≤ ds.length ∧ j = .int .i64 i ∧ OwnB wr w.heap.size v (digitsL b (valF f (ds.take i)) k) ∧ Hid (valF f (ds.take i) / b ^ k = 0 ∧ ∀ j, j < k → valF f (ds.take i) / b ^ j ≠ 0) ∧ Below w.heap.size w wr) (fun j _ _ => ds.length - (intOf j).toNat)
  case atStart => exact ⟨0, 0, Nat.zero_le _, rfl, OwnB.nil _ _, Lib.hid ⟨by simp [valF], fun j h => by omega⟩, Below.refl _ _⟩
  case round =>
    obtain ⟨i, k, hi2, rfl, hown, hasc, hbel⟩ := hrel
    by_cases hlt : i < ds.length
    · obtain ⟨A', c', e0, _, _, _, h4⟩ := hX.out
      injection e0 with e1 e2 e3
      subst e1 e3
      obtain ⟨bb, o, rfl, hbb, hbc⟩ := h4 (by rintro rfl; simp at hlt)
      have hci := hbc i _ (List.getElem?_eq_getElem hlt)
      obtain ⟨q, hq⟩ : ∃ q, q = ds[i] := ⟨_, rfl⟩
      rw [← hq] at hci
      have hbi : wr.cell? ⟨bb, o + i, none⟩ = some (.int .u8 (q.toNat : Int)) := (hbel.cell (p := ⟨bb, _, none⟩) (by show bb < _; omega)).trans hci
      have hqi : ds[i]? = some q := by rw [hq]; exact List.getElem?_eq_getElem hlt
      have hqf : q.toNat < f := HDS.out q (List.mem_of_getElem? hqi)
      obtain ⟨M, hM⟩ : ∃ M, M = valF f (ds.take i) := ⟨_, rfl⟩
      obtain ⟨N, hN⟩ : ∃ N, N = M * f + q.toNat := ⟨_, rfl⟩
      have hnext : valF f (ds.take (i + 1)) = N := by rw [valF_snoc f hqi, ← hM, ← hN]
      rw [← hM] at hown hasc
      have hk8 : k ≤ 480000 := by
        have h1 := valF_lt hf1 (by omega) (ds.take i) (fun d hd => HDS.out d (List.mem_of_mem_take hd))
        rw [← hM] at h1
        have h2 := (AscOf.short (b := b) ⟨k, rfl, hasc.out.1, hasc.out.2⟩ hb0 h1)
        rw [digitsL_length, List.length_take] at h2
        omega
      have HNX := Lib.hid hnext
      have HNN := Lib.hid hN
      clear hbc h4 hq hqi hci hM hnext hN
      obtain ⟨Av, cv, hv⟩ := hown.form
      subst hv
      rw [digitsL_length] at hown ⊢
      have hq256 := q.toNat_lt
      go_wp2_with fail
      go_loopw [23, 10] (fun j2 cc wx => ∃ m cr : Nat, m ≤ k ∧ j2 = .int .i64 m ∧ cc = .int .i64 cr ∧ cr < f ∧ Hid (N / b ^ m = cr + M / b ^ m * f) ∧ OwnB wx w.heap.size (.slice Av k cv) (mixL b N M k m) ∧ Below w.heap.size w wx) (fun j2 _ _ => k - (intOf j2).toNat)
      case atStart => exact ⟨0, q.toNat, Nat.zero_le _, rfl, rfl, hqf, Lib.hid (by rw [HNN.out]; simp; omega), by rw [mixL_zero]; exact hown, hbel⟩
      case round =>
        obtain ⟨m, cr, hm, rfl, rfl, hcr, heq, hown2, hbel2⟩ := hrel
        by_cases hmk : m < k
        · obtain ⟨g, c2, e, hg1, hg2, hg3⟩ := hown2.block (by rw [mixL_length hm]; omega)
          injection e with e1 e2 e3
          subst e1 e3
          clear e2
          rw [mixL_length hm] at hg3
          have hcell := hown2.cell (mixL_at (b := b) (N := N) (M := M) hmk)
          have hfree := hown2.free m
          obtain ⟨t1, t2, t3⟩ := carry_next hb0 (by omega) hcr heq.out
          have hdn := digN_nat (b := b) (N := M) (j := m) (by omega) hb1
          have hdN := digN_nat (b := b) (N := N) (j := m) (by omega) hb1
          obtain ⟨lo, hlo⟩ : ∃ lo, lo = M / b ^ m % b := ⟨_, rfl⟩
          rw [← hlo] at t1 t2 t3 hdn
          have hlob : lo < b := by rw [hlo]; exact Nat.mod_lt _ (by omega)
          obtain ⟨p, hp⟩ : ∃ p, p = lo * f := ⟨_, rfl⟩
          rw [← hp] at t1 t2 t3
          have hpb : p ≤ 65536 := by
            rw [hp]
            exact Nat.mul_le_mul (show lo ≤ 256 by omega) hf1
          obtain ⟨r, hr⟩ : ∃ r, r = (cr + p) % b := ⟨_, rfl⟩
          obtain ⟨u, hu⟩ : ∃ u, u = (cr + p) / b := ⟨_, rfl⟩
          rw [← hr] at t1
          rw [← hu] at t2 t3
          rw [← t1] at hdN
          have hrb : r < b := by rw [hr]; exact Nat.mod_lt _ (by omega)
          have hcell2 : wr.cell? ⟨g, m, none⟩ = some (.int .u8 (lo : Int)) := by rw [hcell]; unfold bv; rw [hdn]
          have hset := hown2.set m (digN b N m)
          rw [mixL_set hmk] at hset
          have hbvr : bv (digN b N m) = .int .u8 (r : Int) := by unfold bv; rw [hdN]
          rw [hbvr] at hset
          have e1 : (lo : Int) * (f : Int) = (p : Int) := by rw [hp]; simp
          have e2 : ((cr : Int) + (p : Int)) % (b : Int) = (r : Int) := by rw [hr]; simp
          have e3 : ((cr : Int) + (p : Int)) / (b : Int) = (u : Int) := by rw [hu]; simp
          have e4 : ¬ ((b : Int) = 0) := by omega
          have hbs := hbel2.setCell (p := ⟨g, m, none⟩) hg1 (.int .u8 (r : Int))
          have HSET := Lib.hid hset
          have HT2 := Lib.hid t2
          have HBS := Lib.hid hbs
          clear hset t2 hbs hp hr hu t1 hdn hdN hbvr hcell heq hlo
          go_wp2
          exact ⟨⟨m + 1, u, by omega, by go_num, congrArg (Value.int .i64) e3, t3, HT2, HSET.out, HBS.out⟩, by simp [intOf]; omega⟩
        · obtain rfl : m = k := by omega
          have hN0 : N / b ^ m = cr := by
            have h := heq.out
            rw [hasc.out.1, Nat.zero_mul, Nat.add_zero] at h
            exact h
          have hNj : ∀ j, j < m → N / b ^ j ≠ 0 := fun j hj h0 => by
            have h1 := hasc.out.2 j hj
            have h2 : M ≤ N := by
              rw [HNN.out]
              have := Nat.mul_le_mul_left M (show 1 ≤ f by omega)
              omega
            have h3 := Nat.div_le_div_right (c := b ^ j) h2
            rw [h0] at h3
            exact h1 (Nat.eq_zero_of_le_zero h3)
          have hNlt : N < 2 ^ (8 * ds.length) := by
            have h1 := valF_lt hf1 (by omega) (ds.take (i + 1)) (fun d hd => HDS.out d (List.mem_of_mem_take hd))
            rw [HNX.out] at h1
            refine Nat.lt_of_lt_of_le h1 (Nat.pow_le_pow_right (by omega) ?_)
            rw [List.length_take]
            omega
          have hcr0 : cr ≤ 256 := by omega
          rw [mixL_all] at hown2
          have HN0 := Lib.hid hN0
          have HNJ := Lib.hid hNj
          have HNL := Lib.hid hNlt
          clear heq hN0 hNj hNlt
          go_wp2_with fail
          go_loopw [10, 7] (fun cc vv wx => ∃ m cr : Nat, cc = .int .i64 cr ∧ cr ≤ 256 ∧ Hid (N / b ^ m = cr ∧ ∀ j, j < m → N / b ^ j ≠ 0) ∧ OwnB wx w.heap.size vv (digitsL b N m) ∧ Below w.heap.size w wx) (fun cc _ _ => (intOf cc).toNat)
          case atStart => exact ⟨m, cr, rfl, hcr0, Lib.hid ⟨HN0.out, HNJ.out⟩, hown2, hbel2⟩
          case round =>
            obtain ⟨m, cr, rfl, hcr0, hm, hown3, hbel3⟩ := hrel
            by_cases hpos : 0 < cr
            · have hmb : m ≤ 480000 := by
                have := digits_short hb0 HNL.out hm.out.2
                omega
              obtain ⟨r, hr⟩ : ∃ r, r = cr % b := ⟨_, rfl⟩
              obtain ⟨u, hu⟩ : ∃ u, u = cr / b := ⟨_, rfl⟩
              have hrb : r < b := by rw [hr]; exact Nat.mod_lt _ (by omega)
              have hucr : u < cr := by rw [hu]; exact Nat.div_lt_self hpos hb0
              have e2 : (cr : Int) % (b : Int) = (r : Int) := by rw [hr]; simp
              have e3 : (cr : Int) / (b : Int) = (u : Int) := by rw [hu]; simp
              have e4 : ¬ ((b : Int) = 0) := by omega
              have hdN : digN b N m = b8 (r : Int) := by unfold digN; rw [hm.out.1, ← hr]
              have hnx : N / b ^ (m + 1) = u := by rw [div_next, hm.out.1, hu]
              have hsn : digitsL b N (m + 1) = digitsL b N m ++ [b8 (r : Int)] := by rw [digitsL_succ, hdN]
              have hnj : ∀ j, j < m + 1 → N / b ^ j ≠ 0 := fun j hj => by
                by_cases hjm : j < m
                · exact hm.out.2 j hjm
                · have : j = m := by omega
                  rw [this, hm.out.1]; omega
              have hmade : Byt (wr.alloc (.cells #[.int .u8 (r : Int)] 5)) (wr.heap.size + 1) (.slice (some ⟨wr.heap.size, 0, none⟩) 1 1) [b8 (r : Int)] :=
                Byt.made wr _ [_] [b8 (r : Int)] (by rw [List.map_cons, List.map_nil, bv_b8_of (by omega) (by omega)]) (by unfold maxLen; simp)
              obtain ⟨Av3, cv3, hv3⟩ := hown3.form
              subst hv3
              have hbs3 := hbel3.size
              have hlen3 : (digitsL b N m).length ≤ 480000 := by rw [digitsL_length]; exact hmb
              have hoa : (wr.alloc (.cells #[.int .u8 (r : Int)] 5)).ownsRow w.heap.size 5 1 (.slice Av3 (digitsL b N m).length cv3) (digitsL b N m).length ((digitsL b N m).map bv) := World.ownsRow.alloc hown3 _
              have HOA := Lib.hid hoa
              have HNXX := Lib.hid (And.intro hnx hnj)
              have HSN := Lib.hid hsn
              clear hr hu hdN hnx hsn hnj hoa hm
              go_wp2_with (at_builtin; refine wpList_append_bytes rfl (.tmp 50) (.tmp 55) 22 rfl w.heap.size 5 i0 slice_u8 hi hz0 hz1 hz2 _ (digitsL b N m).length ((digitsL b N m).map bv) rfl HOA.out (wr.heap.size + 1) _ [b8 (r : Int)] rfl hmade (by simp; omega) (by simp; omega) ?_; intro v1 w1 hown1 hg1 hat1)
              have hb1' : Below w.heap.size w w1 := (hbel3.alloc hbs3 _).grown hg1 (by simp; omega) (fun j hj => (HOA.out.lt j hj).1)
              refine ⟨⟨m + 1, u, rfl, by omega, HNXX, ?_, hb1'⟩, by simp [intOf]; omega⟩
              rw [HSN.out]
              unfold OwnB
              rw [List.length_append, List.map_append]
              exact hown1
            · obtain rfl : cr = 0 := by omega
              go_wp2
              exact ⟨⟨i + 1, m, by omega, by go_num, by rw [HNX.out]; exact hown3, Lib.hid (by rw [HNX.out]; exact hm.out), hbel3⟩, by simp [intOf]; omega⟩
    · have hie : ds.take i = ds := List.take_of_length_le (by omega)
      rw [hie] at hasc hown
      have HO := Lib.hid hown
      clear hie hown
      go_wp2
      refine bodyPost_ret (results_tmp rfl _ _ _) rfl ?_
      exact ⟨_, _, rfl, ⟨k, rfl, hasc.out.1, hasc.out.2⟩, HO.out, hbel⟩
end Go.Proofs.YtehodjbjioepnaaDoor

/-
  slices.Backward over bytes: the library's iterator hands out each index with its byte, the last one first, to every loop body that keeps what lay ahead of it. Conditions: none.
-/
namespace Go.Proofs.YtehodjbjioepnaaDoor
open Go.RowKit Go.Shelf

attribute [local go_sem] Oper.semAt_some

/-- What has come when k rounds are over: f 0, .., f (k - 1). -/
def upto {α : Type} (f : Nat → α) (k : Nat) : List α := (List.range k).map f
theorem upto_succ {α : Type} (f : Nat → α) (k : Nat) : upto f (k + 1) = upto f k ++ [f k] := by simp [upto, List.range_succ]
/-- The blocks of S lie as they lay. -/
def Holds (S : Nat → Prop) (A B : World) : Prop := ∀ k, S k → B.heap[k]? = A.heap[k]?
theorem Holds.refl (S : Nat → Prop) (A : World) : Holds S A A := fun _ _ => rfl
theorem Holds.trans {S : Nat → Prop} {A B C : World} (h : Holds S A B) (k : Holds S B C) : Holds S A C := fun i hi => (k i hi).trans (h i hi)
theorem Holds.cell {S : Nat → Prop} {A B : World} (h : Holds S A B) {p : Addr} (hp : S p.block) : B.cell? p = A.cell? p := World.cell?_of_block (w := A) (h p.block hp)
theorem Holds.of_below {S : Nat → Prop} {n : Nat} {A B : World} (h : Below n A B) (hS : ∀ k, S k → k < n) : Holds S A B := fun k hk => h.block k (hS k hk)
theorem Holds.setCell {S : Nat → Prop} {A B : World} (h : Holds S A B) {p : Addr} (hp : ¬ S p.block) (u : Value) : Holds S A (B.setCell p u) :=
  fun k hk => (Below.heap_setCell _ _ _ _ (by rintro rfl; exact hp hk)).trans (h k hk)
theorem Holds.putObj {S : Nat → Prop} (W : World) (l : Nat) (o : Obj) (hl : ¬ S l) : Holds S W (W.putObj l o) := fun k hk => by
  have hne : l ≠ k := by rintro rfl; exact hl hk
  simp [World.putObj, Array.getElem?_setIfInBounds, hne]
theorem upto_length {α : Type} (f : Nat → α) (k : Nat) : (upto f k).length = k := by simp [upto]

/-- The j-th that comes, of bytes from the end on. -/
def fromEnd (bs : List UInt8) (j : Nat) : Nat × UInt8 := (bs.length - 1 - j, bs[bs.length - 1 - j]?.getD 0)

set_option maxRecDepth 100000 in
set_option maxHeartbeats 2000000 in
theorem backw1_in (F : Fence) (n : Nat) (hf : F.fn 36) (hro : F.round = none) (hn : 1 ≤ n) (l Bs B : Nat) (S : Nat → Prop) (v : Value) (bs : List UInt8) (J Jx : List (Nat × UInt8) → World → Prop)
    (hY : ∀ pre x W, J pre W → pre.length < bs.length → YieldAt F (n - 1) Tryd.prog l #[.int .i64 (x.1 : Int), .int .u8 (x.2.toNat : Int)] W fun e W' =>
      (e = .returned (.bool true) ∧ J (pre ++ [x]) W' ∧ Holds S W W') ∨ (e = .returned (.bool false) ∧ Jx (pre ++ [x]) W'))
    (W : World) (hBs : W.cell? ⟨Bs, 0, none⟩ = some v) (hBn : S Bs) (hv : Byt W B v bs) (hSv : ∀ k, v.ownBlock = some k → S k) (h0 : J [] W) :
    CallsIn F n Tryd.prog 36 #[.func (.yield l) #[] #[], .pointer (some ⟨Bs, 0, none⟩)] W fun e W' => (∃ v, e = .returned v) ∧
      ((∃ ys, ys = upto (fromEnd bs) bs.length ∧ J ys W') ∨ (∃ pre, (∃ k, k ≤ bs.length ∧ pre = upto (fromEnd bs) k) ∧ Jx pre W')) := by
  have hlen := hv.len
  unfold maxLen at hlen
  obtain ⟨A, c, rfl, _, _, _, hx⟩ := hv
  have HX := Lib.hid hx
  clear hx
  refine callsIn_of_wp Tryd.func36 rfl hf ?_ hro
  simp only [Tryd.ntmps36, List.size_toArray, List.length_cons, List.length_nil, Nat.reduceAdd, Nat.reduceSub, Array.replicate_succ, Array.replicate_zero, List.push_toArray, List.append_toArray, List.nil_append, List.cons_append]
  gi_wp2
  gi_loopw [3] (fun i wr => ∃ k : Nat, k ≤ bs.length ∧ i = .int .i64 ((bs.length : Int) - 1 - k) ∧ J (upto (fromEnd bs) k) wr ∧ Holds S W wr)
    (fun i _ => (intOf i + 1).toNat)
  case atStart => exact ⟨0, Nat.zero_le _, by simp, h0, Holds.refl _ _⟩
  case round =>
    obtain ⟨k, hk, rfl, hJs, hnx⟩ := hrel
    have hbx : wr.cell? ⟨Bs, 0, none⟩ = some (.slice A bs.length c) := (hnx.cell (p := ⟨Bs, 0, none⟩) hBn).trans hBs
    by_cases hlt : k < bs.length
    · obtain ⟨m, hm⟩ : ∃ m : Nat, m = bs.length - 1 - k := ⟨_, rfl⟩
      have ei : (bs.length : Int) - 1 - (k : Int) = (m : Int) := by omega
      have hml : m < bs.length := by omega
      obtain ⟨b, o, rfl, hb, hc⟩ := HX.out (by rintro rfl; simp at hlt)
      have hcell : wr.cell? ⟨b, o + m, none⟩ = some (bv bs[m]) := (hnx.cell (p := ⟨b, o + m, none⟩) (hSv b rfl)).trans (hc m _ (List.getElem?_eq_getElem hml))
      have hfe : fromEnd bs k = (m, bs[m]) := by unfold fromEnd; rw [← hm, List.getElem?_eq_getElem hml]; rfl
      obtain ⟨fn, tmps, assign, body, hy, hR⟩ := hY _ (m, bs[m]) wr hJs (by rw [upto_length]; exact hlt)
      obtain ⟨z, hz⟩ : ∃ z, z = bs[m] := ⟨_, rfl⟩
      rw [← hz] at hcell hfe hy hR
      dsimp only at hy
      unfold bv at hcell
      have HFE := Lib.hid hfe
      have HM := Lib.hid hm
      have EI := Lib.hid ei
      rw [ei]
      clear hz hfe hm hc ei
      gi_wp2
      refine hR.mono ?_
      rintro e W3 (⟨rfl, hJ3, hk3⟩ | ⟨rfl, hJx3⟩)
      · gi_wp2
        go_roundw
        case rel => exact ⟨k + 1, by omega, by congr 1; have := EI.out; omega, by rw [upto_succ, HFE.out]; exact hJ3, hnx.trans hk3⟩
        case measure => simp [intOf]
      · gi_wp2
        refine bodyPost_ret (results_none rfl _ _ _) rfl ?_
        exact ⟨⟨_, rfl⟩, .inr ⟨_, ⟨k + 1, by omega, by rw [upto_succ, HFE.out]⟩, hJx3⟩⟩
    · obtain rfl : k = bs.length := by omega
      gi_wp2
      go_end0
      exact ⟨⟨_, rfl⟩, .inl ⟨_, rfl, hJs⟩⟩

set_option maxHeartbeats 1000000 in
/-- slices.Backward(s): the slice value is boxed; the function value captures the box. -/
theorem backw_in (F : Fence) (n : Nat) (hf : F.fn 30) (hro : F.round = none) (a : Option Addr) (len cap : Nat) (w : World) :
    CallsIn F n Tryd.prog 30 #[.slice a len cap] w fun e w' => e = .returned (.func (.func 36) #[] #[.pointer (some ⟨w.heap.size, 0, none⟩)]) ∧ w' = w.alloc (.cells #[.slice a len cap] 22) := by
  refine callsIn_of_wp Tryd.func30 rfl hf ?_ hro
  simp only [Tryd.ntmps30, List.size_toArray, List.length_cons, List.length_nil, Nat.reduceAdd, Nat.reduceSub, Array.replicate_succ, Array.replicate_zero, List.push_toArray, List.append_toArray, List.nil_append, List.cons_append]
  gi_wp2
  go_ret
  exact ⟨rfl, rfl⟩

/-- What slices.Backward hands back: all bytes from the end on; or the first k of them. -/
theorem backw_stops (F : Fence) (n : Nat) (hf : F.fn 36) (hro : F.round = none) (hn : 1 ≤ n) (Bs B : Nat) (S : Nat → Prop) (v : Value) (bs : List UInt8) (w : World) (hBs : S Bs) (hBw : Bs < w.heap.size) (hB : B ≤ w.heap.size) (hSv : ∀ k, v.ownBlock = some k → S k)
    (hc : w.cell? ⟨Bs, 0, none⟩ = some v) (hv : Byt w B v bs) :
    SeqStopsK F n Tryd.prog 36 #[.pointer (some ⟨Bs, 0, none⟩)] (fun x : Nat × UInt8 => #[Value.int .i64 (x.1 : Int), Value.int .u8 (x.2.toNat : Int)]) (Holds S) (fun ys => ys = upto (fromEnd bs) bs.length) (fun pre => ∃ k, k ≤ bs.length ∧ pre = upto (fromEnd bs) k) bs.length w := fun l J Jx W hW _ _ hY h0 => by
  have hc' := (hW.cell (p := ⟨Bs, 0, none⟩) hBw).trans hc
  exact backw1_in F n hf hro hn l Bs B S v bs J Jx hY W hc' hBs (hv.keep fun b o hb => hW.cell (p := ⟨b, o, none⟩) (by show b < _; omega)) hSv h0
end Go.Proofs.YtehodjbjioepnaaDoor

/-
  text.spell: the letters of an alphabet at these places. Conditions: each place is in the alphabet; sizes within the reach.
-/
namespace Go.Proofs.YtehodjbjioepnaaDoor
open Go.RowKit

def letters (s : ByteArray) (ps : List UInt8) : List UInt8 := ps.map fun p => s.data.toList.getD p.toNat 0
theorem letters_length (s : ByteArray) (ps : List UInt8) : (letters s ps).length = ps.length := by simp [letters]
theorem letters_at {s : ByteArray} {ps : List UInt8} {i : Nat} {p : UInt8} (hp : ps[i]? = some p) (h : p.toNat < s.size) : (letters s ps)[i]? = some (s[p.toNat]'h) := by
  unfold letters
  rw [List.getElem?_map, hp]
  simp only [Option.map_some]
  rw [List.getD_eq_getElem?_getD, Lib.data_getElem? s _ h]
  rfl

theorem go_bv (u : UInt8) : bv u = .int .u8 (u.toNat : Int) := rfl

set_option maxRecDepth 100000 in
set_option maxHeartbeats 1600000 in
theorem spell_any (B : Nat) (x : Value) (ps : List UInt8) (s : ByteArray) (w : World) (hx : Byt w B x ps) (hB : B ≤ w.heap.size) (hl : ps.length ≤ 60000) (hin : ∀ p ∈ ps, p.toNat < s.size) :
    Calls Tryd.prog 19 #[x, .string s] w fun e w' => e = .returned (.string ⟨(letters s ps).toArray⟩) ∧ Below w.heap.size w w' := by
  obtain ⟨A, c, hxf⟩ := hx.form
  subst hxf
  have hmk := fun W => make_bytes W ps.length (ps.length : Int) rfl (by omega)
  have hX := Lib.hid hx
  have HIN := Lib.hid hin
  clear hx hin
  obtain ⟨ls, hls⟩ : ∃ ls, ls = letters s ps := ⟨_, rfl⟩
  have hll : ls.length = ps.length := by rw [hls, letters_length]
  rw [← hls]
  have HLS := Lib.hid hls
  have HLL := Lib.hid hll
  clear hls hll
  go_enter Tryd.func19, Tryd.ntmps19
  go_wp2_with fail
  clear hmk
  go_loopw [13] (fun j wr => ∃ i : Nat, i ≤ ps.length ∧ j = .int .i64 i ∧ FillB w w.heap.size i ls wr) (fun j _ => ps.length - (intOf j).toNat)
  case atStart => exact ⟨0, Nat.zero_le _, rfl, _, rfl, by simpa [HLL.out] using row_new w ps.length, (Below.refl _ _).alloc (Nat.le_refl _) _⟩
  case round =>
    obtain ⟨i, hi, rfl, hfill⟩ := hrel
    by_cases hlt : i < ps.length
    · obtain ⟨zs, hz, hrow, hbel⟩ := hfill
      have hcell : wr.cell? ⟨w.heap.size, i, none⟩ = some (.int .u8 0) := hrow.cell (fillB_zero (by rw [HLL.out]; exact hlt) hz)
      have hfree := hrow.free i
      obtain ⟨A', c', e0, _, _, _, h4⟩ := hX.out
      injection e0 with e1 e2 e3
      subst e1 e3
      obtain ⟨b, o, rfl, hb, hbc⟩ := h4 (by rintro rfl; simp at hlt)
      have hci := hbc i _ (List.getElem?_eq_getElem hlt)
      obtain ⟨q, hq⟩ : ∃ q, q = ps[i] := ⟨_, rfl⟩
      rw [← hq] at hci
      have hqs : q.toNat < s.size := HIN.out q (by rw [hq]; exact List.getElem_mem hlt)
      have hbi : wr.cell? ⟨b, o + i, none⟩ = some (.int .u8 (q.toNat : Int)) := (hbel.cell (p := ⟨b, _, none⟩) (by show b < _; omega)).trans hci
      have hat : ls[i]? = some (s[q.toNat]'hqs) := by rw [HLS.out]; exact letters_at (by rw [hq]; exact List.getElem?_eq_getElem hlt) hqs
      have HQ := Lib.hid hq
      have HZ := Lib.hid hz
      have HR := Lib.hid hrow
      have HA := Lib.hid hat
      clear hq hz hrow hci hbc h4 hat
      go_wp2
      refine ⟨⟨i + 1, by omega, by go_num, ?_⟩, ?_⟩
      · exact fillB_next (by rw [HLL.out]; exact hlt) HA.out HZ.out (HR.out.set _) (hbel.setCell (Nat.le_refl _) _)
      · simp [intOf]; omega
    · have hie : i = ls.length := by rw [HLL.out]; omega
      rw [hie] at hfill
      obtain ⟨hrow, hbel⟩ := fillB_end hfill
      have hby := hrow.byt (n := ls.length) (c := ls.length) (Nat.le_refl _) (Nat.le_refl _) (by have := HLL.out; unfold maxLen; omega)
      rw [List.take_length, HLL.out] at hby
      have hrs := run_string_of (P := Tryd.prog) wr 22 9 5 slice_u8 Tryd.underlying5 Tryd.underlying9 _ _ ls hby
      clear hby hrow hie hfill
      go_wp2
      go_ret
      exact ⟨rfl, hbel⟩

end Go.Proofs.YtehodjbjioepnaaDoor

/-
  text.places: where each byte of a text stands in an alphabet. Conditions: sizes within the reach.
-/
namespace Go.Proofs.YtehodjbjioepnaaDoor
open Go.RowKit

set_option maxRecDepth 100000 in
set_option maxHeartbeats 800000 in
theorem slite_any (s : ByteArray) (c : Int) (w : World) :
    Calls Tryd.prog 40 #[.string s, .int .u8 c] w fun e w' => e = .returned (.int .i64 (Lib.indexByte s.data.toList c.toNat.toUInt8)) ∧ w = w' := by
  go_enter Tryd.func40, Tryd.ntmps40
  go_wp2
  rw [run_callFunc_extern Tryd.func43 (by kernel_rfl) (by kernel_rfl) (by kernel_rfl) (e := Extern.BytealgIndexByte.indexByte) (by kernel_rfl), Lib.run_indexByteString]
  simp only [Result.andThen]
  rw [Oper.upon_value]
  go_wp2
  go_ret
  exact ⟨rfl, rfl⟩

set_option maxRecDepth 100000 in
set_option maxHeartbeats 800000 in
theorem sbyte_any (s : ByteArray) (c : Int) (w : World) :
    Calls Tryd.prog 35 #[.string s, .int .u8 c] w fun e w' => e = .returned (.int .i64 (Lib.indexByte s.data.toList c.toNat.toUInt8)) ∧ w = w' := by
  have C := Lib.hid (slite_any s c)
  go_enter Tryd.func35, Tryd.ntmps35
  go_wp2_with fail
  refine (C.out _).mono ?_
  rintro e w' ⟨rfl, rfl⟩
  go_wp2
  go_ret
  exact ⟨rfl, rfl⟩

/-- Where a byte stands. -/
def posB (al : ByteArray) (c : UInt8) : Int := Lib.indexByte al.data.toList c
def placesB (al : ByteArray) (cs : List UInt8) : List UInt8 := cs.map fun c => b8 (posB al c)
theorem placesB_length (al : ByteArray) (cs : List UInt8) : (placesB al cs).length = cs.length := by simp [placesB]

/-- What places answers. -/
def PlacesPost (w : World) (al : ByteArray) (cs : List UInt8) (e : Ending) (w' : World) : Prop :=
  Below w.heap.size w w' ∧ ((∀ c ∈ cs, 0 ≤ posB al c) ∧ e = .returned (.tuple #[.slice (some ⟨w.heap.size, 0, none⟩) cs.length cs.length, .bool true]) ∧ Row w' w.heap.size (placesB al cs) ∨
    (∃ c ∈ cs, posB al c < 0) ∧ e = .returned (.tuple #[.slice none 0 0, .bool false]))

theorem u8_back (c : UInt8) : ((c.toNat : Int)).toNat.toUInt8 = c := by simp

set_option maxRecDepth 100000 in
set_option maxHeartbeats 1600000 in
theorem places_any (s al : ByteArray) (w : World) (hl : s.size ≤ 60000) (hal : al.size ≤ 255) :
    Calls Tryd.prog 24 #[.string s, .string al] w (PlacesPost w al s.data.toList) := by
  have hmk := fun W => make_bytes W s.size (s.size : Int) rfl (by omega)
  obtain ⟨ls, hls⟩ : ∃ ls, ls = placesB al s.data.toList := ⟨_, rfl⟩
  have hll : ls.length = s.size := by rw [hls, placesB_length]; rfl
  have HLS := Lib.hid hls
  have HLL := Lib.hid hll
  clear hls hll
  go_enter Tryd.func24, Tryd.ntmps24
  go_wp2_with fail
  clear hmk
  go_loopw [14] (fun j wr => ∃ i : Nat, i ≤ s.size ∧ j = .int .i64 i ∧ FillB w w.heap.size i ls wr ∧ ∀ c ∈ s.data.toList.take i, 0 ≤ posB al c) (fun j _ => s.size - (intOf j).toNat)
  case atStart => exact ⟨0, Nat.zero_le _, rfl, ⟨_, rfl, by simpa [HLL.out] using row_new w s.size, (Below.refl _ _).alloc (Nat.le_refl _) _⟩, by simp⟩
  case round =>
    obtain ⟨i, hi, rfl, hfill, hall⟩ := hrel
    by_cases hlt : i < s.size
    · obtain ⟨zs, hz, hrow, hbel⟩ := hfill
      have hcell : wr.cell? ⟨w.heap.size, i, none⟩ = some (.int .u8 0) := hrow.cell (fillB_zero (by rw [HLL.out]; exact hlt) hz)
      have hfree := hrow.free i
      have hsi : s.data.toList[i]? = some (s[i]'hlt) := Lib.data_getElem? s i hlt
      have hC := sbyte_any al ((s[i]'hlt).toNat : Int)
      rw [u8_back] at hC
      have hp : Lib.indexByte al.data.toList (s[i]'hlt) = posB al (s[i]'hlt) := rfl
      rw [hp] at hC
      have hge := Lib.indexByte_ge al.data.toList (s[i]'hlt)
      rw [hp] at hge
      have hle : posB al (s[i]'hlt) < al.size ∨ posB al (s[i]'hlt) = -1 := by
        by_cases h : posB al (s[i]'hlt) = -1
        · exact .inr h
        · obtain ⟨o, ho⟩ : ∃ o : Nat, posB al (s[i]'hlt) = o := ⟨(posB al (s[i]'hlt)).toNat, by omega⟩
          have := (List.getElem?_eq_some_iff.1 (Lib.indexByte_some (by rw [hp]; exact ho)).1).1
          exact .inl (by rw [ho]; have h2 : al.data.toList.length = al.size := rfl; omega)
      have hat : ls[i]? = some (b8 (posB al (s[i]'hlt))) := by
        rw [HLS.out]; unfold placesB; rw [List.getElem?_map, hsi]; rfl
      obtain ⟨q, hq⟩ : ∃ q, q = posB al (s[i]'hlt) := ⟨_, rfl⟩
      rw [← hq] at hC hge hle hat
      have htk : s.data.toList.take (i + 1) = s.data.toList.take i ++ [s[i]'hlt] := by
        rw [List.take_add_one, hsi]; rfl
      have HC := Lib.hid hC
      have HQ := Lib.hid hq
      have HZ := Lib.hid hz
      have HR := Lib.hid hrow
      have HA := Lib.hid hat
      have HT := Lib.hid htk
      have HS := Lib.hid hsi
      clear hC hq hz hrow hat hp htk hsi
      by_cases hneg : q < 0
      · have hd : decide (q < 0) = true := decide_eq_true hneg
        go_wp2_with fail
        refine (HC.out _).mono ?_
        rintro e w' ⟨rfl, rfl⟩
        go_wp2
        go_ret2
        exact ⟨hbel, .inr ⟨⟨s[i]'hlt, List.mem_of_getElem? HS.out, by rw [← HQ.out]; exact hneg⟩, rfl⟩⟩
      · have hd : decide (q < 0) = false := decide_eq_false hneg
        have hw : IntKind.u8.wrap q = q := by rw [IntKind.wrap_u8]; omega
        go_wp2_with fail
        refine (HC.out _).mono ?_
        rintro e w' ⟨rfl, rfl⟩
        go_wp2
        refine ⟨⟨i + 1, by omega, by go_num, fillB_next (by rw [HLL.out]; exact hlt) HA.out HZ.out ?_ (hbel.setCell (Nat.le_refl _) _), ?_⟩, by simp [intOf]; omega⟩
        · have h1 := HR.out.set (i := i) (b8 q)
          rw [bv_b8_of (by omega) (by omega)] at h1
          exact h1
        · intro c hc
          rw [HT.out] at hc
          rcases List.mem_append.1 hc with h | h
          · exact hall c h
          · rw [List.mem_singleton.1 h, ← HQ.out]; omega
    · have hie : i = ls.length := by rw [HLL.out]; omega
      have hall2 : ∀ c ∈ s.data.toList, 0 ≤ posB al c := fun c hc => hall c (by rwa [List.take_of_length_le (by have h2 : s.data.toList.length = s.size := rfl; omega)])
      rw [hie] at hfill
      have HF := Lib.hid (fillB_end hfill)
      have HA := Lib.hid hall2
      clear hie hfill hall hall2
      go_wp2
      go_ret2
      exact ⟨HF.out.2, .inl ⟨HA.out, rfl, by rw [← HLS.out]; exact HF.out.1⟩⟩

end Go.Proofs.YtehodjbjioepnaaDoor
