/-
  Texts joined: Base, SnPure, Wire. Conditions: those of each.
-/
import Derived.Test.YtocblkacdoahfaaGreatDoorProg
import Derived.WalkKit
import Derived.WalkSpells
import Derived.WalkLawsBesides
import Derived.Maps.AppendAt
import Derived.Deep.Draws
import Derived.KernelRfl
import Derived.Lib.Hide
/-
  Bytes in memory: what it means that a slice value reads as a list of bytes, what a call leaves as it was, and an append onto a row of the call's own. Conditions: none (plain lemmas, over any program).
-/
namespace Go.Proofs.YtocblkacdoahfaaGreatDoor
open Go.RowKit

/-- One byte, as a value. -/
def bv (c : UInt8) : Value := .int .u8 (c.toNat : Int)

theorem bv_inj {a b : UInt8} (h : bv a = bv b) : a = b := by
  unfold bv at h
  injection h with _ h
  exact UInt8.toNat_inj.1 (by omega)

theorem bv_one (c : UInt8) : (bv c).oneCell' = true := rfl

/-- From a to w only blocks of S, and new ones, have turned. -/
structure Turns (S : Nat → Prop) (a w : World) : Prop where
  os : w.os = a.os
  tape : w.tape = a.tape
  output : w.output = a.output
  size : a.heap.size ≤ w.heap.size
  block : ∀ k, k < a.heap.size → ¬ S k → w.heap[k]? = a.heap[k]?

section
variable {S S' : Nat → Prop} {a b c w : World}
theorem Turns.refl (S : Nat → Prop) (a : World) : Turns S a a := ⟨rfl, rfl, rfl, Nat.le_refl _, fun _ _ _ => rfl⟩
theorem Turns.trans (h : Turns S a b) (k : Turns S' b c) (hs : ∀ i, i < a.heap.size → S' i → S i) : Turns S a c :=
  ⟨k.os.trans h.os, k.tape.trans h.tape, k.output.trans h.output, Nat.le_trans h.size k.size,
    fun i hi hn => (k.block i (Nat.lt_of_lt_of_le hi h.size) (fun e => hn (hs i hi e))).trans (h.block i hi hn)⟩
theorem Turns.mono (h : Turns S a b) (hs : ∀ i, i < a.heap.size → S i → S' i) : Turns S' a b := ⟨h.os, h.tape, h.output, h.size, fun i hi hn => h.block i hi (fun e => hn (hs i hi e))⟩
theorem Turns.alloc (h : Turns S a b) (o : Obj) : Turns S a (b.alloc o) :=
  h.trans (S' := fun _ => False) ⟨rfl, rfl, rfl, by simp, fun k hk _ => Below.heap_alloc _ _ _ hk⟩ (fun _ _ h => h.elim)
theorem Turns.drew (h : Turns S a b) : Turns S a b.drew := ⟨h.os, h.tape, h.output, h.size, h.block⟩
theorem Turns.drewN (h : Turns S a b) (n : Nat) : Turns S a (b.drewN n) := ⟨h.os, h.tape, h.output, h.size, h.block⟩
theorem Turns.setCell (h : Turns S a b) {p : Addr} (hp : p.block < a.heap.size → S p.block) (u : Value) : Turns S a (b.setCell p u) :=
  ⟨h.os, h.tape, h.output, by simpa [World.setCell] using h.size, fun k hk hn => (Below.heap_setCell _ _ _ _ (by rintro rfl; exact hn (hp hk))).trans (h.block k hk hn)⟩
theorem Turns.grown (h : Turns S a b) {row : Option Nat} (hg : b.grownBy c row) (hr : ∀ k, row = some k → k < a.heap.size → S k) : Turns S a c :=
  ⟨hg.os.trans h.os, hg.tape.trans h.tape, hg.output.trans h.output, Nat.le_trans h.size hg.size,
    fun k hk hn => (hg.block k (Nat.lt_of_lt_of_le hk h.size) (fun e => hn (hr k e.symm hk))).trans (h.block k hk hn)⟩
theorem Turns.cell (h : Turns S a w) {p : Addr} (hp : p.block < a.heap.size) (hn : ¬ S p.block) : w.cell? p = a.cell? p := World.cell?_of_block (w := a) (h.block p.block hp hn)
theorem Turns.frozen (h : Turns S a w) {p : Addr} (hp : p.block < a.heap.size) (hn : ¬ S p.block) : w.frozen? p = a.frozen? p := World.frozen?_of_block (w := a) (h.block p.block hp hn)
theorem Turns.below (h : Turns S a w) (hs : ∀ i, i < a.heap.size → ¬ S i) : Below a.heap.size a w := ⟨h.os, h.tape, h.output, h.size, fun k hk => h.block k hk (hs k hk)⟩
theorem Turns.of_below (h : Below a.heap.size a w) : Turns S a w := ⟨h.os, h.tape, h.output, h.size, fun k hk _ => h.block k hk⟩
theorem Turns.below_of {B : Nat} (h : Turns S a w) (hB : B ≤ a.heap.size) (hs : ∀ i, i < B → ¬ S i) : Below B a w := ⟨h.os, h.tape, h.output, h.size, fun k hk => h.block k (by omega) (hs k hk)⟩
end

/-- The slice value v holds the bytes xs, in a block below B (or is empty). -/
def Byt (w : World) (B : Nat) (v : Value) (xs : List UInt8) : Prop :=
  ∃ A c, v = .slice A xs.length c ∧ xs.length ≤ c ∧ c ≤ maxLen ∧ (A = none → xs = [] ∧ c = 0) ∧
    (xs ≠ [] → ∃ b o, A = some ⟨b, o, none⟩ ∧ b < B ∧ ∀ j u, xs[j]? = some u → w.cell? ⟨b, o + j, none⟩ = some (bv u))

section
variable {w w' : World} {B B' : Nat} {v : Value} {xs : List UInt8}
theorem Byt.keep (h : Byt w B v xs) (hk : ∀ b o, b < B → w'.cell? ⟨b, o, none⟩ = w.cell? ⟨b, o, none⟩) : Byt w' B v xs := by
  obtain ⟨A, c, hv, hl, hm, hA, hx⟩ := h
  refine ⟨A, c, hv, hl, hm, hA, fun hne => ?_⟩
  obtain ⟨b, o, e, hb, hc⟩ := hx hne
  exact ⟨b, o, e, hb, fun j u hu => (hk _ _ hb).trans (hc j u hu)⟩
theorem Byt.more (h : Byt w B v xs) (hB : B ≤ B') : Byt w B' v xs := by
  obtain ⟨A, c, hv, hl, hm, hA, hx⟩ := h
  refine ⟨A, c, hv, hl, hm, hA, fun hne => ?_⟩
  obtain ⟨b, o, e, hb, hc⟩ := hx hne
  exact ⟨b, o, e, by omega, hc⟩
theorem Byt.below (h : Byt w B v xs) (hb : Below B w w') : Byt w' B v xs := h.keep fun _ _ hp => hb.cell (p := ⟨_, _, none⟩) hp
theorem Byt.len (h : Byt w B v xs) : xs.length ≤ maxLen := by
  obtain ⟨A, c, hv, hl, hm, _⟩ := h
  omega
theorem Byt.nil (w : World) (B : Nat) : Byt w B (.slice none 0 0) [] := ⟨none, 0, rfl, Nat.le_refl _, by unfold maxLen; omega, fun _ => ⟨rfl, rfl⟩, fun h => absurd rfl h⟩
theorem Byt.of_own {base : Nat} {e : TypeId} (h : w.ownsRow base e 1 v xs.length (xs.map bv)) : Byt w w.heap.size v xs := by
  rcases h.2 with ⟨rfl, hn⟩ | ⟨g, cap, cur, rfl, _, hg, hnc, hcm, _, _⟩
  · obtain rfl : xs = [] := List.eq_nil_of_length_eq_zero hn
    exact Byt.nil _ _
  · refine ⟨some ⟨g, 0, none⟩, cap, rfl, hnc, hcm, (by intro h; cases h), fun hne => ⟨g, 0, rfl, (h.lt g rfl).2, fun j u hu => ?_⟩⟩
    have hc := h.cells (g := g) rfl j (bv u) (by rw [List.getElem?_map, hu]; rfl)
    have hadd : (⟨g, 0, none⟩ : Addr).add j = ⟨g, 0 + j, none⟩ := by unfold Addr.add; split <;> simp_all
    rw [← hadd]; exact hc
end

/-- `ownsRow` over bytes; the row is of one-cell elements. -/
theorem map_bv_length (xs : List UInt8) : (xs.map bv).length = xs.length := by simp

theorem own_block_other {w : World} {base g : Nat} {e t : TypeId} {v : Value} {n : Nat} {xs : List Value} {cs : Array Value} {m : Nat × Nat}
    (h : w.ownsRow base e 1 v n xs) (hg : w.heap[g]? = some (.cells cs t m)) (hne : e ≠ t) : v.ownBlock ≠ some g := by
  rcases h.2 with ⟨rfl, _⟩ | ⟨g', cap, cur, rfl, _, hh, _⟩
  · simp [Value.ownBlock]
  · intro he
    have e1 : g' = g := by simpa [Value.ownBlock] using he
    subst e1
    rw [hh] at hg
    injection hg with hg
    injection hg with _ ht
    exact hne ht

theorem own_turns {S : Nat → Prop} {w w' : World} {base : Nat} {e : TypeId} {size n : Nat} {v : Value} {xs : List Value}
    (h : w.ownsRow base e size v n xs) (ht : Turns S w w') (hS : ∀ k, v.ownBlock = some k → ¬ S k) : w'.ownsRow base e size v n xs := by
  refine ⟨h.1, ?_⟩
  rcases h.2 with hn | ⟨g, cap, cur, rfl, hb, hgg, rest⟩
  · exact .inl hn
  · refine .inr ⟨g, cap, cur, rfl, hb, ?_, rest⟩
    rw [ht.block g (Array.getElem?_eq_some_iff.1 hgg).1 (hS g rfl)]
    exact hgg

/-- append of bytes onto a row of the call's own: the source reads as bytes (it may be nil or empty). -/
theorem run_append_bytes {P : Program} (w : World) (base : Nat) (t ty e : TypeId) (i : TypeInfo) (ht : P.underlying t = some (.slice e)) (hi : P.info? e = some i)
    (hz : i.zero = some (.int .u8 0)) (hsize : i.size = 1) (hby : i.bytes = 1) (v : Value) (n : Nat) (xs : List Value) (hown : w.ownsRow base e 1 v n xs)
    (B : Nat) (x : Value) (ys : List UInt8) (hr : Byt w B x ys) (hb : n + ys.length ≤ 140737488355328) (hbase : base ≤ w.heap.size) :
    ∃ v' w', (Builtin.append_ #[t, t] ty #[v, x]).run P w = .ok v' w' ∧ w'.ownsRow base e 1 v' (n + ys.length) (xs ++ ys.map bv) ∧ w.grownBy w' v.ownBlock ∧
      (v'.ownBlock = v.ownBlock ∨ v'.ownBlock = some w.heap.size) := by
  obtain ⟨A, c, rfl, hl, hm, hA, hx⟩ := hr
  rcases A with _ | ad
  · obtain ⟨rfl, rfl⟩ := hA rfl
    refine ⟨v, w, ?_, by simpa using hown, ⟨rfl, rfl, rfl, Nat.le_refl _, fun _ _ _ => rfl⟩, .inl rfl⟩
    rcases hown.2 with ⟨rfl, rfl⟩ | ⟨g, cap, cur, rfl, _, _, hnc, _⟩
    · simp [Builtin.append_, run_underlying ht, sizeOf, typeInfo, hi, Builtin.lenOf, Builtin.firstCells]
    · simp [Builtin.append_, run_underlying ht, sizeOf, typeInfo, hi, Builtin.lenOf, Builtin.firstCells, hnc, storeCells]
  · have hcells : ∀ j u, (ys.map bv)[j]? = some u → w.cell? (ad.add j) = some u := by
      intro j u hu
      rw [List.getElem?_map] at hu
      cases hy : ys[j]? with
      | none => rw [hy] at hu; cases hu
      | some q =>
        rw [hy] at hu
        injection hu with hu
        subst hu
        have hne : ys ≠ [] := by rintro rfl; simp at hy
        obtain ⟨b, o, hAe, _, hc⟩ := hx hne
        injection hAe with hAe
        subst hAe
        have hadd : (⟨b, o, none⟩ : Addr).add j = ⟨b, o + j, none⟩ := by unfold Addr.add; split <;> simp_all
        rw [hadd]; exact hc j q hy
    obtain ⟨v', w', hrun, h2, h3, _, h5⟩ := run_append_own_at (P := P) w base t ty e i (.int .u8 0) 1 1 ht hi hz hsize hby rfl (by decide) v n xs hown ad ys.length c (ys.map bv)
      (by simp) hcells (by intro u hu; obtain ⟨q, _, rfl⟩ := List.mem_map.1 hu; rfl) (by unfold maxLen; omega) (by omega) hbase
    exact ⟨v', w', hrun, h2, h3, h5⟩

/-- At the operation. -/
theorem wpList_append_bytes {P : Program} {w : World} {ops : Array Oper} {rest : List Oper} {o : Oper} {a : Act} {Q : Exit → Act → World → Prop} (hgd : o.guard = none) (s x : Operand) (t : TypeId)
    (ho : o.op = .call { callee := .builtin .append, args := #[s, x], argTypes := #[t, t] })
    (base : Nat) (e : TypeId) (i : TypeInfo) (ht : P.underlying t = some (.slice e)) (hi : P.info? e = some i)
    (hz : i.zero = some (.int .u8 0)) (hsize : i.size = 1) (hby : i.bytes = 1)
    (v : Value) (n : Nat) (xs : List Value) (hs : a.eval s = v) (hown : w.ownsRow base e 1 v n xs)
    (B : Nat) (u : Value) (ys : List UInt8) (hx : a.eval x = u) (hr : Byt w B u ys) (hb : n + ys.length ≤ 140737488355328) (hbase : base ≤ w.heap.size)
    (h : ∀ v' w', w'.ownsRow base e 1 v' (n + ys.length) (xs ++ ys.map bv) → w.grownBy w' v.ownBlock → (v'.ownBlock = v.ownBlock ∨ v'.ownBlock = some w.heap.size) → wpList P ops Q rest (a.put o.dst v') w') :
    wpList P ops Q (o :: rest) a w := by
  refine wpList_plain hgd fun K hK => ?_
  obtain ⟨v', w', hrun, h2, h3, h4⟩ := run_append_bytes (P := P) w base t o.type e i ht hi hz hsize hby v n xs hown B u ys hr hb hbase
  unfold Oper.wp execOp
  simp only [ho, resolve, invoke, builtin, Sem.run_bind, Sem.run_pure, Result.andThen_ok, List.map_toArray, List.map_cons, List.map_nil, hs, hx, hrun]
  exact hK _ _ (h v' w' h2 h3 h4)

/-! Numbers as bytes -/
/-- The lowest byte of a number. -/
def b8 (n : Int) : UInt8 := UInt8.ofNat (n % 256).toNat
theorem b8_toNat (n : Int) : ((b8 n).toNat : Int) = n % 256 := by
  unfold b8
  rw [UInt8.toNat_ofNat']
  omega
theorem bv_b8 (n : Int) : bv (b8 n) = .int .u8 (n % 256) := by unfold bv; rw [b8_toNat]
theorem bv_b8_of {n : Int} (h0 : 0 ≤ n) (h1 : n < 256) : bv (b8 n) = .int .u8 n := by rw [bv_b8, Int.emod_eq_of_lt h0 h1]
/-- The lowest k bytes, the lowest first. -/
def low (n : Int) : Nat → List UInt8
  | 0 => []
  | k + 1 => b8 n :: low (n / 256) k
theorem low_length (n : Int) (k : Nat) : (low n k).length = k := by
  induction k generalizing n with
  | zero => rfl
  | succ k ih => simp [low, ih]

/-- A block that has just been made, of just these bytes. -/
theorem Byt.made (w : World) (e : TypeId) (l : List Value) (ys : List UInt8) (h : l = ys.map bv) (hl : ys.length ≤ maxLen) :
    Byt (w.alloc (.cells l.toArray e)) (w.heap.size + 1) (.slice (some ⟨w.heap.size, 0, none⟩) ys.length ys.length) ys := by
  refine ⟨_, _, rfl, Nat.le_refl _, hl, (by intro h; cases h), fun _ => ⟨_, _, rfl, by omega, fun j u hu => ?_⟩⟩
  rw [Nat.zero_add]
  show (w.alloc (.cells l.toArray e)).cell? ⟨w.heap.size, j, none⟩ = _
  rw [cell_of_row _ w.heap.size j _ _ _ (heap_alloc_new w _), h]
  simp [hu]

/-- A slice of bytes as a string. -/
theorem run_string_of {P : Program} (w : World) (src dst e : TypeId) (hs : P.underlying src = some (.slice e)) (he : P.underlying e = some (.int .u8)) (hd : P.underlying dst = some .string)
    (B : Nat) (v : Value) (xs : List UInt8) (h : Byt w B v xs) : (convert src dst v).run P w = .ok (.string ⟨xs.toArray⟩) w := by
  obtain ⟨A, c, rfl, hl, hm, hA, hx⟩ := h
  rcases A with _ | ad
  · obtain ⟨rfl, rfl⟩ := hA rfl
    rw [run_convert_bytes_string w src dst e none _ _ hs he hd]
    simp [Conv.bytesToString, Sem.run_pure]
    rfl
  · refine run_convert_bytes_back w src dst e ad c xs hs he hd fun j hj => ?_
    have hne : xs ≠ [] := by rintro rfl; simp at hj
    obtain ⟨b, o, hAe, _, hc⟩ := hx hne
    injection hAe with hAe
    subst hAe
    have hadd : (⟨b, o, none⟩ : Addr).add j = ⟨b, o + j, none⟩ := by unfold Addr.add; split <;> simp_all
    rw [hadd]
    exact hc j _ (List.getElem?_eq_getElem hj)

theorem own_form {w : World} {base : Nat} {e : TypeId} {size n : Nat} {v : Value} {xs : List Value} (h : w.ownsRow base e size v n xs) : ∃ A c, v = .slice A n c := by
  rcases h.2 with ⟨rfl, rfl⟩ | ⟨g, cap, cur, rfl, _⟩
  · exact ⟨_, _, rfl⟩
  · exact ⟨_, _, rfl⟩

end Go.Proofs.YtocblkacdoahfaaGreatDoor

/-
  Numbers as bytes of a script: as few bytes as hold the absolute value, a sign in the last one; plain lemmas. Conditions: none.
-/
namespace Go.Proofs.YtocblkacdoahfaaGreatDoor.Sn

/-- The number of bytes, the lowest first. -/
def valN : List UInt8 → Nat
  | [] => 0
  | b :: bs => b.toNat + 256 * valN bs
/-- The fewest bytes that hold a number, the lowest first. -/
def bytesN (m : Nat) : List UInt8 := if m = 0 then [] else UInt8.ofNat (m % 256) :: bytesN (m / 256)
termination_by m
decreasing_by omega
theorem bytesN_zero : bytesN 0 = [] := by unfold bytesN; rfl
theorem bytesN_pos {m : Nat} (h : 0 < m) : bytesN m = UInt8.ofNat (m % 256) :: bytesN (m / 256) := by rw [bytesN, if_neg (by omega)]
theorem u8_of (x : Nat) : (UInt8.ofNat (x % 256)).toNat = x % 256 := by rw [UInt8.toNat_ofNat']; omega
theorem u8_ext {a b : UInt8} (h : a.toNat = b.toNat) : a = b := UInt8.toNat_inj.1 h
theorem valN_bytesN (m : Nat) : valN (bytesN m) = m := by
  induction m using Nat.strongRecOn with
  | _ m ih =>
    by_cases h : m = 0
    · subst h; rw [bytesN_zero]; rfl
    · rw [bytesN_pos (by omega)]
      show (UInt8.ofNat (m % 256)).toNat + 256 * valN (bytesN (m / 256)) = m
      rw [ih (m / 256) (by omega), u8_of]
      omega
theorem valN_append (xs ys : List UInt8) : valN (xs ++ ys) = valN xs + 256 ^ xs.length * valN ys := by
  induction xs with
  | nil => simp [valN]
  | cons c cs ih =>
    simp only [List.cons_append, valN, ih, List.length_cons, Nat.pow_succ, Nat.mul_add]
    rw [← Nat.mul_assoc, Nat.mul_comm 256 (256 ^ cs.length)]
    omega
theorem valN_snoc0 (xs : List UInt8) : valN (xs ++ [0]) = valN xs := by rw [valN_append]; simp [valN]
theorem valN_lt (xs : List UInt8) : valN xs < 256 ^ xs.length := by
  induction xs with
  | nil => simp [valN]
  | cons b bs ih =>
    have hb := b.toNat_lt
    simp only [valN, List.length_cons, Nat.pow_succ]
    omega
theorem bytesN_snoc (fr : List UInt8) (x : UInt8) (hx : x ≠ 0) : bytesN (valN (fr ++ [x])) = fr ++ [x] := by
  have hx' : 0 < x.toNat := Nat.pos_of_ne_zero fun h => hx (u8_ext h)
  have hb := x.toNat_lt
  induction fr with
  | nil =>
    show bytesN (x.toNat + 256 * 0) = [x]
    rw [Nat.mul_zero, Nat.add_zero, bytesN_pos hx', Nat.div_eq_of_lt hb, bytesN_zero]
    congr 1
    exact u8_ext (by rw [u8_of]; omega)
  | cons c cs ih =>
    have hc := c.toNat_lt
    have hpos : 0 < valN (cs ++ [x]) := by
      rw [valN_append]
      have : 0 < 256 ^ cs.length * valN [x] := Nat.mul_pos (Nat.pow_pos (by decide)) (by show 0 < x.toNat + 256 * 0; omega)
      omega
    show bytesN (c.toNat + 256 * valN (cs ++ [x])) = c :: (cs ++ [x])
    rw [bytesN_pos (by omega), show (c.toNat + 256 * valN (cs ++ [x])) / 256 = valN (cs ++ [x]) by omega, ih]
    congr 1
    exact u8_ext (by rw [u8_of]; omega)
theorem bytesN_le (xs : List UInt8) : (bytesN (valN xs)).length ≤ xs.length := by
  induction xs with
  | nil => show (bytesN 0).length ≤ 0; rw [bytesN_zero]; exact Nat.le_refl _
  | cons c cs ih =>
    have hc := c.toNat_lt
    show (bytesN (c.toNat + 256 * valN cs)).length ≤ _
    by_cases h : c.toNat + 256 * valN cs = 0
    · rw [h, bytesN_zero]; simp
    · rw [bytesN_pos (by omega), show (c.toNat + 256 * valN cs) / 256 = valN cs by omega]
      simp only [List.length_cons]
      omega
theorem bytesN_len (k : Nat) : ∀ m, m < 256 ^ k → (bytesN m).length ≤ k := by
  induction k with
  | zero => intro m h; obtain rfl : m = 0 := by simpa using h
            rw [bytesN_zero]; simp
  | succ k ih =>
    intro m h
    by_cases hm : m = 0
    · subst hm; rw [bytesN_zero]; simp
    · rw [bytesN_pos (by omega)]
      have := ih (m / 256) (by rw [Nat.pow_succ] at h; omega)
      simp only [List.length_cons]
      omega
theorem bytesN_last (m : Nat) (h : 0 < m) : ∃ fr x, bytesN m = fr ++ [x] ∧ x ≠ 0 := by
  induction m using Nat.strongRecOn with
  | _ m ih =>
    by_cases h1 : m < 256
    · refine ⟨[], UInt8.ofNat (m % 256), ?_, ?_⟩
      · rw [bytesN_pos h, Nat.div_eq_of_lt h1, bytesN_zero]; rfl
      · intro e
        have := congrArg UInt8.toNat e
        rw [u8_of] at this
        simp at this
        omega
    · obtain ⟨fr, x, e, hx⟩ := ih (m / 256) (by omega) (by omega)
      exact ⟨UInt8.ofNat (m % 256) :: fr, x, by rw [bytesN_pos h, e]; rfl, hx⟩

/-- The absolute value; the least number counts as the next greater one. -/
def mag (n : Int) : Nat := if n = -9223372036854775808 then 9223372036854775807 else n.natAbs
/-- A zero byte more where the last one's top bit is taken. -/
def topped (b : List UInt8) : List UInt8 := if 128 ≤ (b.getLast?.getD 0).toNat then b ++ [0] else b
/-- The sign in the last byte. -/
def signd (b : List UInt8) : List UInt8 := b.set (b.length - 1) (UInt8.ofNat ((b.getLast?.getD 0).toNat % 128 + 128))
def numB (n : Int) : List UInt8 := if n < 0 then signd (topped (bytesN (mag n))) else topped (bytesN (mag n))
theorem topped_nil : topped [] = [] := rfl
theorem topped_hi {fr : List UInt8} {x : UInt8} (h : 128 ≤ x.toNat) : topped (fr ++ [x]) = fr ++ [x] ++ [0] := by unfold topped; rw [List.getLast?_concat]; exact if_pos h
theorem topped_lo {fr : List UInt8} {x : UInt8} (h : x.toNat < 128) : topped (fr ++ [x]) = fr ++ [x] := by unfold topped; rw [List.getLast?_concat]; exact if_neg (by show ¬ 128 ≤ x.toNat; omega)
theorem signd_snoc (fr : List UInt8) (x : UInt8) : signd (fr ++ [x]) = fr ++ [UInt8.ofNat (x.toNat % 128 + 128)] := by
  unfold signd
  rw [List.getLast?_concat, List.length_append, List.length_cons, List.length_nil, Nat.zero_add, Nat.add_sub_cancel]
  simp

/-- The number that bytes say. -/
def valS (b : List UInt8) : Int := if 128 ≤ (b.getLast?.getD 0).toNat then -(valN (b.dropLast ++ [UInt8.ofNat ((b.getLast?.getD 0).toNat % 128)]) : Int) else valN b
theorem valS_nil : valS [] = 0 := rfl
theorem valS_hi {fr : List UInt8} {x : UInt8} (h : 128 ≤ x.toNat) : valS (fr ++ [x]) = -(valN (fr ++ [UInt8.ofNat (x.toNat % 128)]) : Int) := by unfold valS; rw [List.getLast?_concat, List.dropLast_concat]; exact if_pos h
theorem valS_lo {fr : List UInt8} {x : UInt8} (h : x.toNat < 128) : valS (fr ++ [x]) = valN (fr ++ [x]) := by unfold valS; rw [List.getLast?_concat]; exact if_neg (by show ¬ 128 ≤ x.toNat; omega)
theorem lo128 {x : UInt8} (h : x.toNat < 128) : UInt8.ofNat (x.toNat % 128) = x := u8_ext (by rw [UInt8.toNat_ofNat']; omega)
theorem to_lo (x : UInt8) : (UInt8.ofNat (x.toNat % 128)).toNat = x.toNat % 128 := by rw [UInt8.toNat_ofNat']; omega
theorem to_hi (x : UInt8) : (UInt8.ofNat (x.toNat % 128 + 128)).toNat = x.toNat % 128 + 128 := by rw [UInt8.toNat_ofNat']; omega
theorem hi128 {x : UInt8} (h : 128 ≤ x.toNat) : UInt8.ofNat ((UInt8.ofNat (x.toNat % 128)).toNat % 128 + 128) = x := u8_ext (by have := x.toNat_lt; rw [UInt8.toNat_ofNat', to_lo]; omega)
theorem valN_last_lt {fr : List UInt8} {x : UInt8} (hl : fr.length ≤ 7) (hx : x.toNat < 128) : valN (fr ++ [x]) < 9223372036854775808 := by
  have h1 := valN_lt fr
  have h2 : 256 ^ fr.length ≤ 256 ^ 7 := Nat.pow_le_pow_right (by decide) hl
  have h3 : (256 : Nat) ^ 7 = 72057594037927936 := by decide
  have h4 : 256 ^ fr.length * x.toNat ≤ 72057594037927936 * 127 := Nat.mul_le_mul (by omega) (by omega)
  rw [valN_append]
  show valN fr + 256 ^ fr.length * (x.toNat + 256 * 0) < _
  rw [Nat.mul_zero, Nat.add_zero]
  omega
theorem mag_nat {m : Nat} : mag (m : Int) = m := by unfold mag; rw [if_neg (by omega)]; exact Int.natAbs_natCast m
theorem mag_neg {m : Nat} (h : m < 9223372036854775808) : mag (-(m : Int)) = m := by unfold mag; rw [if_neg (by omega)]; omega

/-- Are these bytes as few as can be? -/
def fewest (b : List UInt8) : Bool := !(decide ((b.getLast?.getD 0).toNat % 128 = 0) && (decide (b.length ≤ 1) || decide ((b.dropLast.getLast?.getD 0).toNat < 128)))

theorem signd_length (b : List UInt8) : (signd b).length = b.length := by unfold signd; simp
theorem topped_le (b : List UInt8) : (topped b).length ≤ b.length + 1 := by unfold topped; split <;> simp
theorem numB_le (n : Int) : (numB n).length ≤ (bytesN (mag n)).length + 1 := by
  unfold numB
  split
  · rw [signd_length]; exact topped_le _
  · exact topped_le _

theorem numB_nat (m : Nat) : numB (m : Int) = topped (bytesN m) := by unfold numB; rw [if_neg (by omega), mag_nat]
theorem numB_neg {m : Nat} (h0 : 0 < m) (h : m < 9223372036854775808) : numB (-(m : Int)) = signd (topped (bytesN m)) := by unfold numB; rw [if_pos (by omega), mag_neg h]
theorem numB_neg0 : numB (-((0 : Nat) : Int)) = [] := by show numB 0 = []; unfold numB mag; simp [bytesN_zero, topped_nil]

theorem snoc_cases (b : List UInt8) : b = [] ∨ ∃ fr x, b = fr ++ [x] := by
  rcases List.eq_nil_or_concat b with h | ⟨fr, x, h⟩
  · exact .inl h
  · exact .inr ⟨fr, x, by rw [h, List.concat_eq_append]⟩

/-- The number's bytes are these again just if they are as few as can be. -/
theorem again_snoc (fr : List UInt8) (x : UInt8) (hl : fr.length ≤ 7) : decide (numB (valS (fr ++ [x])) = fr ++ [x]) = fewest (fr ++ [x]) := by
  have hxl := x.toNat_lt
  have hb := valN_last_lt (fr := fr) (x := UInt8.ofNat (x.toNat % 128)) hl (by rw [to_lo]; omega)
  have hfew : fewest (fr ++ [x]) = !(decide (x.toNat % 128 = 0) && (decide (fr.length ≤ 0) || decide ((fr.getLast?.getD 0).toNat < 128))) := by
    unfold fewest
    rw [List.getLast?_concat, List.dropLast_concat, List.length_append, List.length_cons, List.length_nil]
    simp
  rw [hfew]
  by_cases hy : x.toNat % 128 = 0
  · rw [decide_eq_true hy, Bool.true_and]
    have hy0 : UInt8.ofNat (x.toNat % 128) = 0 := by rw [hy]; rfl
    rw [hy0, valN_snoc0] at hb
    have hval : valS (fr ++ [x]) = if 128 ≤ x.toNat then -(valN fr : Int) else (valN fr : Int) := by
      split
      · rw [valS_hi ‹_›, hy0, valN_snoc0]
      · have hx0 : x = 0 := u8_ext (by show x.toNat = 0; omega)
        rw [valS_lo (by omega), hx0, valN_snoc0]
    rcases snoc_cases fr with rfl | ⟨gr, z, rfl⟩
    · rw [hval]
      have : numB (if 128 ≤ x.toNat then -((valN [] : Nat) : Int) else ((valN [] : Nat) : Int)) = [] := by
        split
        · exact numB_neg0
        · exact numB_neg0
      rw [this]
      simp
    · have hpos : decide ((gr ++ [z]).length ≤ 0) = false := by simp
      rw [hpos, Bool.false_or, List.getLast?_concat]
      show _ = !decide (z.toNat < 128)
      by_cases hz : z.toNat < 128
      · rw [decide_eq_true hz]
        refine decide_eq_false fun he => ?_
        have hlen := congrArg List.length he
        rw [hval] at hlen
        by_cases hz0 : z = 0
        · subst hz0
          rw [valN_snoc0] at hlen
          have h1 := bytesN_le gr
          have h2 := numB_le (if 128 ≤ x.toNat then -(valN gr : Int) else (valN gr : Int))
          rw [show mag (if 128 ≤ x.toNat then -(valN gr : Int) else (valN gr : Int)) = valN gr by split; exact mag_neg (by rw [valN_snoc0] at hb; exact hb); exact mag_nat] at h2
          simp at hlen
          omega
        · have h3 : numB (if 128 ≤ x.toNat then -(valN (gr ++ [z]) : Int) else (valN (gr ++ [z]) : Int)) = if 128 ≤ x.toNat then (if 0 < valN (gr ++ [z]) then signd (gr ++ [z]) else []) else gr ++ [z] := by
            split
            · split
              · rw [numB_neg ‹_› hb, bytesN_snoc _ _ hz0, topped_lo hz]
              · rw [show valN (gr ++ [z]) = 0 by omega]; exact numB_neg0
            · rw [numB_nat, bytesN_snoc _ _ hz0, topped_lo hz]
          rw [h3] at hlen
          split at hlen
          · split at hlen
            · rw [signd_length] at hlen; simp at hlen
            · simp at hlen
          · simp at hlen
      · rw [decide_eq_false hz]
        have hz0 : z ≠ 0 := by rintro rfl; exact hz (by decide)
        have hpos2 : 0 < valN (gr ++ [z]) := by
          rw [valN_append]
          have : 0 < 256 ^ gr.length * valN [z] := Nat.mul_pos (Nat.pow_pos (by decide)) (by show 0 < z.toNat + 256 * 0; omega)
          omega
        refine decide_eq_true ?_
        rw [hval]
        split
        · rw [numB_neg hpos2 hb, bytesN_snoc _ _ hz0, topped_hi (by omega), signd_snoc]
          congr 2
          refine u8_ext ?_
          rw [to_hi]
          show 0 % 128 + 128 = _
          omega
        · rw [numB_nat, bytesN_snoc _ _ hz0, topped_hi (by omega)]
          congr 2
          exact u8_ext (by show 0 = x.toNat; omega)
  · rw [decide_eq_false hy]
    show _ = true
    have hyn : UInt8.ofNat (x.toNat % 128) ≠ 0 := fun e => hy (by rw [← to_lo, e]; rfl)
    have hpos : 0 < valN (fr ++ [UInt8.ofNat (x.toNat % 128)]) := by
      rw [valN_append]
      have : 0 < 256 ^ fr.length * valN [UInt8.ofNat (x.toNat % 128)] := Nat.mul_pos (Nat.pow_pos (by decide)) (by show 0 < (UInt8.ofNat (x.toNat % 128)).toNat + 256 * 0; rw [to_lo]; omega)
      omega
    refine decide_eq_true ?_
    by_cases hx : 128 ≤ x.toNat
    · rw [valS_hi hx, numB_neg hpos hb, bytesN_snoc _ _ hyn, topped_lo (by rw [to_lo]; omega), signd_snoc, hi128 hx]
    · have hlo := lo128 (x := x) (by omega)
      rw [hlo] at hyn
      rw [valS_lo (by omega), numB_nat, bytesN_snoc _ _ hyn, topped_lo (by omega)]

theorem again_any (b : List UInt8) (hl : b.length ≤ 8) : decide (numB (valS b) = b) = (decide (b = []) || fewest b) := by
  rcases snoc_cases b with rfl | ⟨fr, x, rfl⟩
  · rw [valS_nil, show numB 0 = [] from numB_neg0]; simp
  · rw [again_snoc fr x (by simp at hl; omega)]
    simp

/-- What is read back of a number's bytes. -/
def clip (n : Int) : Int := if n = -9223372036854775808 then -9223372036854775807 else n
theorem back_numB (n : Int) : valS (numB n) = clip n := by
  have hm : (mag n : Int) = if n < 0 then -clip n else clip n := by unfold mag clip; split <;> split <;> omega
  by_cases h0 : mag n = 0
  · have : n = 0 := by unfold mag at h0; split at h0 <;> omega
    subst this
    rw [show numB 0 = [] from numB_neg0]; rfl
  · obtain ⟨fr, x, e, hx⟩ := bytesN_last (mag n) (by omega)
    have hv : valN (fr ++ [x]) = mag n := by rw [← e, valN_bytesN]
    have hxl := x.toNat_lt
    unfold numB
    rw [e]
    by_cases hn : n < 0
    · rw [if_pos hn] at hm ⊢
      by_cases ht : 128 ≤ x.toNat
      · rw [topped_hi ht, signd_snoc, valS_hi (by rw [to_hi]; omega)]
        rw [show UInt8.ofNat ((UInt8.ofNat ((0 : UInt8).toNat % 128 + 128)).toNat % 128) = 0 from rfl, valN_snoc0, hv]
        omega
      · rw [topped_lo (by omega), signd_snoc, valS_hi (by rw [to_hi]; omega), to_hi]
        rw [show UInt8.ofNat ((x.toNat % 128 + 128) % 128) = x from u8_ext (by rw [UInt8.toNat_ofNat']; omega), hv]
        omega
    · rw [if_neg hn] at hm ⊢
      by_cases ht : 128 ≤ x.toNat
      · rw [topped_hi ht, valS_lo (by decide), valN_snoc0, hv]; exact hm
      · rw [topped_lo (by omega), valS_lo (by omega), hv]; exact hm
theorem numB_clip (n : Int) : numB (clip n) = numB n := by
  unfold clip
  split
  · subst n; rfl
  · rfl

/-- Has it a byte other than 0, where a last byte 128 counts for none? -/
def truthB (b : List UInt8) : Bool := if b.getLast? = some 128 then b.dropLast.any (· != 0) else b.any (· != 0)
theorem truth_nil : truthB [] = false := rfl
theorem truth_sign (fr : List UInt8) : truthB (fr ++ [128]) = fr.any (· != 0) := by unfold truthB; rw [List.getLast?_concat, List.dropLast_concat, if_pos rfl]
theorem truth_plain {fr : List UInt8} {x : UInt8} (h : x ≠ 128) : truthB (fr ++ [x]) = (fr.any (· != 0) || x != 0) := by
  unfold truthB
  rw [List.getLast?_concat, if_neg (by simpa using h), List.any_append]
  simp
theorem truth_numB (n : Int) : truthB (numB n) = decide (n ≠ 0) := by
  by_cases h0 : n = 0
  · subst h0; rw [show numB 0 = [] from numB_neg0]; rfl
  · rw [decide_eq_true h0]
    have hm : 0 < mag n := by unfold mag; split <;> omega
    obtain ⟨fr, x, e, hx⟩ := bytesN_last (mag n) hm
    have hxl := x.toNat_lt
    have hx0 : (x != 0) = true := by simpa using hx
    unfold numB
    rw [e]
    split
    · by_cases ht : 128 ≤ x.toNat
      · rw [topped_hi ht, signd_snoc]
        show truthB (fr ++ [x] ++ [128]) = true
        rw [truth_sign, List.any_append]
        simp [hx0]
      · rw [topped_lo (by omega), signd_snoc, truth_plain]
        · have : (UInt8.ofNat (x.toNat % 128 + 128) != 0) = true := by
            simp only [bne_iff_ne, ne_eq]
            intro e2
            have := congrArg UInt8.toNat e2
            rw [to_hi] at this
            simp at this
          rw [this, Bool.or_true]
        · intro e2
          have := congrArg UInt8.toNat e2
          rw [to_hi] at this
          have h128 : (128 : UInt8).toNat = 128 := rfl
          rw [h128] at this
          exact hx (u8_ext (by show x.toNat = 0; omega))
    · by_cases ht : 128 ≤ x.toNat
      · rw [topped_hi ht, truth_plain (by decide), List.any_append]
        simp [hx0]
      · rw [topped_lo (by omega), truth_plain (by rintro rfl; exact ht (by decide)), hx0, Bool.or_true]
theorem numB_len (n : Int) (h0 : -9223372036854775808 ≤ n) (h1 : n ≤ 9223372036854775807) : (numB n).length ≤ 9 := by
  have h := numB_le n
  have := bytesN_len 8 (mag n) (by rw [show (256 : Nat) ^ 8 = 18446744073709551616 by decide]; unfold mag; split <;> omega)
  omega
end Go.Proofs.YtocblkacdoahfaaGreatDoor.Sn

/-
  What the writer's functions do, said of bytes in memory. Conditions: sizes within the reach.
-/
namespace Go.Proofs.YtocblkacdoahfaaGreatDoor
open Go.RowKit

/-- The row of the table for a byte. -/
theorem info_u8 : (Tryz.prog.info? 5).map (fun i => (i.zero, i.size, i.bytes)) = some (some (.int .u8 0), 1, 1) := by kernel_rfl
theorem slice_u8 : Tryz.prog.underlying 23 = some (.slice 5) := Tryz.underlying23

/-- A writer at block g: it has written xs, in a row of its own from base on. -/
def Wr (w : World) (g base : Nat) (v : Value) (xs : List UInt8) : Prop :=
  w.heap[g]? = some (.cells #[v] 50 (0, 0)) ∧ w.ownsRow base 5 1 v xs.length (xs.map bv)

theorem Wr.cell {w : World} {g base : Nat} {v : Value} {xs : List UInt8} (h : Wr w g base v xs) : w.cell? ⟨g, 0, none⟩ = some v := cell_of_row w g 0 _ _ _ h.1
theorem Wr.free {w : World} {g base : Nat} {v : Value} {xs : List UInt8} (h : Wr w g base v xs) : w.frozen? ⟨g, 0, none⟩ = false := by
  have h1 := h.1
  simp [World.frozen?, h1]
theorem Wr.lt {w : World} {g base : Nat} {v : Value} {xs : List UInt8} (h : Wr w g base v xs) : g < w.heap.size := (Array.getElem?_eq_some_iff.1 h.1).1
theorem Wr.other {w : World} {g base : Nat} {v : Value} {xs : List UInt8} (h : Wr w g base v xs) : v.ownBlock ≠ some g := own_block_other h.2 h.1 (by decide)
theorem Wr.turns {S : Nat → Prop} {w w' : World} {g base : Nat} {v : Value} {xs : List UInt8} (h : Wr w g base v xs) (ht : Turns S w w') (hg : ¬ S g) (hS : ∀ k, v.ownBlock = some k → ¬ S k) : Wr w' g base v xs :=
  ⟨(ht.block g h.lt hg).trans h.1, own_turns h.2 ht hS⟩

/-- One step of a writer: it has written zs in all behind it; only its own blocks have turned. -/
def WrStep (w : World) (g base : Nat) (v : Value) (zs : List UInt8) (w' : World) : Prop :=
  ∃ v', Wr w' g base v' zs ∧ Turns (fun k => k = g ∨ v.ownBlock = some k) w w' ∧ (v'.ownBlock = v.ownBlock ∨ ∃ k, v'.ownBlock = some k ∧ w.heap.size ≤ k)
def WrPost (w : World) (g base : Nat) (v : Value) (zs : List UInt8) (e : Ending) (w' : World) : Prop := e = .returned (.tuple #[]) ∧ WrStep w g base v zs w'

theorem WrStep.pre {w w1 w2 : World} {g base : Nat} {v : Value} {zs : List UInt8} (ht : Turns (fun _ => False) w w1) (h : WrStep w1 g base v zs w2) : WrStep w g base v zs w2 := by
  obtain ⟨v', h1, h2, h3⟩ := h
  refine ⟨v', h1, ?_, ?_⟩
  · refine (ht.mono (fun _ _ h => h.elim)).trans h2 (fun _ _ h => h)
  · rcases h3 with h3 | ⟨k, hk, hs⟩
    · exact .inl h3
    · exact .inr ⟨k, hk, Nat.le_trans ht.size hs⟩

theorem WrStep.next {w w1 w2 : World} {g base : Nat} {v v1 : Value} {zs : List UInt8} (ht : Turns (fun k => k = g ∨ v.ownBlock = some k) w w1) (hv : v1.ownBlock = v.ownBlock ∨ ∃ k, v1.ownBlock = some k ∧ w.heap.size ≤ k)
    (h : WrStep w1 g base v1 zs w2) : WrStep w g base v zs w2 := by
  obtain ⟨v', h1, h2, h3⟩ := h
  refine ⟨v', h1, ht.trans h2 (fun i hi hs => ?_), ?_⟩
  · rcases hs with hs | hs
    · exact .inl hs
    · rcases hv with hv | ⟨k, hk, hle⟩
      · exact .inr (hv ▸ hs)
      · rw [hk] at hs
        injection hs with hs
        omega
  · rcases h3 with h3 | ⟨k, hk, hs⟩
    · rw [h3]
      exact hv
    · exact .inr ⟨k, hk, Nat.le_trans ht.size hs⟩

/-- How many bytes a compact size takes. -/
def sizeLen (n : Int) : Int := if n < 253 then 1 else if n < 65536 then 3 else if n < 4294967296 then 5 else 9

theorem raw_close {w w1 : World} {g base : Nat} {v v1 : Value} {xs ys : List UInt8} (hw : Wr w g base v xs)
    (hown1 : w1.ownsRow base 5 1 v1 (xs.length + ys.length) (xs.map bv ++ ys.map bv)) (hg1 : w.grownBy w1 v.ownBlock) (hat1 : v1.ownBlock = v.ownBlock ∨ v1.ownBlock = some w.heap.size) :
    WrStep w g base v (xs ++ ys) (w1.setCell ⟨g, 0, none⟩ v1) := by
  have hh : w1.heap[g]? = some (.cells #[v] 50 (0, 0)) := (hg1.block g hw.lt (fun e => hw.other e.symm)).trans hw.1
  have hne : v1.ownBlock ≠ some g := own_block_other hown1 hh (by decide)
  refine ⟨v1, ⟨?_, ?_⟩, ?_, ?_⟩
  · simp [World.setCell, Array.getElem?_modify, hh]
  · have := own_turns hown1 ((Turns.refl (fun k => k = g) w1).setCell (p := ⟨g, 0, none⟩) (fun _ => rfl) v1) (fun k hk e => hne (e ▸ hk))
    simpa using this
  · exact ((Turns.refl (fun k => k = g ∨ v.ownBlock = some k) w).grown hg1 (fun k hk _ => .inr hk)).setCell (p := ⟨g, 0, none⟩) (fun _ => .inl rfl) v1
  · rcases hat1 with h | h
    · exact .inl h
    · exact .inr ⟨_, h, Nat.le_refl _⟩

set_option maxRecDepth 100000 in
set_option maxHeartbeats 400000 in
theorem raw_any (g base B : Nat) (v x : Value) (xs ys : List UInt8) (w : World) (hw : Wr w g base v xs) (hr : Byt w B x ys) (hlen : xs.length + ys.length ≤ 60000000) (hbase : base ≤ w.heap.size) :
    Calls Tryz.prog 21 #[.pointer (some ⟨g, 0, none⟩), x] w (WrPost w g base v (xs ++ ys)) := by
  obtain ⟨i0, hi, hz0, hz1, hz2⟩ := info_parts info_u8
  have hc := hw.cell
  have hoth := Lib.hid hw.other
  go_enter Tryz.func21, Tryz.ntmps21
  go_wp2_with (at_builtin; refine wpList_append_bytes rfl (.tmp 8) (.tmp 9) 23 rfl base 5 i0 slice_u8 hi hz0 hz1 hz2 v xs.length (xs.map bv) rfl hw.2 B x ys rfl hr (by omega) hbase ?_; intro v1 w1 hown1 hg1 hat1; obtain ⟨A1, c1, rfl⟩ := own_form hown1; have hg2 := hg1.block g hw.lt (fun e => hoth.out e.symm); have hc1 : w1.cell? ⟨g, 0, none⟩ = some v := (World.cell?_of_block (w := w) hg2).trans hc; have hf1 : w1.frozen? ⟨g, 0, none⟩ = false := (World.frozen?_of_block (w := w) hg2).trans hw.free)
  go_end0
  exact ⟨rfl, raw_close hw hown1 hg1 hat1⟩

theorem Wr.alloc {w : World} {g base : Nat} {v : Value} {xs : List UInt8} (h : Wr w g base v xs) (o : Obj) : Wr (w.alloc o) g base v xs :=
  h.turns ((Turns.refl (fun _ => False) w).alloc o) (fun h => h) (fun _ _ h => h)

/-- Raw of bytes that have just been laid. -/
theorem raw_lit (g base : Nat) (v : Value) (xs ys : List UInt8) (l : List Value) (w : World) (hw : Wr w g base v xs) (hl : l = ys.map bv) (hlen : xs.length + ys.length ≤ 60000000) (hbase : base ≤ w.heap.size) :
    Calls Tryz.prog 21 #[.pointer (some ⟨g, 0, none⟩), .slice (some ⟨w.heap.size, 0, none⟩) ys.length ys.length] (w.alloc (.cells l.toArray 5)) (WrPost w g base v (xs ++ ys)) :=
  (raw_any g base (w.heap.size + 1) v _ xs ys _ (hw.alloc _) (Byt.made w _ l ys hl (by unfold maxLen; omega)) hlen (by simp; omega)).mono
    fun _ _ ⟨he, hs⟩ => ⟨he, WrStep.pre ((Turns.refl _ _).alloc _) hs⟩

set_option maxRecDepth 100000 in
set_option maxHeartbeats 400000 in
theorem u8_any (g base : Nat) (v : Value) (n : Int) (xs : List UInt8) (w : World) (h0 : 0 ≤ n) (h1 : n < 256) (hw : Wr w g base v xs) (hlen : xs.length ≤ 50000000) (hbase : base ≤ w.heap.size) :
    Calls Tryz.prog 18 #[.pointer (some ⟨g, 0, none⟩), .int .u8 n] w (WrPost w g base v (xs ++ [b8 n])) := by
  have hl : [Value.int .u8 n] = [b8 n].map bv := by simp [bv_b8_of h0 h1]
  have HL := Lib.hid hl; clear hl
  go_enter Tryz.func18, Tryz.ntmps18
  go_wp2_with fail
  refine (raw_lit g base v xs [b8 n] _ w hw HL.out (by simp; omega) hbase).mono ?_
  rintro e w' ⟨rfl, hs⟩
  go_wp2
  go_end0
  exact ⟨rfl, hs⟩

set_option maxRecDepth 100000 in
set_option maxHeartbeats 400000 in
theorem u16_any (g base : Nat) (v : Value) (n : Int) (xs : List UInt8) (w : World) (h0 : 0 ≤ n) (h1 : n < 65536) (hw : Wr w g base v xs) (hlen : xs.length ≤ 50000000) (hbase : base ≤ w.heap.size) :
    Calls Tryz.prog 19 #[.pointer (some ⟨g, 0, none⟩), .int .u16 n] w (WrPost w g base v (xs ++ low n 2)) := by
  have hl : [Value.int .u8 (n % 256), Value.int .u8 (n / 256)] = (low n 2).map bv := by simp [low, bv_b8]; omega
  have HL := Lib.hid hl; clear hl
  go_enter Tryz.func19, Tryz.ntmps19
  go_wp2_with fail
  refine (raw_lit g base v xs (low n 2) _ w hw HL.out (by simp [low_length]; omega) hbase).mono ?_
  rintro e w' ⟨rfl, hs⟩
  go_wp2
  go_end0
  exact ⟨rfl, hs⟩

set_option maxRecDepth 100000 in
set_option maxHeartbeats 400000 in
theorem u32_any (g base : Nat) (v : Value) (n : Int) (xs : List UInt8) (w : World) (h0 : 0 ≤ n) (h1 : n < 4294967296) (hw : Wr w g base v xs) (hlen : xs.length ≤ 50000000) (hbase : base ≤ w.heap.size) :
    Calls Tryz.prog 20 #[.pointer (some ⟨g, 0, none⟩), .int .u32 n] w (WrPost w g base v (xs ++ low n 4)) := by
  have hl : [Value.int .u8 (n % 256), Value.int .u8 (n / 256 % 256), Value.int .u8 (n / 65536 % 256), Value.int .u8 (n / 16777216)] = (low n 4).map bv := by simp [low, bv_b8]; omega
  have HL := Lib.hid hl; clear hl
  go_enter Tryz.func20, Tryz.ntmps20
  go_wp2_with fail
  refine (raw_lit g base v xs (low n 4) _ w hw HL.out (by simp [low_length]; omega) hbase).mono ?_
  rintro e w' ⟨rfl, hs⟩
  go_wp2
  go_end0
  exact ⟨rfl, hs⟩


theorem b8_congr {a b : Int} (h : a % 256 = b % 256) : b8 a = b8 b := by unfold b8; rw [h]
theorem cons_congr {a b : UInt8} {l m : List UInt8} (h : a = b) (k : l = m) : a :: l = b :: m := by rw [h, k]
theorem low_eight (n : Int) : low n 8 = low (n % 4294967296) 4 ++ low (n / 4294967296) 4 := by
  simp only [low, List.cons_append, List.nil_append]
  refine cons_congr (b8_congr (by omega)) (cons_congr (b8_congr (by omega)) (cons_congr (b8_congr (by omega)) (cons_congr (b8_congr (by omega)) (cons_congr (b8_congr (by omega)) (cons_congr (b8_congr (by omega)) (cons_congr (b8_congr (by omega)) (cons_congr (b8_congr (by omega)) rfl)))))))

/-- A compact size's bytes. -/
def sizeB (n : Int) : List UInt8 :=
  if n < 253 then [b8 n] else if n < 65536 then b8 253 :: low n 2 else if n < 4294967296 then b8 254 :: low n 4 else b8 255 :: low n 8
theorem sizeB_length (n : Int) : ((sizeB n).length : Int) = sizeLen n := by
  unfold sizeB sizeLen
  split
  · rfl
  split
  · simp [low_length]
  split <;> simp [low_length]
theorem sizeB_le (n : Int) : (sizeB n).length ≤ 9 := by
  unfold sizeB
  split
  · simp
  split
  · simp [low_length]
  split <;> simp [low_length]

theorem Byt.form {w : World} {B : Nat} {v : Value} {xs : List UInt8} (h : Byt w B v xs) : ∃ A c, v = .slice A xs.length c := by
  obtain ⟨A, c, hv, _⟩ := h
  exact ⟨A, c, hv⟩

end Go.Proofs.YtocblkacdoahfaaGreatDoor
