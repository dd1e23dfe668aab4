/-
  Texts joined: Op, Own, GrpPure. Conditions: those of each.
-/
import Derived.Test.YtgiljhdjknglpaaDoorJ1
import Derived.BigQuiet
import Derived.Deep.QuietTactic
import Derived.IntWalk
import Derived.Deep.RegionHeld
import Derived.OrdersHeld
/-
  An append of bytes, at an operation of a region that draws its order. Conditions: sizes within the reach.
-/
namespace Go.Proofs.YtgiljhdjknglpaaDoor
open Go.RowKit

/-- Says nothing. -/
def AnyW (_ : World) : Prop := True
theorem anyW (w : World) : AnyW w := trivial

theorem op_append_bytes {P : Program} {w : World} {o : Oper} {a : Act} {K : Act → World → Prop} {Q : Exit → Act → World → Prop} (s x : Operand) (t : TypeId)
    (ho : o.op = .call { callee := .builtin .append, args := #[s, x], argTypes := #[t, t] })
    (base : Nat) (e : TypeId) (i : TypeInfo) (ht : P.underlying t = some (.slice e)) (hi : P.info? e = some i)
    (hz : i.zero = some (.int .u8 0)) (hsize : i.size = 1) (hby : i.bytes = 1)
    (v : Value) (n : Nat) (xs : List Value) (hs : a.eval s = v) (hown : w.ownsRow base e 1 v n xs)
    (B : Nat) (u : Value) (ys : List UInt8) (hx : a.eval x = u) (hr : Byt w B u ys) (hb : n + ys.length ≤ 140737488355328) (hbase : base ≤ w.heap.size)
    (h : ∀ v' w', w'.ownsRow base e 1 v' (n + ys.length) (xs ++ ys.map bv) → w.grownBy w' v.ownBlock → (v'.ownBlock = v.ownBlock ∨ v'.ownBlock = some w.heap.size) → K (a.put o.dst v') w') :
    o.wp P a w K Q := by
  obtain ⟨v', w', hrun, h2, h3, h4⟩ := run_append_bytes (P := P) w base t o.type e i ht hi hz hsize hby v n xs hown B u ys hr hb hbase
  unfold Oper.wp execOp
  simp only [ho, resolve, invoke, builtin, Sem.run_bind, Sem.run_pure, Result.andThen_ok, List.map_toArray, List.map_cons, List.map_nil, hs, hx, hrun]
  exact h v' w' h2 h3 h4
end Go.Proofs.YtgiljhdjknglpaaDoor

/-
  A row of bytes of the call's own: what may be read, and what a store changes. Conditions: none.
-/
namespace Go.Proofs.YtgiljhdjknglpaaDoor
open Go.RowKit

/-- The slice value v owns these bytes, in a block from base on. -/
def OwnB (w : World) (base : Nat) (v : Value) (ys : List UInt8) : Prop := w.ownsRow base 5 1 v ys.length (ys.map bv)
theorem OwnB.nil (w : World) (base : Nat) : OwnB w base (.slice none 0 0) [] := World.ownsRow_nil _ _ _ _
theorem OwnB.form {w : World} {base : Nat} {v : Value} {ys : List UInt8} (h : OwnB w base v ys) : ∃ A c, v = .slice A ys.length c := own_form h
theorem OwnB.block {w : World} {base : Nat} {v : Value} {ys : List UInt8} (h : OwnB w base v ys) (hn : 0 < ys.length) : ∃ g c, v = .slice (some ⟨g, 0, none⟩) ys.length c ∧ base ≤ g ∧ g < w.heap.size ∧ ys.length ≤ c := by
  rcases h.2 with ⟨_, h0⟩ | ⟨g, cap, cur, rfl, hb, hg, hnc, _⟩
  · omega
  · exact ⟨g, cap, rfl, hb, (Array.getElem?_eq_some_iff.1 hg).1, hnc⟩
theorem OwnB.cell {w : World} {base g n c k : Nat} {q : UInt8} {ys : List UInt8} (h : OwnB w base (.slice (some ⟨g, 0, none⟩) n c) ys) (hk : ys[k]? = some q) : w.cell? ⟨g, k, none⟩ = some (bv q) := by
  have h1 := World.ownsRow.cells (g := g) h rfl k (bv q) (by rw [List.getElem?_map, hk]; rfl)
  have hadd : (⟨g, 0, none⟩ : Addr).add k = ⟨g, 0 + k, none⟩ := by unfold Addr.add; split <;> simp_all
  rw [hadd, Nat.zero_add] at h1
  exact h1
theorem OwnB.free {w : World} {base g n c : Nat} {ys : List UInt8} (h : OwnB w base (.slice (some ⟨g, 0, none⟩) n c) ys) (k : Nat) : w.frozen? ⟨g, k, none⟩ = false := by
  rcases h.2 with ⟨e, _⟩ | ⟨g', cap, cur, e, _, hg, _⟩
  · cases e
  · injection e with e1 _ _
    injection e1 with e1
    injection e1 with e1
    subst e1
    simp [World.frozen?, hg]
theorem OwnB.set {w : World} {base g n c : Nat} {ys : List UInt8} (h : OwnB w base (.slice (some ⟨g, 0, none⟩) n c) ys) (k : Nat) (q : UInt8) : OwnB (w.setCell ⟨g, k, none⟩ (bv q)) base (.slice (some ⟨g, 0, none⟩) n c) (ys.set k q) := by
  unfold OwnB at h ⊢
  rw [List.length_set]
  refine ⟨by simp, ?_⟩
  rcases h.2 with ⟨e, _⟩ | ⟨g', cap, cur, e, hb, hg, hnc, hcm, hcs, ht⟩
  · cases e
  · have e' := e
    injection e' with e1 _ _
    injection e1 with e1
    injection e1 with e1
    subst e1
    refine .inr ⟨g, cap, cur.setIfInBounds k (bv q), e, hb, ?_, hnc, hcm, by simpa using hcs, ?_⟩
    · simp [World.setCell, Array.getElem?_modify, hg]
    · rw [Array.toList_setIfInBounds, List.map_set, ← ht]
      exact List.take_set
theorem OwnB.byt {w : World} {base : Nat} {v : Value} {ys : List UInt8} (h : OwnB w base v ys) : Byt w w.heap.size v ys := Byt.of_own h
end Go.Proofs.YtgiljhdjknglpaaDoor

/-
  Values of some bits as values of others, on lists of bits. Conditions: none (plain mathematics).
-/
namespace Go.Proofs.YtgiljhdjknglpaaDoor
open Go.RowKit

/-- A list of bits as a number, the first one counts most. -/
def valN (l : List Nat) : Nat := l.foldl (fun a x => 2 * a + x) 0
def Bin (l : List Nat) : Prop := ∀ x ∈ l, x < 2
theorem valN_from (l : List Nat) : ∀ a, l.foldl (fun a x => 2 * a + x) a = a * 2 ^ l.length + valN l := by
  induction l with
  | nil => intro a; simp [valN]
  | cons x l ih =>
    intro a
    have e : valN (x :: l) = x * 2 ^ l.length + valN l := by
      show l.foldl _ (2 * 0 + x) = _
      rw [ih]; simp
    rw [List.foldl_cons, ih, e, List.length_cons, Nat.pow_succ, Nat.add_mul]
    have : 2 * a * 2 ^ l.length = a * (2 ^ l.length * 2) := by rw [Nat.mul_comm 2 a, Nat.mul_assoc, Nat.mul_comm 2]
    omega
theorem valN_cons (x : Nat) (l : List Nat) : valN (x :: l) = x * 2 ^ l.length + valN l := by
  show l.foldl _ (2 * 0 + x) = _
  rw [valN_from]; simp
theorem valN_append (a b : List Nat) : valN (a ++ b) = valN a * 2 ^ b.length + valN b := by
  unfold valN
  rw [List.foldl_append]
  exact valN_from b _
theorem valN_snoc (a : List Nat) (x : Nat) : valN (a ++ [x]) = 2 * valN a + x := by
  rw [valN_append]; simp [valN]; omega
theorem valN_lt {l : List Nat} (h : Bin l) : valN l < 2 ^ l.length := by
  induction l with
  | nil => simp [valN]
  | cons x l ih =>
    have hx := h x List.mem_cons_self
    have := ih (fun y hy => h y (List.mem_cons_of_mem _ hy))
    rw [valN_cons, List.length_cons, Nat.pow_succ]
    have h2 : x * 2 ^ l.length ≤ 1 * 2 ^ l.length := Nat.mul_le_mul_right _ (by omega)
    omega
theorem valN_zeros (n : Nat) : valN (List.replicate n 0) = 0 := by
  induction n with
  | zero => rfl
  | succ n ih => rw [List.replicate_succ, valN_cons, ih]; simp
theorem valN_zero {l : List Nat} (h : valN l = 0) : ∀ x ∈ l, x = 0 := by
  induction l with
  | nil => intro x hx; cases hx
  | cons y l ih =>
    rw [valN_cons] at h
    have h1 : y * 2 ^ l.length = 0 := by omega
    have h2 : valN l = 0 := by omega
    have hp : 0 < 2 ^ l.length := Nat.two_pow_pos _
    have hy : y = 0 := by
      rcases Nat.mul_eq_zero.1 h1 with h | h
      · exact h
      · omega
    intro x hx
    rcases List.mem_cons.1 hx with rfl | hx
    · exact hy
    · exact ih h2 x hx

/-- The n bits of a number. -/
def bitsV (n v : Nat) : List Nat := (List.range n).map fun k => v / 2 ^ (n - 1 - k) % 2
theorem bitsV_length (n v : Nat) : (bitsV n v).length = n := by simp [bitsV]
theorem bitsV_bin (n v : Nat) : Bin (bitsV n v) := by
  intro x hx
  unfold bitsV at hx
  obtain ⟨k, _, rfl⟩ := List.mem_map.1 hx
  exact Nat.mod_lt _ (by omega)
theorem bitsV_succ (n v : Nat) : bitsV (n + 1) v = bitsV n (v / 2) ++ [v % 2] := by
  unfold bitsV
  rw [List.range_succ, List.map_append, List.map_cons, List.map_nil]
  congr 1
  · apply List.map_congr_left
    intro k hk
    have hk := List.mem_range.1 hk
    have e : n + 1 - 1 - k = (n - 1 - k) + 1 := by omega
    rw [e, Nat.pow_succ, Nat.mul_comm, ← Nat.div_div_eq_div_mul]
  · simp
theorem bitsV_val : ∀ (n v : Nat), v < 2 ^ n → valN (bitsV n v) = v
  | 0, v, h => by simp at h; subst h; rfl
  | n + 1, v, h => by
    rw [bitsV_succ, valN_snoc, bitsV_val n (v / 2) (by rw [Nat.pow_succ] at h; omega)]
    omega
theorem val_bitsV : ∀ (l : List Nat), Bin l → bitsV l.length (valN l) = l := by
  intro l
  obtain ⟨r, hr⟩ : ∃ r, r = l.reverse := ⟨_, rfl⟩
  have hp : l = r.reverse := by rw [hr, List.reverse_reverse]
  rw [hp]
  clear hp hr l
  induction r with
  | nil => intro _; rfl
  | cons x r ih =>
    intro h
    rw [List.reverse_cons] at h ⊢
    have hx : x < 2 := h x (by simp)
    have h1 : Bin r.reverse := fun y hy => h y (List.mem_append_left _ hy)
    rw [List.length_append, List.length_cons, List.length_nil, Nat.zero_add, bitsV_succ, valN_snoc]
    have e1 : (2 * valN r.reverse + x) / 2 = valN r.reverse := by omega
    have e2 : (2 * valN r.reverse + x) % 2 = x := by omega
    rw [e1, e2, ih h1]

def bitsAll (n : Nat) (ds : List UInt8) : List Nat := ds.flatMap fun d => bitsV n d.toNat
theorem bitsAll_length (n : Nat) (ds : List UInt8) : (bitsAll n ds).length = ds.length * n := by
  induction ds with
  | nil => simp [bitsAll]
  | cons d ds ih => unfold bitsAll at ih ⊢; rw [List.flatMap_cons, List.length_append, ih, bitsV_length, List.length_cons, Nat.add_mul]; omega
theorem bitsAll_bin (n : Nat) (ds : List UInt8) : Bin (bitsAll n ds) := by
  intro x hx
  unfold bitsAll at hx
  obtain ⟨d, _, h⟩ := List.mem_flatMap.1 hx
  exact bitsV_bin n _ x h
theorem bitsAll_snoc (n : Nat) {ds : List UInt8} {i : Nat} {d : UInt8} (h : ds[i]? = some d) : bitsAll n (ds.take (i + 1)) = bitsAll n (ds.take i) ++ bitsV n d.toNat := by
  unfold bitsAll
  rw [List.take_add_one, h, List.flatMap_append]
  simp
theorem bitsAll_append (n : Nat) (a b : List UInt8) : bitsAll n (a ++ b) = bitsAll n a ++ bitsAll n b := by
  unfold bitsAll
  rw [List.flatMap_append]

/-- The first q values of t bits. -/
def outsN (t : Nat) (l : List Nat) (q : Nat) : List UInt8 := (List.range q).map fun j => b8 ((valN ((l.drop (t * j)).take t) : Nat) : Int)
theorem outsN_length (t : Nat) (l : List Nat) (q : Nat) : (outsN t l q).length = q := by simp [outsN]
theorem outsN_succ (t : Nat) (l : List Nat) (q : Nat) : outsN t l (q + 1) = outsN t l q ++ [b8 ((valN ((l.drop (t * q)).take t) : Nat) : Int)] := by
  unfold outsN
  rw [List.range_succ, List.map_append]
  rfl
theorem outsN_more {t : Nat} {l : List Nat} {q : Nat} (m : List Nat) (h : t * q ≤ l.length) : outsN t (l ++ m) q = outsN t l q := by
  unfold outsN
  apply List.map_congr_left
  intro j hj
  have hj := List.mem_range.1 hj
  have h1 : t * (j + 1) ≤ t * q := Nat.mul_le_mul_left t hj
  have h2 : t * (j + 1) = t * j + t := by rw [Nat.mul_add, Nat.mul_one]
  rw [List.drop_append_of_le_length (by omega), List.take_append_of_le_length (by rw [List.length_drop]; omega)]

/-- One value less in what is left. -/
theorem split_left {l : List Nat} {t : Nat} (hb : Bin l) : valN l / 2 ^ (l.length - t) = valN (l.take t) ∧ valN l % 2 ^ (l.length - t) = valN (l.drop t) := by
  have e : valN l = valN (l.take t) * 2 ^ (l.length - t) + valN (l.drop t) := by
    conv => lhs; rw [← List.take_append_drop t l]
    rw [valN_append, List.length_drop]
  have hlt : valN (l.drop t) < 2 ^ (l.length - t) := by
    have := valN_lt (l := l.drop t) (fun x hx => hb x (List.mem_of_mem_drop hx))
    rwa [List.length_drop] at this
  have hp : 0 < 2 ^ (l.length - t) := Nat.two_pow_pos _
  rw [e]
  constructor
  · rw [Nat.mul_comm, Nat.mul_add_div hp, Nat.div_eq_of_lt hlt, Nat.add_zero]
  · rw [Nat.mul_comm, Nat.mul_add_mod, Nat.mod_eq_of_lt hlt]

/-- What regrouping comes to: an error's number, and the values. -/
def regS (f t : Int) (pad : Bool) (ds : List UInt8) : Int × List UInt8 :=
  if f < 1 ∨ 8 < f ∨ t < 1 ∨ 8 < t then (1, [])
  else if ∃ d ∈ ds, 2 ^ f.toNat ≤ d.toNat then (3, [])
  else
    let l := bitsAll f.toNat ds
    let q := l.length / t.toNat
    let m := l.drop (t.toNat * q)
    if pad then (0, if 0 < m.length then outsN t.toNat l q ++ [b8 ((valN (m ++ List.replicate (t.toNat - m.length) 0) : Nat) : Int)] else outsN t.toNat l q)
    else if f.toNat ≤ m.length ∨ valN m ≠ 0 then (3, []) else (0, outsN t.toNat l q)

theorem b8_of_lt {n : Nat} (h : n < 256) : (b8 (n : Int)).toNat = n := by
  have := b8_toNat (n : Int)
  omega
/-- Values of t bits are the bits again. -/
theorem outs_bits {t : Nat} {l : List Nat} (hb : Bin l) (ht : t ≤ 8) : ∀ q, t * q ≤ l.length → bitsAll t (outsN t l q) = l.take (t * q)
  | 0, _ => by simp [outsN, bitsAll]
  | q + 1, h => by
    have h2 : t * (q + 1) = t * q + t := by rw [Nat.mul_add, Nat.mul_one]
    have ih := outs_bits hb ht q (by omega)
    have hc : ((l.drop (t * q)).take t).length = t := by rw [List.length_take, List.length_drop]; omega
    have hcb : Bin ((l.drop (t * q)).take t) := fun x hx => hb x (List.mem_of_mem_drop (List.mem_of_mem_take hx))
    have hv := valN_lt hcb
    rw [hc] at hv
    have h256 : (2 : Nat) ^ t ≤ 2 ^ 8 := Nat.pow_le_pow_right (by omega) ht
    have hb1 := val_bitsV _ hcb
    rw [hc] at hb1
    rw [outsN_succ, bitsAll_append, ih]
    have e : bitsAll t [b8 ((valN ((l.drop (t * q)).take t) : Nat) : Int)] = (l.drop (t * q)).take t := by
      unfold bitsAll
      simp only [List.flatMap_cons, List.flatMap_nil, List.append_nil]
      rw [b8_of_lt (by omega), hb1]
    rw [e, h2, List.take_add]
theorem outs_small {t : Nat} {l : List Nat} (hb : Bin l) (ht : t ≤ 8) {q : Nat} : ∀ d ∈ outsN t l q, d.toNat < 2 ^ t := by
  intro d hd
  unfold outsN at hd
  obtain ⟨j, hj, rfl⟩ := List.mem_map.1 hd
  have hj := List.mem_range.1 hj
  have hcb : Bin ((l.drop (t * j)).take t) := fun x hx => hb x (List.mem_of_mem_drop (List.mem_of_mem_take hx))
  have hv := valN_lt hcb
  have hl : ((l.drop (t * j)).take t).length ≤ t := List.length_take_le _ _
  have h1 : (2 : Nat) ^ ((l.drop (t * j)).take t).length ≤ 2 ^ t := Nat.pow_le_pow_right (by omega) hl
  have h256 : (2 : Nat) ^ t ≤ 2 ^ 8 := Nat.pow_le_pow_right (by omega) ht
  rw [b8_of_lt (by omega)]
  omega
/-- The values of f bits of bits that were made of values. -/
theorem outs_back {f : Nat} (ds : List UInt8) (hd : ∀ d ∈ ds, d.toNat < 2 ^ f) (z : List Nat) : outsN f (bitsAll f ds ++ z) ds.length = ds := by
  have hl := bitsAll_length f ds
  rw [outsN_more z (by rw [hl, Nat.mul_comm]; exact Nat.le_refl _)]
  induction ds with
  | nil => rfl
  | cons d ds ih =>
    have ih := ih (fun x hx => hd x (List.mem_cons_of_mem _ hx)) (bitsAll_length f ds)
    have hd0 := hd d List.mem_cons_self
    have e : bitsAll f (d :: ds) = bitsV f d.toNat ++ bitsAll f ds := rfl
    rw [List.length_cons]
    unfold outsN at ih ⊢
    rw [List.range_succ_eq_map, List.map_cons, List.map_map, e]
    congr 1
    · rw [Nat.mul_zero, List.drop_zero, List.take_append_of_le_length (by rw [bitsV_length]; exact Nat.le_refl _), List.take_of_length_le (by rw [bitsV_length]; exact Nat.le_refl _), bitsV_val _ _ hd0]
      apply UInt8.toNat_inj.1
      exact b8_of_lt d.toNat_lt
    · refine Eq.trans ?_ ih
      apply List.map_congr_left
      intro j _
      show b8 _ = b8 _
      have e2 : f * (j + 1) = f + f * j := by rw [Nat.mul_add, Nat.mul_one, Nat.add_comm]
      rw [Nat.succ_eq_add_one, e2, ← List.drop_drop, List.drop_append_of_le_length (by rw [bitsV_length]; exact Nat.le_refl _)]
      have e3 : (bitsV f d.toNat).drop f = [] := List.drop_eq_nil_of_le (by rw [bitsV_length]; exact Nat.le_refl _)
      rw [e3, List.nil_append]

/-- Fewer bits a value, padded: and back without a padding. -/
theorem reg_back {f t : Nat} {ds : List UInt8} (hf0 : 1 ≤ f) (hf : f ≤ 8) (ht0 : 1 ≤ t) (ht : t ≤ 8) (htf : t ≤ f) (hd : ∀ d ∈ ds, d.toNat < 2 ^ f) :
    regS t f false (regS f t true ds).2 = (0, ds) := by
  obtain ⟨l, hl⟩ : ∃ l, l = bitsAll f ds := ⟨_, rfl⟩
  have hlen : l.length = ds.length * f := by rw [hl, bitsAll_length]
  have hbin : Bin l := by rw [hl]; exact bitsAll_bin f ds
  obtain ⟨q, hq⟩ : ∃ q, q = l.length / t := ⟨_, rfl⟩
  obtain ⟨m, hm⟩ : ∃ m, m = l.drop (t * q) := ⟨_, rfl⟩
  have hqt : t * q ≤ l.length := by rw [hq]; exact Nat.mul_div_le _ _
  have hmt : l.length < t * q + t := by
    have := Nat.lt_mul_div_succ l.length (show 0 < t by omega)
    rw [← hq, Nat.mul_add, Nat.mul_one] at this
    exact this
  have hml : m.length < t := by rw [hm, List.length_drop]; omega
  have e1 : (f : Int).toNat = f := Int.toNat_natCast _
  have e2 : (t : Int).toNat = t := Int.toNat_natCast _
  have hnb : ¬ ∃ d ∈ ds, 2 ^ f ≤ d.toNat := fun ⟨d, h1, h2⟩ => by have := hd d h1; omega
  -- the values and the bits that they are
  obtain ⟨z, out, hout, hz, hob, hos⟩ : ∃ (z : List Nat) (out : List UInt8), regS f t true ds = (0, out) ∧ (z = List.replicate z.length 0 ∧ z.length < t) ∧ bitsAll t out = l ++ z ∧ ∀ d ∈ out, d.toNat < 2 ^ t := by
    have hreg : regS f t true ds = (0, if 0 < m.length then outsN t l q ++ [b8 ((valN (m ++ List.replicate (t - m.length) 0) : Nat) : Int)] else outsN t l q) := by
      unfold regS
      rw [if_neg (by omega), e1, e2, if_neg hnb]
      simp only [← hl, ← hq, ← hm, if_true]
    by_cases hm0 : 0 < m.length
    · refine ⟨List.replicate (t - m.length) 0, _, by rw [hreg, if_pos hm0], ⟨by simp, by simp; omega⟩, ?_, ?_⟩
      · have hcb : Bin (m ++ List.replicate (t - m.length) 0) := by
          intro x hx
          rcases List.mem_append.1 hx with h | h
          · rw [hm] at h; exact hbin x (List.mem_of_mem_drop h)
          · rw [List.eq_of_mem_replicate h]; omega
        have hcl : (m ++ List.replicate (t - m.length) 0).length = t := by rw [List.length_append, List.length_replicate]; omega
        have hv := valN_lt hcb
        rw [hcl] at hv
        have h256 : (2 : Nat) ^ t ≤ 2 ^ 8 := Nat.pow_le_pow_right (by omega) ht
        have hvb := val_bitsV _ hcb
        rw [hcl] at hvb
        rw [bitsAll_append, outs_bits hbin ht q hqt]
        have e : bitsAll t [b8 ((valN (m ++ List.replicate (t - m.length) 0) : Nat) : Int)] = m ++ List.replicate (t - m.length) 0 := by
          unfold bitsAll
          simp only [List.flatMap_cons, List.flatMap_nil, List.append_nil]
          rw [b8_of_lt (by omega), hvb]
        rw [e, ← List.append_assoc, hm, List.take_append_drop]
      · intro d hd'
        rcases List.mem_append.1 hd' with h | h
        · exact outs_small hbin ht d h
        · have hcb : Bin (m ++ List.replicate (t - m.length) 0) := by
            intro x hx
            rcases List.mem_append.1 hx with h | h
            · rw [hm] at h; exact hbin x (List.mem_of_mem_drop h)
            · rw [List.eq_of_mem_replicate h]; omega
          have hcl : (m ++ List.replicate (t - m.length) 0).length = t := by rw [List.length_append, List.length_replicate]; omega
          have hv := valN_lt hcb
          rw [hcl] at hv
          have h256 : (2 : Nat) ^ t ≤ 2 ^ 8 := Nat.pow_le_pow_right (by omega) ht
          rw [List.mem_singleton.1 h, b8_of_lt (by omega)]
          exact hv
    · have hmn : m = [] := List.eq_nil_of_length_eq_zero (by omega)
      refine ⟨[], _, by rw [hreg, if_neg hm0], ⟨rfl, by simp; omega⟩, ?_, outs_small hbin ht⟩
      rw [outs_bits hbin ht q hqt, List.append_nil]
      have := List.take_append_drop (t * q) l
      rw [← hm, hmn, List.append_nil] at this
      exact this
  rw [hout]
  show regS t f false out = (0, ds)
  have hl2 : (l ++ z).length / f = ds.length := by
    rw [List.length_append, hlen, Nat.mul_comm]
    rw [Nat.mul_add_div (by omega), Nat.div_eq_of_lt (by omega)]
    simp
  have hdrop : (l ++ z).drop (f * ds.length) = z := by
    rw [Nat.mul_comm, ← hlen, List.drop_left]
  have hvz : valN z = 0 := by rw [hz.1]; exact valN_zeros _
  have hnb2 : ¬ ∃ d ∈ out, 2 ^ t ≤ d.toNat := fun ⟨d, h1, h2⟩ => by have := hos d h1; omega
  unfold regS
  rw [if_neg (by omega), e2, e1, if_neg hnb2]
  simp only [hob, hl2, hdrop, hvz]
  rw [if_neg (by simp), if_neg (by simp; omega)]
  rw [hl, outs_back ds hd z]
end Go.Proofs.YtgiljhdjknglpaaDoor
