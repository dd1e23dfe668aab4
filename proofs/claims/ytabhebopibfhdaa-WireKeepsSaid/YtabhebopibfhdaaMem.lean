/-
  Lists of bytes with memory of their own: what a store changes, and what an append leaves of the old one. Conditions: sizes within the reach.
-/
import Derived.Test.YtabhebopibfhdaaSpare
import Derived.Deep.DeepAppendRoom
namespace Go.Proofs.Ytabhebopibfhdaa
open Go.RowKit

/-- The slice value x is a row of bytes of its own. -/
def Mem (w : World) (x : Value) (ys : List UInt8) : Prop := w.ownsRow 0 5 1 x ys.length (ys.map bv)

theorem Mem.form {w : World} {x : Value} {ys : List UInt8} (h : Mem w x ys) : ∃ A c, x = .slice A ys.length c := own_form h

/-- A row that isn't empty: its block. -/
theorem Mem.block {w : World} {A : Option Addr} {n c : Nat} {ys : List UInt8} (h : Mem w (.slice A n c) ys) (hn : 0 < ys.length) : ∃ g, A = some ⟨g, 0, none⟩ ∧ n = ys.length ∧ g < w.heap.size ∧ n ≤ c ∧ c ≤ maxLen := by
  rcases h.2 with ⟨_, h0⟩ | ⟨g, cap, cur, e, _, hg, hnc, hcm, _, _⟩
  · omega
  · injection e with e1 e2 e3
    subst e1 e2 e3
    exact ⟨g, rfl, rfl, (Array.getElem?_eq_some_iff.1 hg).1, hnc, hcm⟩

theorem Mem.cell {w : World} {g n c k : Nat} {q : UInt8} {ys : List UInt8} (h : Mem w (.slice (some ⟨g, 0, none⟩) n c) ys) (hk : ys[k]? = some q) : w.cell? ⟨g, k, none⟩ = some (bv q) := by
  have hc := World.ownsRow.cells h (g := g) rfl k (bv q) (by rw [List.getElem?_map, hk]; rfl)
  have hadd : (⟨g, 0, none⟩ : Addr).add k = ⟨g, 0 + k, none⟩ := by unfold Addr.add; split <;> simp_all
  rw [hadd, Nat.zero_add] at hc
  exact hc

theorem Mem.free {w : World} {g n c : Nat} {ys : List UInt8} (h : Mem w (.slice (some ⟨g, 0, none⟩) n c) ys) (k : Nat) : w.frozen? ⟨g, k, none⟩ = false := by
  rcases h.2 with ⟨e, _⟩ | ⟨g', cap, cur, e, _, hg, _⟩
  · cases e
  · injection e with e1 _ _
    injection e1 with e1
    injection e1 with e1
    subst e1
    simp [World.frozen?, hg]

theorem Mem.set {w : World} {g n c : Nat} {ys : List UInt8} (h : Mem w (.slice (some ⟨g, 0, none⟩) n c) ys) (k : Nat) (q : UInt8) : Mem (w.setCell ⟨g, k, none⟩ (bv q)) (.slice (some ⟨g, 0, none⟩) n c) (ys.set k q) := by
  unfold Mem at h ⊢
  rw [List.length_set]
  refine ⟨by simp, ?_⟩
  rcases h.2 with ⟨e, _⟩ | ⟨g', cap, cur, e, hb, hg, hnc, hcm, hcs, ht⟩
  · cases e
  · have e' := e
    injection e' with e1 _ _
    injection e1 with e1
    injection e1 with e1
    subst e1
    refine .inr ⟨g, cap, cur.setIfInBounds k (bv q), e, hb, ?_, hnc, hcm, by simpa using hcs, ?_⟩
    · simp [World.setCell, Array.getElem?_modify, hg]
    · rw [Array.toList_setIfInBounds, List.map_set, ← ht]
      exact List.take_set

theorem Mem.turns {S : Nat → Prop} {w w' : World} {x : Value} {ys : List UInt8} (h : Mem w x ys) (ht : Turns S w w') (hS : ∀ k, x.ownBlock = some k → ¬ S k) : Mem w' x ys := own_turns h ht hS

/-- What an append leaves to be seen through the old slice. -/
theorem append_sees {P : Program} (w : World) (base : Nat) (t ty e : TypeId) (i : TypeInfo) (z : Value) (ht : P.underlying t = some (.slice e)) (hi : P.info? e = some i) (hz : i.zero = some z)
    (hsize : i.size = 1) (hby : i.bytes = 1) (g n cap : Nat) (xs : List Value) (hown : w.ownsRow base e 1 (.slice (some ⟨g, 0, none⟩) n cap) n xs)
    (ad : Addr) (m c : Nat) (news : List Value) (hl : news.length = m * 1) (hnews : ∀ j u, news[j]? = some u → w.cell? (ad.add j) = some u) (h1 : ∀ u ∈ news, u.oneCell' = true)
    (hb : n + m ≤ 140737488355328) (v' : Value) (w' : World) (hr : (Builtin.append_ #[t, t] ty #[.slice (some ⟨g, 0, none⟩) n cap, .slice (some ad) m c]).run P w = .ok v' w') :
    ∀ j u, xs[j]? = some u → w'.cell? ⟨g, j, none⟩ = some u := by
  have hadd : ∀ j, (⟨g, 0, none⟩ : Addr).add j = ⟨g, j, none⟩ := by intro j; unfold Addr.add; split <;> simp_all
  intro j u hj
  by_cases hroom : n + m ≤ cap
  · obtain ⟨w2, hr2, hown2, _⟩ := run_append_own_spare (P := P) w base t ty e i 1 ht hi hsize g n cap xs hown ad m c news hl hnews h1 hroom
    rw [hr2] at hr
    injection hr with _ hw
    subst hw
    have := hown2.cells (g := g) rfl j u (by rw [List.getElem?_append_left (List.getElem?_eq_some_iff.1 hj).1]; exact hj)
    rw [hadd] at this
    exact this
  · have holds : ∀ j u, xs[j]? = some u → w.cell? ((⟨g, 0, none⟩ : Addr).add j) = some u := hown.cells (g := g) rfl
    have hr2 := run_append_grow (P := P) w t ty e i z ht hi hz ⟨g, 0, none⟩ n cap xs (by rw [hsize]; exact hown.1) holds ad m c news (by rw [hsize]; exact hl) hnews (by omega) (by omega)
      (growslice_fits (by omega) (by rw [hby]; omega))
    rw [hr2] at hr
    injection hr with _ hw
    subst hw
    have hc := holds j u hj
    rw [hadd] at hc
    exact (World.cell?_alloc_lt w.drew _ ⟨g, j, none⟩ (World.block_lt_of_cell? w _ hc)).trans hc

/-- What stays to be seen of a list, once it is one's own: its first bytes, in a block below B. -/
def Sees (w : World) (B : Nat) (x : Value) (ys : List UInt8) : Prop :=
  ∀ g n c, x = .slice (some ⟨g, 0, none⟩) n c → g < B ∧ ∀ j q, ys[j]? = some q → w.cell? ⟨g, j, none⟩ = some (bv q)

theorem Mem.sees {w : World} {x : Value} {ys : List UInt8} {B : Nat} (h : Mem w x ys) (hB : ∀ k, x.ownBlock = some k → k < B) : Sees w B x ys := by
  rintro g n c rfl
  exact ⟨hB g rfl, fun j q hq => h.cell hq⟩

theorem Sees.turns {S : Nat → Prop} {w w' : World} {B : Nat} {x : Value} {ys : List UInt8} (h : Sees w B x ys) (ht : Turns S w w') (hB : B ≤ w.heap.size) (hS : ∀ k, x.ownBlock = some k → ¬ S k) : Sees w' B x ys := by
  rintro g n c rfl
  obtain ⟨h1, h2⟩ := h g n c rfl
  exact ⟨h1, fun j q hq => (ht.cell (p := ⟨g, j, none⟩) (Nat.lt_of_lt_of_le h1 hB) (hS g rfl)).trans (h2 j q hq)⟩

/-- At the operation: three bytes more. -/
theorem wpList_append_sees {P : Program} {w : World} {ops : Array Oper} {rest : List Oper} {o : Oper} {a : Act} {Q : Exit → Act → World → Prop} (hgd : o.guard = none) (s x : Operand) (t : TypeId)
    (ho : o.op = .call { callee := .builtin .append, args := #[s, x], argTypes := #[t, t] })
    (i : TypeInfo) (ht : P.underlying t = some (.slice 5)) (hi : P.info? 5 = some i)
    (hz : i.zero = some (.int .u8 0)) (hsize : i.size = 1) (hby : i.bytes = 1)
    (v : Value) (xs : List UInt8) (hs : a.eval s = v) (hown : Mem w v xs)
    (ad : Addr) (m c : Nat) (ys : List UInt8) (hx : a.eval x = .slice (some ad) m c) (hm : ys.length = m) (hm0 : 0 < m) (hnews : ∀ j u, (ys.map bv)[j]? = some u → w.cell? (ad.add j) = some u) (hb : xs.length + m ≤ 140737488355328)
    (h : ∀ g cap w', Mem w' (.slice (some ⟨g, 0, none⟩) (xs.length + m) cap) (xs ++ ys) → w.grownBy w' v.ownBlock → (v.ownBlock = some g ∨ g = w.heap.size) → Sees w' w.heap.size v xs →
      wpList P ops Q rest (a.put o.dst (.slice (some ⟨g, 0, none⟩) (xs.length + m) cap)) w') :
    wpList P ops Q (o :: rest) a w := by
  refine wpList_plain hgd fun K hK => ?_
  have h1 : ∀ u ∈ ys.map bv, u.oneCell' = true := by intro u hu; obtain ⟨q, _, rfl⟩ := List.mem_map.1 hu; rfl
  obtain ⟨v', w', hr, h2, h3, _, h5⟩ := run_append_own_at (P := P) w 0 t o.type 5 i (.int .u8 0) 1 1 ht hi hz hsize hby rfl (by decide) v xs.length (xs.map bv) hown ad m c (ys.map bv)
      (by simp [hm]) hnews h1 (by unfold maxLen; omega) (by omega) (Nat.zero_le _)
  have hmem : Mem w' v' (xs ++ ys) := by
    unfold Mem
    rw [List.length_append, List.map_append, hm]
    exact h2
  obtain ⟨A, cap, rfl⟩ := hmem.form
  obtain ⟨g, rfl, _, _, _⟩ := hmem.block (by rw [List.length_append]; omega)
  have hl : (xs ++ ys).length = xs.length + m := by rw [List.length_append, hm]
  rw [hl] at hr hmem h5
  have hat : v.ownBlock = some g ∨ g = w.heap.size := by
    rcases h5 with h5 | h5
    · exact .inl h5.symm
    · right; simpa [Value.ownBlock] using h5
  have hsees : Sees w' w.heap.size v xs := by
    rintro g0 n0 c0 rfl
    have hn0 : n0 = xs.length := by obtain ⟨A', c', e⟩ := hown.form; injection e
    subst hn0
    have hlt : g0 < w.heap.size := (World.ownsRow.lt hown g0 rfl).2
    refine ⟨hlt, fun j q hq => ?_⟩
    exact append_sees w 0 t o.type 5 i (.int .u8 0) ht hi hz hsize hby g0 xs.length c0 (xs.map bv) hown ad m c (ys.map bv) (by simp [hm]) hnews h1 (by omega) _ _ hr j (bv q) (by rw [List.getElem?_map, hq]; rfl)
  unfold Oper.wp execOp
  simp only [ho, resolve, invoke, builtin, Sem.run_bind, Sem.run_pure, Result.andThen_ok, List.map_toArray, List.map_cons, List.map_nil, hs, hx, hr]
  exact hK _ _ (h g cap w' hmem h3 hat hsees)

/-- Apart's pattern: the bytes of list i. -/
def pat (i n : Nat) : List UInt8 := (List.range n).map fun (k : Nat) => b8 (7 * (i : Int) + (k : Int))
theorem pat_length (i n : Nat) : (pat i n).length = n := by simp [pat]
theorem pat_at {i n k : Nat} (h : k < n) : (pat i n)[k]? = some (b8 (7 * (i : Int) + k)) := by
  unfold pat
  rw [List.getElem?_map, List.getElem?_range h]
  rfl
theorem pat_of {i n : Nat} {c : List UInt8} (hl : c.length = n) (h : ∀ t, t < n → c[t]? = some (b8 (7 * (i : Int) + t))) : c = pat i n := by
  apply List.ext_getElem?
  intro t
  by_cases ht : t < n
  · rw [h t ht, pat_at ht]
  · rw [List.getElem?_eq_none (by omega), List.getElem?_eq_none (by rw [pat_length]; omega)]

/-- The lists: where they lie, and that no two of them (and none and their own row) share a block. -/
structure Lists (w : World) (L m : Nat) (x : Nat → Value) : Prop where
  list : ∀ i, i < m → w.cell? ⟨L, i, none⟩ = some (x i)
  apart : ∀ i j k, i < m → j < m → i ≠ j → (x i).ownBlock = some k → (x j).ownBlock ≠ some k
  off : ∀ i, i < m → (x i).ownBlock ≠ some L
  low : ∀ i k, i < m → (x i).ownBlock = some k → k < w.heap.size

/-- Any of the lists' blocks. -/
def Any (m : Nat) (x : Nat → Value) (k : Nat) : Prop := ∃ j, j < m ∧ (x j).ownBlock = some k

/-- Their contents. -/
def St (w : World) (m : Nat) (x : Nat → Value) (ns : Nat → Nat) (c : Nat → List UInt8) : Prop := ∀ j, j < m → (c j).length = ns j ∧ Mem w (x j) (c j)

def upd (c : Nat → List UInt8) (i : Nat) (ys : List UInt8) : Nat → List UInt8 := fun j => if j = i then ys else c j

theorem St.set {w w0 : World} {L m : Nat} {x : Nat → Value} {ns : Nat → Nat} {c : Nat → List UInt8} {i g n cap : Nat} (h : St w m x ns c) (hL : Lists w0 L m x) (hi : i < m) (hx : x i = .slice (some ⟨g, 0, none⟩) n cap) (k : Nat) (q : UInt8) :
    St (w.setCell ⟨g, k, none⟩ (bv q)) m x ns (upd c i ((c i).set k q)) := by
  intro j hj
  unfold upd
  by_cases hji : j = i
  · subst hji
    rw [if_pos rfl, List.length_set]
    refine ⟨(h j hj).1, ?_⟩
    have := (h j hj).2
    rw [hx] at this ⊢
    exact this.set k q
  · rw [if_neg hji]
    refine ⟨(h j hj).1, (h j hj).2.turns ((Turns.refl (fun b => b = g) w).setCell (fun _ => rfl) _) ?_⟩
    intro b hb e
    subst e
    exact hL.apart j i _ hj hi hji hb (by rw [hx]; rfl)

end Go.Proofs.Ytabhebopibfhdaa
