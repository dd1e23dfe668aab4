/-
  Texts joined: TvT. Conditions: those of each.
-/
import Derived.Test.YthelmclpmalofaaDoorK17
/-
  Rows cut short, and a cell of a row of slices written: what Few leans on. Conditions: none.
-/
namespace Go.Proofs.YthelmclpmalofaaDoor
open Go.RowKit

theorem ownsRow_cut {w : World} {base size n k c : Nat} {e : TypeId} {A : Option Addr} {cs : List Value} (h : w.ownsRow base e size (.slice A n c) n cs) (hk : k ≤ n) (h0 : A = none → k = 0) : w.ownsRow base e size (.slice A k c) k (cs.take (k * size)) := by
  have hl := h.1
  refine ⟨by rw [List.length_take, hl]; exact Nat.min_eq_left (Nat.mul_le_mul_right _ hk), ?_⟩
  rcases h.2 with ⟨e1, hn⟩ | ⟨g, cap, cur, e1, hb, hg, hnc, hcm, hcs, ht⟩
  · injection e1 with e1 e2 e3
    subst e1 e3
    obtain rfl := h0 rfl
    exact .inl ⟨rfl, rfl⟩
  · injection e1 with e1 e2 e3
    subst e1 e3
    refine .inr ⟨g, c, cur, rfl, hb, hg, by omega, hcm, hcs, ?_⟩
    rw [← ht, List.take_take, Nat.min_eq_left (Nat.mul_le_mul_right _ hk)]
theorem own_none {w : World} {base size n c : Nat} {e : TypeId} {cs : List Value} (h : w.ownsRow base e size (.slice none n c) n cs) : n = 0 ∧ c = 0 := by
  rcases h.2 with ⟨e1, hn⟩ | ⟨g, cap, cur, e1, _⟩
  · injection e1 with _ e2 e3
    exact ⟨hn, e3⟩
  · injection e1 with e1 _ _
    cases e1
theorem own_cap {w : World} {base size n c : Nat} {e : TypeId} {A : Option Addr} {cs : List Value} (h : w.ownsRow base e size (.slice A n c) n cs) : n ≤ c ∧ c ≤ 9223372036854775807 := by
  rcases h.2 with ⟨e1, hn⟩ | ⟨g, cap, cur, e1, _, _, hnc, hcm, _⟩
  · injection e1 with _ e2 e3
    omega
  · injection e1 with _ e2 e3
    subst e3
    exact ⟨hnc, hcm⟩
theorem own_some {w : World} {base size n c : Nat} {e : TypeId} {A : Option Addr} {cs : List Value} (h : w.ownsRow base e size (.slice A n c) n cs) (hn : 0 < n) : ∃ g, A = some ⟨g, 0, none⟩ ∧ base ≤ g ∧ g < w.heap.size := by
  rcases h.2 with ⟨e1, h0⟩ | ⟨g, cap, cur, e1, hb, hg, _⟩
  · omega
  · injection e1 with e1 _ _
    subst e1
    exact ⟨g, rfl, hb, (Array.getElem?_eq_some_iff.1 hg).1⟩
theorem OwnB.cut {w : World} {base n k c : Nat} {A : Option Addr} {ys : List UInt8} (h : OwnB w base (.slice A n c) ys) (hn : n = ys.length) (hk : k ≤ n) : OwnB w base (.slice A k c) (ys.take k) := by
  have h1 : w.ownsRow base 5 1 (.slice A n c) n (ys.map bv) := by rw [hn]; rw [hn] at h; exact h
  have h2 := ownsRow_cut h1 hk (fun e => by subst e; have := own_none h1; omega)
  unfold OwnB
  rw [List.length_take, ← hn, Nat.min_eq_left hk, List.map_take]
  rw [Nat.mul_one] at h2
  exact h2
theorem BagAt.cut {w : World} {base n k c : Nat} {A : Option Addr} {L : List (Value × List UInt8)} (h : BagAt w base (.slice A n c) L) (hn : n = L.length) (hk : k ≤ n) : BagAt w base (.slice A k c) (L.take k) := by
  have h1 : w.ownsRow base 27 1 (.slice A n c) n (L.map (·.1)) := by rw [hn]; rw [hn] at h; exact h.1
  have h2 := ownsRow_cut h1 hk (fun e => by subst e; have := own_none h1; omega)
  refine ⟨?_, fun p hp => h.2 p (List.mem_of_mem_take hp)⟩
  rw [List.length_take, ← hn, Nat.min_eq_left hk, List.map_take]
  rw [Nat.mul_one] at h2
  exact h2
/-- A cell of a row of slices is written: every row of slices is one still. -/
def setL (v : Value) (L : List (Value × List UInt8)) (g i : Nat) (u : Value) (zs : List UInt8) : List (Value × List UInt8) := if v.ownBlock = some g then L.set i (u, zs) else L
theorem setL_length (v : Value) (L : List (Value × List UInt8)) (g i : Nat) (u : Value) (zs : List UInt8) : (setL v L g i u zs).length = L.length := by unfold setL; split; rw [List.length_set]; rfl
theorem setL_mem {v : Value} {L : List (Value × List UInt8)} {g i : Nat} {u : Value} {zs : List UInt8} {p : Value × List UInt8} (h : p ∈ setL v L g i u zs) : p ∈ L ∨ p = (u, zs) := by
  unfold setL at h
  split at h
  · exact List.mem_or_eq_of_mem_set h
  · exact .inl h
theorem bag_set {w : World} {base g i : Nat} {v u : Value} {L : List (Value × List UInt8)} {zs : List UInt8} {cs : Array Value} {m : Nat × Nat} (h : BagAt w base v L) (hg : w.heap[g]? = some (.cells cs 27 m)) (hu : OwnB w base u zs) :
    BagAt (w.setCell ⟨g, i, none⟩ u) base v (setL v L g i u zs) := by
  have tt : Turns (fun q => q = g) w (w.setCell ⟨g, i, none⟩ u) := Turns.setCell (S := fun q => q = g) (Turns.refl _ w) (p := ⟨g, i, none⟩) (fun _ => rfl) _
  have hb : ∀ (x : Value) (ys : List UInt8), OwnB w base x ys → OwnB (w.setCell ⟨g, i, none⟩ u) base x ys := fun x ys hx => own_apart hx tt (fun k q _ => by subst q; exact ⟨_, _, _, hg, by decide⟩)
  refine ⟨?_, fun p hp => ?_⟩
  · unfold setL
    split
    · rename_i hv
      obtain ⟨A, c, hf⟩ := h.form
      subst hf
      have hA : A = some ⟨g, 0, none⟩ := by
        rcases h.1.2 with ⟨e1, _⟩ | ⟨g', cap, cur, e1, _⟩
        · rw [e1] at hv; cases hv
        · injection e1 with e1 _ _
          subst e1
          have : g' = g := by simpa [Value.ownBlock] using hv
          rw [this]
      subst hA
      rw [List.length_set, List.map_set]
      exact (World.ownsRow.stored h.1 i u).1
    · rename_i hv
      exact own_turns h.1 tt (fun k hk q => hv (by rw [hk, q]))
  · rcases setL_mem hp with hp | rfl
    · exact hb _ _ (h.2 p hp)
    · exact hb _ _ hu
def setX (x : InV) (g i : Nat) (u : Value) (zs : List UInt8) : InV := ⟨{ x.p with wt := (setL x.wv x.wl g i u zs).map (·.2) }, x.sv, x.wv, setL x.wv x.wl g i u zs⟩
theorem el_set {w : World} {base g i : Nat} {x : InV} {u : Value} {zs : List UInt8} {cs : Array Value} {m : Nat × Nat} (h : El w base x) (hg : w.heap[g]? = some (.cells cs 27 m)) (hu : OwnB w base u zs) : El (w.setCell ⟨g, i, none⟩ u) base (setX x g i u zs) := by
  have tt : Turns (fun q => q = g) w (w.setCell ⟨g, i, none⟩ u) := Turns.setCell (S := fun q => q = g) (Turns.refl _ w) (p := ⟨g, i, none⟩) (fun _ => rfl) _
  exact ⟨⟨h.ok.hl, h.ok.ix0, h.ok.ix1, h.ok.sq0, h.ok.sq1⟩, own_apart h.sc tt (fun k q _ => by subst q; exact ⟨_, _, _, hg, by decide⟩), bag_set h.wt hg hu, rfl⟩
theorem setX_flat (X : List InV) (g i : Nat) (u : Value) (zs : List UInt8) : (X.map (fun x => setX x g i u zs)).flatMap inC = X.flatMap inC := by
  rw [List.flatMap_map]
  rfl
/-- Bounds of an input's parts. -/
structure InV.in (x : InV) (n m : Nat) : Prop where
  sc : x.p.sc.length ≤ m
  wl : x.wl.length ≤ n
  it : ∀ p ∈ x.wl, p.2.length ≤ m
theorem in_set {x : InV} {n m g i : Nat} {u : Value} {zs : List UInt8} (h : x.in n m) (hz : zs.length ≤ m) : (setX x g i u zs).in n m :=
  ⟨h.sc, by show (setL _ _ _ _ _ _).length ≤ n; rw [setL_length]; exact h.wl, fun p hp => by rcases setL_mem hp with hp | rfl; exact h.it p hp; exact hz⟩
end Go.Proofs.YthelmclpmalofaaDoor
