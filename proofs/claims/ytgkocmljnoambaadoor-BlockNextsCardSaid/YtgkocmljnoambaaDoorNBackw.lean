/-
  slices.Backward over an array of 32 bytes that the loop's body may write: each index comes once, the last one first, with the byte that lies there then. Conditions: none.
-/
import Derived.RangeFuncNested
import Derived.RangeFuncBound
import Derived.RangeFuncCalls
import Derived.RangeFuncLeaves
import Derived.RangeFuncBox
import Derived.Shelf.Abstract
import Derived.Shelf.RegionOpen
import Derived.OwnWalkIn
import Derived.TacticsInMore
import Derived.LoopNIn
import Derived.LoopIn
import Derived.RegionIn
import Derived.Test.YtgkocmljnoambaaDoorNSum
namespace Go.Proofs.YtgkocmljnoambaaDoor
open Go.RowKit Go.Shelf

attribute [local go_sem] Oper.semAt_some

/-- What has come when k rounds are over: f 0, .., f (k - 1). -/
def upto {α : Type} (f : Nat → α) (k : Nat) : List α := (List.range k).map f
theorem upto_succ {α : Type} (f : Nat → α) (k : Nat) : upto f (k + 1) = upto f k ++ [f k] := by simp [upto, List.range_succ]
theorem upto_length {α : Type} (f : Nat → α) (k : Nat) : (upto f k).length = k := by simp [upto]

theorem irow_grown {X Y : World} {row : Option Nat} {g : Nat} {t : TypeId} {k : IntKind} {xs : List Int} (h : IRow X g t k xs) (hg : X.grownBy Y row)
    (hr : ∀ r, row = some r → ∃ o : Obj, X.heap[r]? = some o ∧ o.isCells = false) : IRow Y g t k xs :=
  (hg.block g h.lt (fun e => by
    obtain ⟨o, ho, hc⟩ := hr g e.symm
    rw [show X.heap[g]? = _ from h] at ho
    cases ho
    cases hc)).trans h

/-- Block g is a row of 32 bytes. -/
def RowOf (g : Nat) (t : TypeId) (W : World) : Prop := ∃ xs : List Int, xs.length = 32 ∧ IRow W g t .u8 xs
/-- A round leaves block p as it lay, and block g a row of 32 bytes. -/
def KpN (p g : Nat) (t : TypeId) (A B : World) : Prop := B.heap[p]? = A.heap[p]? ∧ (RowOf g t A → RowOf g t B)
theorem KpN.refl (p g : Nat) (t : TypeId) (A : World) : KpN p g t A A := ⟨rfl, id⟩
theorem KpN.trans {p g : Nat} {t : TypeId} {A B C : World} (h : KpN p g t A B) (k : KpN p g t B C) : KpN p g t A C := ⟨k.1.trans h.1, fun x => k.2 (h.2 x)⟩
theorem KpN.putObj {p g : Nat} {t : TypeId} (W : World) (l : Nat) (o : Obj) (h1 : l ≠ p) (h2 : l ≠ g) : KpN p g t W (W.putObj l o) :=
  ⟨by simp [World.putObj, h1], fun ⟨xs, hl, hx⟩ => ⟨xs, hl, (by simp [World.putObj, h2] : (W.putObj l o).heap[g]? = W.heap[g]?).trans hx⟩⟩

/-- The indexes have come from the last one on. -/
def Down (pre : List (Fin 32 × Int)) : Prop := pre.map (fun x => x.1.val) = upto (fun k => 31 - k) pre.length
theorem Down.nil : Down [] := rfl
theorem Down.init {pre : List (Fin 32 × Int)} {x : Fin 32 × Int} (h : Down (pre ++ [x])) : Down pre ∧ x.1.val = 31 - pre.length := by
  unfold Down at h ⊢
  rw [List.length_append, List.length_cons, List.length_nil, Nat.zero_add, upto_succ, List.map_append] at h
  have h2 := List.append_inj h (by simp [upto])
  exact ⟨h2.1, by simpa using h2.2⟩

set_option maxRecDepth 100000 in
set_option maxHeartbeats 2000000 in
theorem backN_in (F : Fence) (n : Nat) (hf : F.fn 45) (hro : F.round = none) (hn : 1 ≤ n) (l Bs g : Nat) (t : TypeId) (J Jx : List (Fin 32 × Int) → World → Prop)
    (hY : ∀ pre x W, J pre W → pre.length < 32 → YieldAt F (n - 1) Tryd.prog l #[.int .i64 ((x.1.val : Nat) : Int), .int .u8 x.2] W fun e W' =>
      (e = .returned (.bool true) ∧ J (pre ++ [x]) W' ∧ KpN Bs g t W W') ∨ (e = .returned (.bool false) ∧ Jx (pre ++ [x]) W'))
    (W : World) (hBs : W.cell? ⟨Bs, 0, none⟩ = some (.slice (some ⟨g, 0, none⟩) 32 32)) (hrow : RowOf g t W) (h0 : J [] W) :
    CallsIn F n Tryd.prog 45 #[.func (.yield l) #[] #[], .pointer (some ⟨Bs, 0, none⟩)] W fun e W' => (∃ v, e = .returned v) ∧
      ((∃ ys, (ys.length = 32 ∧ Down ys) ∧ J ys W') ∨ (∃ pre, True ∧ Jx pre W')) := by
  have HROW := Lib.hid hrow
  clear hrow
  refine callsIn_of_wp Tryd.func45 rfl hf ?_ hro
  simp only [Tryd.ntmps45, List.size_toArray, List.length_cons, List.length_nil, Nat.reduceAdd, Nat.reduceSub, Array.replicate_succ, Array.replicate_zero, List.push_toArray, List.append_toArray, List.nil_append, List.cons_append]
  gi_wp2
  gi_loopw [3] (fun i wr => ∃ (k : Nat) (pre : List (Fin 32 × Int)), k ≤ 32 ∧ Hid (pre.length = k) ∧ Hid (Down pre) ∧ i = .int .i64 ((31 : Int) - k) ∧ J pre wr ∧ KpN Bs g t W wr)
    (fun i _ => (intOf i + 1).toNat)
  case atStart => exact ⟨0, [], by omega, Lib.hid rfl, Lib.hid Down.nil, rfl, h0, KpN.refl _ _ _ _⟩
  case round =>
    obtain ⟨k, pre, hk, hpl, hdn, rfl, hJs, hnx⟩ := hrel
    have hbx : wr.cell? ⟨Bs, 0, none⟩ = some (.slice (some ⟨g, 0, none⟩) 32 32) := (World.cell?_of_block (w := W) hnx.1).trans hBs
    by_cases hlt : k < 32
    · obtain ⟨m, hm⟩ : ∃ m : Nat, m = 31 - k := ⟨_, rfl⟩
      have ei : (31 : Int) - (k : Int) = (m : Int) := by omega
      have hml : m < 32 := by omega
      obtain ⟨xs, hxl, hxr⟩ := hnx.2 HROW.out
      obtain ⟨z, hz⟩ : ∃ z, xs[m]? = some z := ⟨_, List.getElem?_eq_getElem (by omega)⟩
      have hcell : wr.cell? ⟨g, m, none⟩ = some (.int .u8 z) := hxr.cell hz
      obtain ⟨fn, tmps, assign, body, hy, hR⟩ := hY pre (⟨m, hml⟩, z) wr hJs (by rw [hpl.out]; exact hlt)
      dsimp only at hy
      have HM := Lib.hid hm
      have EI := Lib.hid ei
      rw [ei]
      clear hxl hxr hz hm ei
      gi_wp2
      refine hR.mono ?_
      rintro e W3 (⟨rfl, hJ3, hk3⟩ | ⟨rfl, hJx3⟩)
      · gi_wp2
        go_roundw
        case rel => exact ⟨k + 1, pre ++ [(⟨m, hml⟩, z)], by omega, Lib.hid (by rw [List.length_append, hpl.out]; rfl), Lib.hid (by
          have hd := hdn.out
          unfold Down at hd ⊢
          rw [List.length_append, List.length_cons, List.length_nil, Nat.zero_add, upto_succ, List.map_append, hd, hpl.out]
          exact congrArg _ (by show [m] = _; rw [HM.out])), by congr 1; have := EI.out; omega, hJ3, hnx.trans hk3⟩
        case measure => simp [intOf]
      · gi_wp2
        refine bodyPost_ret (results_none rfl _ _ _) rfl ?_
        exact ⟨⟨_, rfl⟩, .inr ⟨_, trivial, hJx3⟩⟩
    · obtain rfl : k = 32 := by omega
      gi_wp2
      go_end0
      exact ⟨⟨_, rfl⟩, .inl ⟨_, ⟨hpl.out, hdn.out⟩, hJs⟩⟩

set_option maxHeartbeats 1000000 in
/-- slices.Backward(s): the slice value is boxed; the function value captures the box. -/
theorem backw_in (F : Fence) (n : Nat) (hf : F.fn 31) (hro : F.round = none) (a : Option Addr) (len cap : Nat) (w : World) :
    CallsIn F n Tryd.prog 31 #[.slice a len cap] w fun e w' => e = .returned (.func (.func 45) #[] #[.pointer (some ⟨w.heap.size, 0, none⟩)]) ∧ w' = w.alloc (.cells #[.slice a len cap] 44) := by
  refine callsIn_of_wp Tryd.func31 rfl hf ?_ hro
  simp only [Tryd.ntmps31, List.size_toArray, List.length_cons, List.length_nil, Nat.reduceAdd, Nat.reduceSub, Array.replicate_succ, Array.replicate_zero, List.push_toArray, List.append_toArray, List.nil_append, List.cons_append]
  gi_wp2
  go_ret
  exact ⟨rfl, rfl⟩

theorem backN_stops (F : Fence) (n : Nat) (hf : F.fn 45) (hro : F.round = none) (hn : 1 ≤ n) (Bs g : Nat) (t : TypeId) (w : World) (hBw : Bs < w.heap.size) (hg : g < w.heap.size)
    (hc : w.cell? ⟨Bs, 0, none⟩ = some (.slice (some ⟨g, 0, none⟩) 32 32)) (hrow : RowOf g t w) :
    SeqStopsK F n Tryd.prog 45 #[.pointer (some ⟨Bs, 0, none⟩)] (fun x : Fin 32 × Int => #[Value.int .i64 ((x.1.val : Nat) : Int), Value.int .u8 x.2]) (KpN Bs g t) (fun ys => ys.length = 32 ∧ Down ys) (fun _ => True) 32 w := fun l J Jx W hW _ _ hY h0 => by
  have hc' := (hW.cell (p := ⟨Bs, 0, none⟩) hBw).trans hc
  obtain ⟨xs, hl, hx⟩ := hrow
  exact backN_in F n hf hro hn l Bs g t J Jx hY W hc' ⟨xs, hl, hx.below hW hg⟩ h0
end Go.Proofs.YtgkocmljnoambaaDoor
