/-
  SighashFree returns true for every input, and leaves each argument as it was. Conditions: none beyond the statement's own (the listed variables hold what the program's text lays; the card ties them).
-/
import Derived.Test.YthelmclpmalofaaDoorK20
import Derived.Test.YthelmclpmalofaaDoorK25
import Derived.OpenShut
import Derived.SizedLaws
import Derived.ChangeMaps5
/-
  SighashFree returns true for every input, and leaves each argument as it was. Conditions: none beyond the statement's own (the listed variables hold what the program's text lays; the card ties them).
-/
namespace Go.Proofs.YthelmclpmalofaaDoor
open Go.ChangeShapes Go.WideShapes Go.ChangeAt Go.RowKit Go.ChangeMaps

set_option maxRecDepth 100000 in
theorem free_lifted (os : Os) (started : os.Started) (H : Type) (enc : TypeId × Value → H) :
    ReturnsInHanded {} Tryd.checked os 5 .any (fun w args => (Rows.sighashFreeSpec.pre enc Tryd.prog Tryd.f5 [] false w args ∧ laidMetH Tryd.prog laidL w) ∧ sizedMet enc Tryd.prog Tryd.f5 (OpenSpec.ofChange Rows.sighashFreeSpec) false w args)
      (Rows.sighashFreeSpec.post enc Tryd.prog Tryd.f5 false true false false) := by
  refine returnsInHanded_of_change_and (C := Tryd.checked) (X := fun w _ => laidMetH Tryd.prog laidL w) (fun _ _ _ hh h => h.of_heap hh) own started (by kernel_rfl) Tryd.func5
    (ChangeSpec.witness_shaped (enc := enc) (C := Tryd.checked) (os := os) (X := fun w _ => laidMetH Tryd.prog laidL w) false (World.doorLaid Tryd.prog 400 os) #[.agg #[.int .i32 0, .slice none 0 0, .slice none 0 0, .int .u32 0], .agg #[.int .i32 0, .slice none 0 0, .slice none 0 0, .int .u32 0], .agg #[.int .i64 0, .int .u8 0, .slice none 0 0, .int .i64 0]] 8 rfl (World.shaped_of_RefB (by kernel_rfl) (by kernel_rfl)) (by kernel_rfl) (by kernel_rfl) (by kernel_rfl) (door_met os _)) ?_
  intro W base args ds gs before hval0 hW _ hsz hL _
  have hval : ∀ (j : Nat) t v, Tryd.f5.params[j]? = some t → args[j]? = some v → Value.okWide Tryd.prog W .any base t v := hval0
  have hW' := hW
  obtain ⟨p, q, hA0, hV, rfl, hfz, hnd⟩ := hW
  have hA : DataW.TrodAll enc Tryd.prog W 0 (fun _ => true) true Tryd.f5.params.toList args.toList ds p := hA0
  rw [Tryd.params5] at hA hval
  obtain ⟨v0, v1, v2, d0, d1, d2, p0, p1, p2, rfl, rfl, rfl, h0, h1, h2⟩ := trodAll_three hA
  obtain ⟨rfl, rfl⟩ := trodVars_none hV
  obtain ⟨cs0, rfl, _⟩ := okWide_struct Tryd.underlying26 (hval 0 26 v0 rfl rfl)
  obtain ⟨cs1, rfl, _⟩ := okWide_struct Tryd.underlying26 (hval 1 26 v1 rfl rfl)
  obtain ⟨cs2, rfl, _⟩ := okWide_struct Tryd.underlying29 (hval 2 29 v2 rfl rfl)
  have lt0 : ∀ x ∈ p0, x.block < W.heap.size := by obtain ⟨m, hm⟩ := h0; exact DataW.trod_lt m _ _ _ hm
  have lt1 : ∀ x ∈ p1, x.block < W.heap.size := by obtain ⟨m, hm⟩ := h1; exact DataW.trod_lt m _ _ _ hm
  have lt2 : ∀ x ∈ p2, x.block < W.heap.size := by obtain ⟨m, hm⟩ := h2; exact DataW.trod_lt m _ _ _ hm
  have hlight : Light Tryd.prog 26 d0 := fun k hk => by
    have q := List.all_eq_true.1 hsz k (DataW.weights_mem_each (j := 0) (t := 26) rfl rfl k hk)
    simpa using q
  have hlight1 : Light Tryd.prog 26 d1 := fun k hk => by
    have q := List.all_eq_true.1 hsz k (DataW.weights_mem_each (j := 1) (t := 26) rfl rfl k hk)
    simpa using q
  obtain ⟨t, iv, ov, X, Y, htc, hT, hS⟩ : ∃ (t : TxP) (iv ov : Value) (X : List InV) (Y : List OutV), cs0.toList = txC t iv ov ∧ TxR W W.heap.size t iv ov X Y ∧ TxSz X Y := by
    obtain ⟨m, hm⟩ := h0
    exact tx_open hm hlight
  obtain ⟨u, ju, pu, XU, YU, huc, hU, hSU⟩ : ∃ (t : TxP) (iv ov : Value) (X : List InV) (Y : List OutV), cs1.toList = txC t iv ov ∧ TxR W W.heap.size t iv ov X Y ∧ TxSz X Y := by
    obtain ⟨m, hm⟩ := h1
    exact tx_open hm hlight1
  obtain ⟨i, k, val, sv, sc, hwc, hB, hi0, hi1, hk0, hk1, hv0, hv1⟩ : ∃ (i k val : Int) (sv : Value) (sc : List UInt8), cs2.toList = WayC i k val sv ∧ Byt W W.heap.size sv sc ∧ -9223372036854775808 ≤ i ∧ i ≤ 9223372036854775807 ∧ 0 ≤ k ∧ k ≤ 255 ∧ -9223372036854775808 ≤ val ∧ val ≤ 9223372036854775807 := by
    obtain ⟨m, hm⟩ := h2
    exact way_open hm
  obtain rfl : cs0 = (txC t iv ov).toArray := by rw [← htc]
  obtain rfl : cs1 = (txC u ju pu).toArray := by rw [← huc]
  obtain rfl : cs2 = (WayC i k val sv).toArray := by rw [← hwc]
  clear hA0 hval0
  refine (free_law W.heap.size t u iv ov ju pu sv X XU Y YU i k val sc W hT hU hB (Nat.le_refl _) hS hSU hi0 hi1 hk0 (by omega) hv0 hv1 (roots_of_laid hL)).mono fun e W' ⟨he, bel⟩ => ?_
  subst he
  exact ⟨_, rfl, _, _, _, [], _, [], hW', trodAll_mk1 (shut_bool Tryd.underlying4 _), trodAll_mk3 (Below.trod laidOut (by kernel_rfl) (of_decide_eq_true (by kernel_rfl)) h0 bel lt0) (Below.trod laidOut (by kernel_rfl) (of_decide_eq_true (by kernel_rfl)) h1 bel lt1) (Below.trod laidOut (by kernel_rfl) (of_decide_eq_true (by kernel_rfl)) h2 bel lt2), rfl, bel.frame _, fun h => by cases h⟩

theorem sighashFree_row : Rows.SighashFreeSaid :=
  OpenClaim.holds_of_wide 5 Tryd.f5 rfl rfl rfl rfl rfl rfl rfl ⟨rfl, rfl, rfl, rfl, rfl⟩ rfl rfl rfl rfl rfl (by kernel_rfl) Tryd.func5 (by kernel_rfl)
    (of_decide_eq_true (by kernel_rfl)) (by unfold Func.isWrapper; first | (rw [if_pos (by decide +kernel)]; kernel_rfl) | (rw [if_neg (by decide +kernel)]; exact ⟨rfl, rfl⟩))
    (fun os started H enc _ => free_lifted os started H enc)

theorem sighashFree_holds : Rows.SighashFreeCardSaid :=
  Claim7.holds_tied_plain_at .later [] [.data, .data] true _ false
    sighashFree_row (fun _ h => by cases h) (by kernel_rfl) (fun _ h => by cases h) sighashFree_row_tie rfl ⟨rfl, rfl⟩ (by kernel_rfl) rfl
    (fun f fn hf hfn => by
      obtain rfl : f = 5 := Option.some.inj ((show Tryd.prog.funcNamed "strongbox/strongboxlaw12.SighashFree" = some 5 by kernel_rfl).symm.trans hf) |>.symm
      obtain rfl : fn = Tryd.f5 := (Option.some.inj (Tryd.func5.symm.trans hfn)).symm
      exact ⟨by kernel_rfl, fun j t ht => by
        rw [Tryd.params5] at ht
        have hm : t ∈ [26, 26, 29] := by simpa using Array.mem_of_getElem? ht
        have hall : ([26, 26, 29].all fun u => !Tryd.prog.wantsStandIn u) = true := by kernel_rfl
        exact (show Tryd.prog.wantsStandIn t = false by simpa using List.all_eq_true.1 hall t hm)⟩)
    (by kernel_rfl)
#print axioms sighashFree_holds
end Go.Proofs.YthelmclpmalofaaDoor
