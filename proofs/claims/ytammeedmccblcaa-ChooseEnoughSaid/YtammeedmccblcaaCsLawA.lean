/-
  The laws' own helpers: the fixed fact, what is cut down, the program's coins, whether two answers are the same. Conditions: sizes within the reach.
-/
import Derived.Test.YtammeedmccblcaaCsRlar
namespace Go.Proofs.Ytammeedmccblcaa.Cs
open Go.RowKit

theorem results_tmp_row {P : Program} {fn : Func} {p u : Tmp} {ty : TypeId} (h : fn.results = #[.tmp u, .cell p ty]) (tmps : Array Value) (w : World) (g : Nat) (t : TypeId) (cs : Array Value) (fr : Nat × Nat) (d : TypeDesc) (x : Value)
    (hp : tmps.getD p undef = .pointer (some ⟨g, 0, none⟩)) (hx : tmps.getD u undef = x) (hg : w.heap[g]? = some (.cells cs t fr))
    (hu : P.underlying ty = some d) (hd : (match d with | .struct _ | .array _ _ => true | _ => false) = true) (hi : (P.info? ty).map (·.size) = some cs.size) :
    (results fn tmps).run P w = .ok (.tuple #[x, .agg cs]) w := by
  have hp' : tmps[p]?.getD undef = .pointer (some ⟨g, 0, none⟩) := by simpa using hp
  have hx' : tmps[u]?.getD undef = x := by simpa using hx
  simp [results, h, hp', hx', asAddr, run_loadVar_row w g t ty cs fr d hg hu hd hi]
theorem CrR.first {w : World} {B n c : Nat} {A : Option Addr} {X : List (Int × Int)} (h : CrR w B (.slice A n c) X) {k : Nat} (hk : k ≤ X.length) : CrR w B (.slice A k c) (X.take k) := by
  obtain ⟨A', c', e, h1, h2, h3⟩ := h
  injection e with e1 e2 e3
  subst e1 e2 e3
  have hl : (X.take k).length = k := by rw [List.length_take]; omega
  refine ⟨A, c, by rw [hl], by omega, h2, fun hne => ?_⟩
  obtain ⟨b, o, e1, hb, hr⟩ := h3 (by omega)
  refine ⟨b, o, e1, hb, fun j u hu => hr j u ?_⟩
  rw [← flat_take crC 2 X (fun _ _ => rfl) k, List.getElem?_take] at hu
  split at hu
  · exact hu
  · exact absurd hu (by simp)
def fewT (n : Int) : Int := if 3000 < n then 3000 else n
set_option maxRecDepth 100000 in
set_option maxHeartbeats 3200000 in
theorem few_any (B : Nat) (v : Value) (l : List (Int × Int)) (need extra rate tries seed : Int) (w : World) (hX : CrR w B v l) (hB : B ≤ w.heap.size) :
    Calls Try.prog 8 #[v, .agg (tkC need extra rate tries seed).toArray] w fun e w' => ∃ v', e = .returned (.tuple #[v', .agg (tkC need extra rate (fewT tries) seed).toArray]) ∧ CrR w' B v' (l.take 14) ∧ Below w.heap.size w w' := by
  obtain ⟨A, c, rfl, hlc, hcm⟩ := hX.form
  have hz : ∀ W, (zeroValue 25).run Try.prog W = .ok (.agg #[.int .i64 0, .int .i64 0, .int .i64 0, .int .i64 0, .int .u64 0]) W := fun W => by kernel_rfl
  have hb2 : ∀ X Y : Obj, Below w.heap.size w ((w.alloc X).alloc Y) := fun X Y => ((Below.refl _ _).alloc (Nat.le_refl _) _).alloc (by simp) _
  have hres : ∀ (t : Int) (W : World) (tm : Array Value) (vv : Value), tm.getD 5 undef = .pointer (some ⟨w.heap.size + 1, 0, none⟩) → tm.getD 4 undef = vv → W.heap = ((w.alloc (.cells #[.int .i64 need, .int .i64 extra, .int .i64 rate, .int .i64 t, .int .u64 seed] 25)).alloc (.cells #[.int .i64 need, .int .i64 extra, .int .i64 rate, .int .i64 t, .int .u64 seed] 25)).heap →
      (results Try.f8 tm).run Try.prog W = .ok (.tuple #[vv, .agg #[.int .i64 need, .int .i64 extra, .int .i64 rate, .int .i64 t, .int .u64 seed]]) W := fun t W tm vv h5 h4 hW => by
    refine results_tmp_row Try.results8 _ _ (w.heap.size + 1) 25 _ (0, 0) _ _ h5 h4 ?_ Try.underlying25 rfl rtsk5
    rw [hW]
    have h := heap_alloc_new (w.alloc (.cells #[.int .i64 need, .int .i64 extra, .int .i64 rate, .int .i64 t, .int .u64 seed] 25)) (.cells #[.int .i64 need, .int .i64 extra, .int .i64 rate, .int .i64 t, .int .u64 seed] 25)
    rw [show (w.alloc (.cells #[.int .i64 need, .int .i64 extra, .int .i64 rate, .int .i64 t, .int .u64 seed] 25)).heap.size = w.heap.size + 1 by simp] at h
    exact h
  have HRES := Lib.hid hres
  have HX := Lib.hid hX
  have HB := Lib.hid hB
  clear hX hB hres
  unfold tkC
  by_cases hl : 14 < l.length
  · have dl : decide ((14 : Int) < (l.length : Int)) = true := decide_eq_true (by omega)
    by_cases ht : 3000 < tries
    · have dt : decide ((3000 : Int) < tries) = true := decide_eq_true ht
      have hft : fewT tries = 3000 := by unfold fewT; rw [if_pos ht]
      rw [hft]
      have hcr : CrR w B (.slice A 14 c) (l.take 14) := CrR.first HX.out (by omega)
      have HCR := Lib.hid hcr
      clear hft hcr
      go_enter Try.func8, Try.ntmps8
      go_wp2
      go_region
      go_wp2
      exact bodyPost_ret (v := .tuple #[.slice A 14 c, .agg #[.int .i64 need, .int .i64 extra, .int .i64 rate, .int .i64 3000, .int .u64 seed]]) (HRES.out _ _ _ _ rfl rfl rfl) rfl ⟨_, rfl, HCR.out.below ((hb2 _ _).drew.mono HB.out), (hb2 _ _).drew⟩
    · have dt : decide ((3000 : Int) < tries) = false := decide_eq_false ht
      have hft : fewT tries = tries := by unfold fewT; rw [if_neg ht]
      rw [hft]
      have hcr : CrR w B (.slice A 14 c) (l.take 14) := CrR.first HX.out (by omega)
      have HCR := Lib.hid hcr
      clear hft hcr
      go_enter Try.func8, Try.ntmps8
      go_wp2
      go_region
      go_wp2
      exact bodyPost_ret (v := .tuple #[.slice A 14 c, .agg #[.int .i64 need, .int .i64 extra, .int .i64 rate, .int .i64 tries, .int .u64 seed]]) (HRES.out _ _ _ _ rfl rfl rfl) rfl ⟨_, rfl, HCR.out.below ((hb2 _ _).drew.mono HB.out), (hb2 _ _).drew⟩
  · have dl : decide ((14 : Int) < (l.length : Int)) = false := decide_eq_false (by omega)
    by_cases ht : 3000 < tries
    · have dt : decide ((3000 : Int) < tries) = true := decide_eq_true ht
      have hft : fewT tries = 3000 := by unfold fewT; rw [if_pos ht]
      rw [hft]
      have hcr : CrR w B (.slice A l.length c) (l.take 14) := by rw [List.take_of_length_le (by omega)]; exact HX.out
      have HCR := Lib.hid hcr
      clear hft hcr
      go_enter Try.func8, Try.ntmps8
      go_wp2
      go_region
      go_wp2
      exact bodyPost_ret (v := .tuple #[.slice A l.length c, .agg #[.int .i64 need, .int .i64 extra, .int .i64 rate, .int .i64 3000, .int .u64 seed]]) (HRES.out _ _ _ _ rfl rfl rfl) rfl ⟨_, rfl, HCR.out.below ((hb2 _ _).drew.mono HB.out), (hb2 _ _).drew⟩
    · have dt : decide ((3000 : Int) < tries) = false := decide_eq_false ht
      have hft : fewT tries = tries := by unfold fewT; rw [if_neg ht]
      rw [hft]
      have hcr : CrR w B (.slice A l.length c) (l.take 14) := by rw [List.take_of_length_le (by omega)]; exact HX.out
      have HCR := Lib.hid hcr
      clear hft hcr
      go_enter Try.func8, Try.ntmps8
      go_wp2
      go_region
      go_wp2
      exact bodyPost_ret (v := .tuple #[.slice A l.length c, .agg #[.int .i64 need, .int .i64 extra, .int .i64 rate, .int .i64 tries, .int .u64 seed]]) (HRES.out _ _ _ _ rfl rfl rfl) rfl ⟨_, rfl, HCR.out.below ((hb2 _ _).drew.mono HB.out), (hb2 _ _).drew⟩
end Go.Proofs.Ytammeedmccblcaa.Cs
