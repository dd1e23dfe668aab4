/-
  fees: Same. Conditions: names are of the two kinds that the laws use.
-/
import Derived.Test.YtfhpodeppmnopaaFeArr
namespace Go.Proofs.Ytfhpodeppmnopaa
open Go.RowKit

def cntSame (S1 S2 : Bs) : Bool := (List.range 24).all fun k => (S1.A k == S2.A k && (List.range 12).all fun t => S1.I k t == S2.I k t)
def SameB (S1 S2 : Bs) : Prop := cntSame S1 S2 = true ∧ SameW S1.W S2.W
theorem book_parts {w : World} {c g : Nat} {m : Option Nat} {S : Bs} (h : BookAt w c g m S) : ∃ xs : List Value, xs.length = 312 ∧ w.rangeAt g 0 xs ∧ w.cell? ⟨g, 312, none⟩ = some (.map m) ∧
    (∀ k, k < 24 → xs.toArray[k * 13]? = some (.int .i64 (S.A k))) ∧ ∀ k, k < 24 → NumAt xs.toArray (k * 13 + 1) 12 (S.I k) := by
  obtain ⟨⟨us, hu, hcnt, hum⟩, hmap⟩ := h
  have hl : us.length = 313 := hcnt.len
  have hxu : ∀ i, i < 312 → (us.take 312)[i]? = us[i]? := fun i hi => by rw [List.getElem?_take, if_pos hi]
  refine ⟨us.take 312, by rw [List.length_take, hl]; rfl, fun j v hv => ?_, hu.cell hum, fun k hk => ?_, fun k hk t ht => ?_⟩
  · have hj : j < 312 := by have := (List.getElem?_eq_some_iff.1 hv).1; rw [List.length_take] at this; omega
    rw [hxu j hj] at hv
    exact vrow_range0 hu j v hv
  · rw [List.getElem?_toArray, hxu _ (by omega)]
    exact hcnt.all k hk
  · rw [List.getElem?_toArray, hxu _ (by omega)]
    exact hcnt.wi k t hk ht

set_option maxRecDepth 100000 in
set_option maxHeartbeats 3200000 in
theorem same_any (c g1 g2 n1 n2 : Nat) (m1 m2 : Option Nat) (S1 S2 : Bs) (w : World) (hc : COk c) (h1 : BookAt w c g1 m1 S1) (h2 : BookAt w c g2 m2 S2) (k1 : Ok n1 S1) (k2 : Ok n2 S2) :
    Calls Try.prog 7 #[.pointer (some ⟨g1, 0, none⟩), .pointer (some ⟨g2, 0, none⟩)] w fun e w' => ∃ r : Bool, e = .returned (.bool r) ∧ (r = true ↔ SameB S1 S2) ∧ Below w.heap.size w w' := by
  obtain ⟨xs, hxl, hxr, hxm, hxa, hxi⟩ := book_parts h1
  obtain ⟨ys, hyl, hyr, hym, hya, hyi⟩ := book_parts h2
  have hq := fun W => eq_counts hxa hya hxi hyi W
  have hme := fun W (p1 : MapAt W c m1 S1.W) (p2 : MapAt W c m2 S2.W) => mequal_any c m1 m2 S1.W S2.W W hc p1 p2 (fun e he => (k1.bk e he).2.1) (fun e he => (k2.bk e he).2.1) k2.nd
  have HXS := Lib.hid (size_counts xs hxl)
  have HYS := Lib.hid (size_counts ys hyl)
  have HXR := Lib.hid hxr
  have HYR := Lib.hid hyr
  have HME := Lib.hid hme
  have HM1 := Lib.hid h1.2
  have HG1 := Lib.hid h1.1.lt
  have HG2 := Lib.hid h2.1.lt
  have HM2 := Lib.hid h2.2
  have hcs : ∀ W, (Op.equalIn 10000 56 (.agg xs.toArray) (.agg ys.toArray)).run Try.prog W = .ok (cntSame S1 S2) W := hq
  clear hxa hya hxi hyi hq hxr hyr hme h1 h2 k1 k2
  by_cases hd : cntSame S1 S2 = true
  · as_aux_lemma =>
    rw [hd] at hcs
    have HD := Lib.hid hd
    clear hd
    go_enter Try.func7, Try.ntmps7
    go_wp2_with fail
    refine wp_region_held_drew (S := (fun w' => w'.rangeAt g1 0 xs ∧ w'.rangeAt g2 0 ys ∧ w'.cell? ⟨g1, 312, none⟩ = some (.map m1) ∧ w'.cell? ⟨g2, 312, none⟩ = some (.map m2))) (by kernel_rfl) ?_ (fun hHeld => ?_)
    · exact ⟨HXR.out, HYR.out, hxm, hym⟩
    refine wpAnyH_take (i := 0) (oi := { dst := some 5, op := Go.Op.move (Go.Operand.tmp 0), type := 24, pos := "fees.go:120", after := #[], guard := none }) (v := ?av0) rfl (by kernel_rfl) (by kernel_rfl) (by kernel_rfl) (fun _ _ _ h => h) (Or.inl ⟨by rfl, ?ay0⟩) (by assumption) ?ar0
    case ay0 => (intro w hSw; (try dsimp only at hSw); go_simp; try (with_reducible rfl))
    case ar0 =>
    try simp only [Act.put, List.setIfInBounds_toArray, List.set_cons_zero, List.set_cons_succ]
    refine wpAnyH_take (i := 1) (oi := { dst := some 6, op := Go.Op.nilCheck (Go.Operand.tmp 5), type := 0, pos := "fees.go:120", after := #[{ on := 0, ground := Go.Ground.data }], guard := none }) (v := ?av1) rfl (by kernel_rfl) (by kernel_rfl) (by kernel_rfl) (fun _ _ _ h => h) (Or.inl ⟨by rfl, ?ay1⟩) (by assumption) ?ar1
    case ay1 => (intro w hSw; (try dsimp only at hSw); go_simp; try (with_reducible rfl))
    case ar1 =>
    try simp only [Act.put, List.setIfInBounds_toArray, List.set_cons_zero, List.set_cons_succ]
    refine wpAnyH_take (i := 2) (oi := { dst := some 7, op := Go.Op.fieldAddr 59 (Go.Operand.tmp 6) 0, type := 0, pos := "fees.go:120", after := #[{ on := 1, ground := Go.Ground.data }], guard := none }) (v := ?av2) rfl (by kernel_rfl) (by kernel_rfl) (by kernel_rfl) (fun _ _ _ h => h) (Or.inl ⟨by rfl, ?ay2⟩) (by assumption) ?ar2
    case ay2 => (intro w hSw; (try dsimp only at hSw); go_simp; try (with_reducible rfl))
    case ar2 =>
    try simp only [Act.put, List.setIfInBounds_toArray, List.set_cons_zero, List.set_cons_succ]
    refine wpAnyH_take (i := 3) (oi := { dst := some 8, op := Go.Op.load 56 (Go.Operand.tmp 7), type := 56, pos := "fees.go:120", after := #[{ on := 2, ground := Go.Ground.data }], guard := none }) (v := (.agg xs.toArray)) rfl (by kernel_rfl) (by kernel_rfl) (by kernel_rfl) (fun _ _ _ h => h) (yieldsIf_load_mid (by rfl) 56 (.tmp 7) rfl g1 0 rfl xs _ (fun w' h => h.1) Try.underlying56 rfl HXS.out) (by assumption) ?_
    try simp only [Act.put, List.setIfInBounds_toArray, List.set_cons_zero, List.set_cons_succ]
    refine wpAnyH_take (i := 4) (oi := { dst := some 9, op := Go.Op.move (Go.Operand.tmp 1), type := 24, pos := "fees.go:120", after := #[], guard := none }) (v := ?av4) rfl (by kernel_rfl) (by kernel_rfl) (by kernel_rfl) (fun _ _ _ h => h) (Or.inl ⟨by rfl, ?ay4⟩) (by assumption) ?ar4
    case ay4 => (intro w hSw; (try dsimp only at hSw); go_simp; try (with_reducible rfl))
    case ar4 =>
    try simp only [Act.put, List.setIfInBounds_toArray, List.set_cons_zero, List.set_cons_succ]
    refine wpAnyH_take (i := 5) (oi := { dst := some 10, op := Go.Op.nilCheck (Go.Operand.tmp 9), type := 0, pos := "fees.go:120", after := #[{ on := 4, ground := Go.Ground.data }], guard := none }) (v := ?av5) rfl (by kernel_rfl) (by kernel_rfl) (by kernel_rfl) (fun _ _ _ h => h) (Or.inl ⟨by rfl, ?ay5⟩) (by assumption) ?ar5
    case ay5 => (intro w hSw; (try dsimp only at hSw); go_simp; try (with_reducible rfl))
    case ar5 =>
    try simp only [Act.put, List.setIfInBounds_toArray, List.set_cons_zero, List.set_cons_succ]
    refine wpAnyH_take (i := 6) (oi := { dst := some 11, op := Go.Op.fieldAddr 59 (Go.Operand.tmp 10) 0, type := 0, pos := "fees.go:120", after := #[{ on := 5, ground := Go.Ground.data }], guard := none }) (v := ?av6) rfl (by kernel_rfl) (by kernel_rfl) (by kernel_rfl) (fun _ _ _ h => h) (Or.inl ⟨by rfl, ?ay6⟩) (by assumption) ?ar6
    case ay6 => (intro w hSw; (try dsimp only at hSw); go_simp; try (with_reducible rfl))
    case ar6 =>
    try simp only [Act.put, List.setIfInBounds_toArray, List.set_cons_zero, List.set_cons_succ]
    refine wpAnyH_take (i := 7) (oi := { dst := some 12, op := Go.Op.load 56 (Go.Operand.tmp 11), type := 56, pos := "fees.go:120", after := #[{ on := 6, ground := Go.Ground.data }], guard := none }) (v := (.agg ys.toArray)) rfl (by kernel_rfl) (by kernel_rfl) (by kernel_rfl) (fun _ _ _ h => h) (yieldsIf_load_mid (by rfl) 56 (.tmp 11) rfl g2 0 rfl ys _ (fun w' h => h.2.1) Try.underlying56 rfl HYS.out) (by assumption) ?_
    try simp only [Act.put, List.setIfInBounds_toArray, List.set_cons_zero, List.set_cons_succ]
    refine wpAnyH_take (i := 8) (oi := { dst := some 13, op := Go.Op.binOp Go.BinOp.eql 56 (Go.Operand.tmp 8) (Go.Operand.tmp 12) 56, type := 4, pos := "fees.go:120", after := #[{ on := 3, ground := Go.Ground.data }, { on := 7, ground := Go.Ground.data }], guard := none }) (v := (.bool true)) rfl (by kernel_rfl) (by kernel_rfl) (by kernel_rfl) (fun _ _ _ h => h) (Or.inl ⟨by rfl, ?ay8⟩) (by assumption) ?ar8
    case ay8 => (intro w hSw; (try dsimp only at hSw); go_simp; try (with_reducible rfl))
    case ar8 =>
    try simp only [Act.put, List.setIfInBounds_toArray, List.set_cons_zero, List.set_cons_succ]
    refine wpAnyH_take (i := 9) (oi := { dst := some 14, op := Go.Op.move (Go.Operand.tmp 13), type := 4, pos := "fees.go:120", after := #[{ on := 8, ground := Go.Ground.data }], guard := none }) (v := ?av9) rfl (by kernel_rfl) (by kernel_rfl) (by kernel_rfl) (fun _ _ _ h => h) (Or.inl ⟨by rfl, ?ay9⟩) (by assumption) ?ar9
    case ay9 => (intro w hSw; (try dsimp only at hSw); go_simp; try (with_reducible rfl))
    case ar9 =>
    try simp only [Act.put, List.setIfInBounds_toArray, List.set_cons_zero, List.set_cons_succ]
    refine wpAnyH_take (i := 10) (oi := { dst := some 15, op := Go.Op.move (Go.Operand.tmp 0), type := 24, pos := "fees.go:120", after := #[{ on := 9, ground := Go.Ground.guard }], guard := some (9, true) }) (v := ?av10) rfl (by kernel_rfl) (by kernel_rfl) (by kernel_rfl) (fun _ _ _ h => h) (Or.inl ⟨by rfl, ?ay10⟩) (by assumption) ?ar10
    case ay10 => (intro w hSw; (try dsimp only at hSw); go_simp; try (with_reducible rfl))
    case ar10 =>
    try simp only [Act.put, List.setIfInBounds_toArray, List.set_cons_zero, List.set_cons_succ]
    refine wpAnyH_take (i := 11) (oi := { dst := some 16, op := Go.Op.nilCheck (Go.Operand.tmp 15), type := 0, pos := "fees.go:120", after := #[{ on := 10, ground := Go.Ground.data }, { on := 9, ground := Go.Ground.guard }], guard := some (9, true) }) (v := ?av11) rfl (by kernel_rfl) (by kernel_rfl) (by kernel_rfl) (fun _ _ _ h => h) (Or.inl ⟨by rfl, ?ay11⟩) (by assumption) ?ar11
    case ay11 => (intro w hSw; (try dsimp only at hSw); go_simp; try (with_reducible rfl))
    case ar11 =>
    try simp only [Act.put, List.setIfInBounds_toArray, List.set_cons_zero, List.set_cons_succ]
    refine wpAnyH_take (i := 12) (oi := { dst := some 17, op := Go.Op.fieldAddr 59 (Go.Operand.tmp 16) 1, type := 0, pos := "fees.go:120", after := #[{ on := 11, ground := Go.Ground.data }, { on := 9, ground := Go.Ground.guard }], guard := some (9, true) }) (v := ?av12) rfl (by kernel_rfl) (by kernel_rfl) (by kernel_rfl) (fun _ _ _ h => h) (Or.inl ⟨by rfl, ?ay12⟩) (by assumption) ?ar12
    case ay12 => (intro w hSw; (try dsimp only at hSw); go_simp; try (with_reducible rfl))
    case ar12 =>
    try simp only [Act.put, List.setIfInBounds_toArray, List.set_cons_zero, List.set_cons_succ]
    refine wpAnyH_take (i := 13) (oi := { dst := some 18, op := Go.Op.load 57 (Go.Operand.tmp 17), type := 57, pos := "fees.go:120", after := #[{ on := 12, ground := Go.Ground.data }, { on := 9, ground := Go.Ground.guard }], guard := some (9, true) }) (v := (.map m1)) rfl (by kernel_rfl) (by kernel_rfl) (by kernel_rfl) (fun _ _ _ h => h) (Or.inl ⟨by rfl, ?ay13⟩) (by assumption) ?ar13
    case ay13 => (intro w hSw; (try dsimp only at hSw); go_simp; try (simp [hSw.2.2.1]))
    case ar13 =>
    try simp only [Act.put, List.setIfInBounds_toArray, List.set_cons_zero, List.set_cons_succ]
    refine wpAnyH_take (i := 14) (oi := { dst := some 19, op := Go.Op.move (Go.Operand.tmp 1), type := 24, pos := "fees.go:120", after := #[{ on := 9, ground := Go.Ground.guard }], guard := some (9, true) }) (v := ?av14) rfl (by kernel_rfl) (by kernel_rfl) (by kernel_rfl) (fun _ _ _ h => h) (Or.inl ⟨by rfl, ?ay14⟩) (by assumption) ?ar14
    case ay14 => (intro w hSw; (try dsimp only at hSw); go_simp; try (with_reducible rfl))
    case ar14 =>
    try simp only [Act.put, List.setIfInBounds_toArray, List.set_cons_zero, List.set_cons_succ]
    refine wpAnyH_take (i := 15) (oi := { dst := some 20, op := Go.Op.nilCheck (Go.Operand.tmp 19), type := 0, pos := "fees.go:120", after := #[{ on := 14, ground := Go.Ground.data }, { on := 9, ground := Go.Ground.guard }], guard := some (9, true) }) (v := ?av15) rfl (by kernel_rfl) (by kernel_rfl) (by kernel_rfl) (fun _ _ _ h => h) (Or.inl ⟨by rfl, ?ay15⟩) (by assumption) ?ar15
    case ay15 => (intro w hSw; (try dsimp only at hSw); go_simp; try (with_reducible rfl))
    case ar15 =>
    try simp only [Act.put, List.setIfInBounds_toArray, List.set_cons_zero, List.set_cons_succ]
    refine wpAnyH_take (i := 16) (oi := { dst := some 21, op := Go.Op.fieldAddr 59 (Go.Operand.tmp 20) 1, type := 0, pos := "fees.go:120", after := #[{ on := 15, ground := Go.Ground.data }, { on := 9, ground := Go.Ground.guard }], guard := some (9, true) }) (v := ?av16) rfl (by kernel_rfl) (by kernel_rfl) (by kernel_rfl) (fun _ _ _ h => h) (Or.inl ⟨by rfl, ?ay16⟩) (by assumption) ?ar16
    case ay16 => (intro w hSw; (try dsimp only at hSw); go_simp; try (with_reducible rfl))
    case ar16 =>
    try simp only [Act.put, List.setIfInBounds_toArray, List.set_cons_zero, List.set_cons_succ]
    refine wpAnyH_take (i := 17) (oi := { dst := some 22, op := Go.Op.load 57 (Go.Operand.tmp 21), type := 57, pos := "fees.go:120", after := #[{ on := 16, ground := Go.Ground.data }, { on := 9, ground := Go.Ground.guard }], guard := some (9, true) }) (v := (.map m2)) rfl (by kernel_rfl) (by kernel_rfl) (by kernel_rfl) (fun _ _ _ h => h) (Or.inl ⟨by rfl, ?ay17⟩) (by assumption) ?ar17
    case ay17 => (intro w hSw; (try dsimp only at hSw); go_simp; try (simp [hSw.2.2.2]))
    case ar17 =>
    try simp only [Act.put, List.setIfInBounds_toArray, List.set_cons_zero, List.set_cons_succ]
    refine wpAnyH_ready (rs := [18]) (by kernel_rfl) (by simp) ?_
    refine AllReadyH.cons (o := { dst := some 23, op := Go.Op.call { callee := Go.Callee.value (Go.Operand.func 19), args := #[Go.Operand.tmp 18, Go.Operand.tmp 22], argTypes := #[57, 57] }, type := 4, pos := "fees.go:120", after := #[{ on := 13, ground := Go.Ground.data }, { on := 17, ground := Go.Ground.data }, { on := 9, ground := Go.Ground.chain }, { on := 9, ground := Go.Ground.guard }], guard := some (9, true) }) rfl (fun K hK => ?_) (AllReadyH.nil)
    go_simp
    refine (HME.out _ HM1.out.drew HM2.out.drew).mono ?_
    rintro e4 w4 ⟨r, rfl, hr4, hb4⟩
    refine hK.out _ _ ?_ (fun hHeld => ?_)
    · exact ⟨fun j v hv => (hb4.cell (p := ⟨g1, _, none⟩) HG1.out).trans (HXR.out j v hv), fun j v hv => (hb4.cell (p := ⟨g2, _, none⟩) HG2.out).trans (HYR.out j v hv), (hb4.cell (p := ⟨g1, 312, none⟩) HG1.out).trans hxm, (hb4.cell (p := ⟨g2, 312, none⟩) HG2.out).trans hym⟩
    clear hK K
    try simp only [Act.put, List.setIfInBounds_toArray, List.set_cons_zero, List.set_cons_succ]
    refine wpAnyH_take (i := 19) (oi := { dst := some 24, op := Go.Op.pick (Go.Operand.tmp 14) (Go.Operand.tmp 23) (Go.Operand.const (Go.Value.bool false)), type := 4, pos := "fees.go:120", after := #[{ on := 9, ground := Go.Ground.data }, { on := 18, ground := Go.Ground.data }], guard := none }) (v := ?a_18v19) rfl (by kernel_rfl) (by kernel_rfl) (by kernel_rfl) (fun _ _ _ h => h) (Or.inl ⟨by rfl, ?a_18y19⟩) (by assumption) ?a_18r19
    case a_18y19 => (intro w hSw; (try dsimp only at hSw); go_simp; try (with_reducible rfl))
    case a_18r19 =>
    try simp only [Act.put, List.setIfInBounds_toArray, List.set_cons_zero, List.set_cons_succ]
    refine wpAnyH_take (i := 20) (oi := { dst := some 4, op := Go.Op.assign (Go.Operand.tmp 24), type := 4, pos := "fees.go:120", after := #[{ on := 19, ground := Go.Ground.data }, { on := 18, ground := Go.Ground.chain }, { on := 0, ground := Go.Ground.phase }, { on := 1, ground := Go.Ground.phase }, { on := 2, ground := Go.Ground.phase }, { on := 3, ground := Go.Ground.phase }, { on := 4, ground := Go.Ground.phase }, { on := 5, ground := Go.Ground.phase }, { on := 6, ground := Go.Ground.phase }, { on := 7, ground := Go.Ground.phase }, { on := 8, ground := Go.Ground.phase }, { on := 9, ground := Go.Ground.phase }, { on := 10, ground := Go.Ground.phase }, { on := 11, ground := Go.Ground.phase }, { on := 12, ground := Go.Ground.phase }, { on := 13, ground := Go.Ground.phase }, { on := 14, ground := Go.Ground.phase }, { on := 15, ground := Go.Ground.phase }, { on := 16, ground := Go.Ground.phase }, { on := 17, ground := Go.Ground.phase }, { on := 18, ground := Go.Ground.phase }, { on := 19, ground := Go.Ground.phase }], guard := none }) (v := ?a_18v20) rfl (by kernel_rfl) (by kernel_rfl) (by kernel_rfl) (fun _ _ _ h => h) (Or.inl ⟨by rfl, ?a_18y20⟩) (by assumption) ?a_18r20
    case a_18y20 => (intro w hSw; (try dsimp only at hSw); go_simp; try (with_reducible rfl))
    case a_18r20 =>
    try simp only [Act.put, List.setIfInBounds_toArray, List.set_cons_zero, List.set_cons_succ]
    refine wpAnyH_done (by kernel_rfl) ?_ _
    have HR4 := Lib.hid hr4
    have HB4 := Lib.hid ((Below.refl w.heap.size w).drew.trans hb4)
    clear hr4 hb4
    go_wp2_with fail
    exact bodyPost_ret (results_tmp rfl _ _ _) rfl ⟨r, rfl, ⟨fun q => ⟨HD.out, HR4.out.1 q⟩, fun q => HR4.out.2 q.2⟩, HB4.out⟩
  · as_aux_lemma =>
    have hd' : cntSame S1 S2 = false := by simpa using hd
    rw [hd'] at hcs
    have HD := Lib.hid hd
    clear hd hd'
    go_enter Try.func7, Try.ntmps7
    go_wp2_with fail
    refine wp_region_held_drew (S := (fun w' => w'.rangeAt g1 0 xs ∧ w'.rangeAt g2 0 ys ∧ w'.cell? ⟨g1, 312, none⟩ = some (.map m1) ∧ w'.cell? ⟨g2, 312, none⟩ = some (.map m2))) (by kernel_rfl) ?_ (fun hHeld => ?_)
    · exact ⟨HXR.out, HYR.out, hxm, hym⟩
    refine wpAnyH_take (i := 0) (oi := { dst := some 5, op := Go.Op.move (Go.Operand.tmp 0), type := 24, pos := "fees.go:120", after := #[], guard := none }) (v := ?bv0) rfl (by kernel_rfl) (by kernel_rfl) (by kernel_rfl) (fun _ _ _ h => h) (Or.inl ⟨by rfl, ?by0⟩) (by assumption) ?br0
    case by0 => (intro w hSw; (try dsimp only at hSw); go_simp; try (with_reducible rfl))
    case br0 =>
    try simp only [Act.put, List.setIfInBounds_toArray, List.set_cons_zero, List.set_cons_succ]
    refine wpAnyH_take (i := 1) (oi := { dst := some 6, op := Go.Op.nilCheck (Go.Operand.tmp 5), type := 0, pos := "fees.go:120", after := #[{ on := 0, ground := Go.Ground.data }], guard := none }) (v := ?bv1) rfl (by kernel_rfl) (by kernel_rfl) (by kernel_rfl) (fun _ _ _ h => h) (Or.inl ⟨by rfl, ?by1⟩) (by assumption) ?br1
    case by1 => (intro w hSw; (try dsimp only at hSw); go_simp; try (with_reducible rfl))
    case br1 =>
    try simp only [Act.put, List.setIfInBounds_toArray, List.set_cons_zero, List.set_cons_succ]
    refine wpAnyH_take (i := 2) (oi := { dst := some 7, op := Go.Op.fieldAddr 59 (Go.Operand.tmp 6) 0, type := 0, pos := "fees.go:120", after := #[{ on := 1, ground := Go.Ground.data }], guard := none }) (v := ?bv2) rfl (by kernel_rfl) (by kernel_rfl) (by kernel_rfl) (fun _ _ _ h => h) (Or.inl ⟨by rfl, ?by2⟩) (by assumption) ?br2
    case by2 => (intro w hSw; (try dsimp only at hSw); go_simp; try (with_reducible rfl))
    case br2 =>
    try simp only [Act.put, List.setIfInBounds_toArray, List.set_cons_zero, List.set_cons_succ]
    refine wpAnyH_take (i := 3) (oi := { dst := some 8, op := Go.Op.load 56 (Go.Operand.tmp 7), type := 56, pos := "fees.go:120", after := #[{ on := 2, ground := Go.Ground.data }], guard := none }) (v := (.agg xs.toArray)) rfl (by kernel_rfl) (by kernel_rfl) (by kernel_rfl) (fun _ _ _ h => h) (yieldsIf_load_mid (by rfl) 56 (.tmp 7) rfl g1 0 rfl xs _ (fun w' h => h.1) Try.underlying56 rfl HXS.out) (by assumption) ?_
    try simp only [Act.put, List.setIfInBounds_toArray, List.set_cons_zero, List.set_cons_succ]
    refine wpAnyH_take (i := 4) (oi := { dst := some 9, op := Go.Op.move (Go.Operand.tmp 1), type := 24, pos := "fees.go:120", after := #[], guard := none }) (v := ?bv4) rfl (by kernel_rfl) (by kernel_rfl) (by kernel_rfl) (fun _ _ _ h => h) (Or.inl ⟨by rfl, ?by4⟩) (by assumption) ?br4
    case by4 => (intro w hSw; (try dsimp only at hSw); go_simp; try (with_reducible rfl))
    case br4 =>
    try simp only [Act.put, List.setIfInBounds_toArray, List.set_cons_zero, List.set_cons_succ]
    refine wpAnyH_take (i := 5) (oi := { dst := some 10, op := Go.Op.nilCheck (Go.Operand.tmp 9), type := 0, pos := "fees.go:120", after := #[{ on := 4, ground := Go.Ground.data }], guard := none }) (v := ?bv5) rfl (by kernel_rfl) (by kernel_rfl) (by kernel_rfl) (fun _ _ _ h => h) (Or.inl ⟨by rfl, ?by5⟩) (by assumption) ?br5
    case by5 => (intro w hSw; (try dsimp only at hSw); go_simp; try (with_reducible rfl))
    case br5 =>
    try simp only [Act.put, List.setIfInBounds_toArray, List.set_cons_zero, List.set_cons_succ]
    refine wpAnyH_take (i := 6) (oi := { dst := some 11, op := Go.Op.fieldAddr 59 (Go.Operand.tmp 10) 0, type := 0, pos := "fees.go:120", after := #[{ on := 5, ground := Go.Ground.data }], guard := none }) (v := ?bv6) rfl (by kernel_rfl) (by kernel_rfl) (by kernel_rfl) (fun _ _ _ h => h) (Or.inl ⟨by rfl, ?by6⟩) (by assumption) ?br6
    case by6 => (intro w hSw; (try dsimp only at hSw); go_simp; try (with_reducible rfl))
    case br6 =>
    try simp only [Act.put, List.setIfInBounds_toArray, List.set_cons_zero, List.set_cons_succ]
    refine wpAnyH_take (i := 7) (oi := { dst := some 12, op := Go.Op.load 56 (Go.Operand.tmp 11), type := 56, pos := "fees.go:120", after := #[{ on := 6, ground := Go.Ground.data }], guard := none }) (v := (.agg ys.toArray)) rfl (by kernel_rfl) (by kernel_rfl) (by kernel_rfl) (fun _ _ _ h => h) (yieldsIf_load_mid (by rfl) 56 (.tmp 11) rfl g2 0 rfl ys _ (fun w' h => h.2.1) Try.underlying56 rfl HYS.out) (by assumption) ?_
    try simp only [Act.put, List.setIfInBounds_toArray, List.set_cons_zero, List.set_cons_succ]
    refine wpAnyH_take (i := 8) (oi := { dst := some 13, op := Go.Op.binOp Go.BinOp.eql 56 (Go.Operand.tmp 8) (Go.Operand.tmp 12) 56, type := 4, pos := "fees.go:120", after := #[{ on := 3, ground := Go.Ground.data }, { on := 7, ground := Go.Ground.data }], guard := none }) (v := (.bool false)) rfl (by kernel_rfl) (by kernel_rfl) (by kernel_rfl) (fun _ _ _ h => h) (Or.inl ⟨by rfl, ?by8⟩) (by assumption) ?br8
    case by8 => (intro w hSw; (try dsimp only at hSw); go_simp; try (with_reducible rfl))
    case br8 =>
    try simp only [Act.put, List.setIfInBounds_toArray, List.set_cons_zero, List.set_cons_succ]
    refine wpAnyH_take (i := 9) (oi := { dst := some 14, op := Go.Op.move (Go.Operand.tmp 13), type := 4, pos := "fees.go:120", after := #[{ on := 8, ground := Go.Ground.data }], guard := none }) (v := ?bv9) rfl (by kernel_rfl) (by kernel_rfl) (by kernel_rfl) (fun _ _ _ h => h) (Or.inl ⟨by rfl, ?by9⟩) (by assumption) ?br9
    case by9 => (intro w hSw; (try dsimp only at hSw); go_simp; try (with_reducible rfl))
    case br9 =>
    try simp only [Act.put, List.setIfInBounds_toArray, List.set_cons_zero, List.set_cons_succ]
    refine wpAnyH_take (i := 10) (oi := { dst := some 15, op := Go.Op.move (Go.Operand.tmp 0), type := 24, pos := "fees.go:120", after := #[{ on := 9, ground := Go.Ground.guard }], guard := some (9, true) }) (v := undef) rfl (by kernel_rfl) (by kernel_rfl) (by kernel_rfl) (fun _ _ _ h => h) (Or.inr ⟨by rfl, rfl⟩) (by assumption) ?_
    try simp only [Act.put, List.setIfInBounds_toArray, List.set_cons_zero, List.set_cons_succ]
    refine wpAnyH_take (i := 11) (oi := { dst := some 16, op := Go.Op.nilCheck (Go.Operand.tmp 15), type := 0, pos := "fees.go:120", after := #[{ on := 10, ground := Go.Ground.data }, { on := 9, ground := Go.Ground.guard }], guard := some (9, true) }) (v := undef) rfl (by kernel_rfl) (by kernel_rfl) (by kernel_rfl) (fun _ _ _ h => h) (Or.inr ⟨by rfl, rfl⟩) (by assumption) ?_
    try simp only [Act.put, List.setIfInBounds_toArray, List.set_cons_zero, List.set_cons_succ]
    refine wpAnyH_take (i := 12) (oi := { dst := some 17, op := Go.Op.fieldAddr 59 (Go.Operand.tmp 16) 1, type := 0, pos := "fees.go:120", after := #[{ on := 11, ground := Go.Ground.data }, { on := 9, ground := Go.Ground.guard }], guard := some (9, true) }) (v := undef) rfl (by kernel_rfl) (by kernel_rfl) (by kernel_rfl) (fun _ _ _ h => h) (Or.inr ⟨by rfl, rfl⟩) (by assumption) ?_
    try simp only [Act.put, List.setIfInBounds_toArray, List.set_cons_zero, List.set_cons_succ]
    refine wpAnyH_take (i := 13) (oi := { dst := some 18, op := Go.Op.load 57 (Go.Operand.tmp 17), type := 57, pos := "fees.go:120", after := #[{ on := 12, ground := Go.Ground.data }, { on := 9, ground := Go.Ground.guard }], guard := some (9, true) }) (v := undef) rfl (by kernel_rfl) (by kernel_rfl) (by kernel_rfl) (fun _ _ _ h => h) (Or.inr ⟨by rfl, rfl⟩) (by assumption) ?_
    try simp only [Act.put, List.setIfInBounds_toArray, List.set_cons_zero, List.set_cons_succ]
    refine wpAnyH_take (i := 14) (oi := { dst := some 19, op := Go.Op.move (Go.Operand.tmp 1), type := 24, pos := "fees.go:120", after := #[{ on := 9, ground := Go.Ground.guard }], guard := some (9, true) }) (v := undef) rfl (by kernel_rfl) (by kernel_rfl) (by kernel_rfl) (fun _ _ _ h => h) (Or.inr ⟨by rfl, rfl⟩) (by assumption) ?_
    try simp only [Act.put, List.setIfInBounds_toArray, List.set_cons_zero, List.set_cons_succ]
    refine wpAnyH_take (i := 15) (oi := { dst := some 20, op := Go.Op.nilCheck (Go.Operand.tmp 19), type := 0, pos := "fees.go:120", after := #[{ on := 14, ground := Go.Ground.data }, { on := 9, ground := Go.Ground.guard }], guard := some (9, true) }) (v := undef) rfl (by kernel_rfl) (by kernel_rfl) (by kernel_rfl) (fun _ _ _ h => h) (Or.inr ⟨by rfl, rfl⟩) (by assumption) ?_
    try simp only [Act.put, List.setIfInBounds_toArray, List.set_cons_zero, List.set_cons_succ]
    refine wpAnyH_take (i := 16) (oi := { dst := some 21, op := Go.Op.fieldAddr 59 (Go.Operand.tmp 20) 1, type := 0, pos := "fees.go:120", after := #[{ on := 15, ground := Go.Ground.data }, { on := 9, ground := Go.Ground.guard }], guard := some (9, true) }) (v := undef) rfl (by kernel_rfl) (by kernel_rfl) (by kernel_rfl) (fun _ _ _ h => h) (Or.inr ⟨by rfl, rfl⟩) (by assumption) ?_
    try simp only [Act.put, List.setIfInBounds_toArray, List.set_cons_zero, List.set_cons_succ]
    refine wpAnyH_take (i := 17) (oi := { dst := some 22, op := Go.Op.load 57 (Go.Operand.tmp 21), type := 57, pos := "fees.go:120", after := #[{ on := 16, ground := Go.Ground.data }, { on := 9, ground := Go.Ground.guard }], guard := some (9, true) }) (v := undef) rfl (by kernel_rfl) (by kernel_rfl) (by kernel_rfl) (fun _ _ _ h => h) (Or.inr ⟨by rfl, rfl⟩) (by assumption) ?_
    try simp only [Act.put, List.setIfInBounds_toArray, List.set_cons_zero, List.set_cons_succ]
    refine wpAnyH_take (i := 18) (oi := { dst := some 23, op := Go.Op.call { callee := Go.Callee.value (Go.Operand.func 19), args := #[Go.Operand.tmp 18, Go.Operand.tmp 22], argTypes := #[57, 57] }, type := 4, pos := "fees.go:120", after := #[{ on := 13, ground := Go.Ground.data }, { on := 17, ground := Go.Ground.data }, { on := 9, ground := Go.Ground.chain }, { on := 9, ground := Go.Ground.guard }], guard := some (9, true) }) (v := undef) rfl (by kernel_rfl) (by kernel_rfl) (by kernel_rfl) (fun _ _ _ h => h) (Or.inr ⟨by rfl, rfl⟩) (by assumption) ?_
    try simp only [Act.put, List.setIfInBounds_toArray, List.set_cons_zero, List.set_cons_succ]
    refine wpAnyH_take (i := 19) (oi := { dst := some 24, op := Go.Op.pick (Go.Operand.tmp 14) (Go.Operand.tmp 23) (Go.Operand.const (Go.Value.bool false)), type := 4, pos := "fees.go:120", after := #[{ on := 9, ground := Go.Ground.data }, { on := 18, ground := Go.Ground.data }], guard := none }) (v := ?bv19) rfl (by kernel_rfl) (by kernel_rfl) (by kernel_rfl) (fun _ _ _ h => h) (Or.inl ⟨by rfl, ?by19⟩) (by assumption) ?br19
    case by19 => (intro w hSw; (try dsimp only at hSw); go_simp; try (with_reducible rfl))
    case br19 =>
    try simp only [Act.put, List.setIfInBounds_toArray, List.set_cons_zero, List.set_cons_succ]
    refine wpAnyH_take (i := 20) (oi := { dst := some 4, op := Go.Op.assign (Go.Operand.tmp 24), type := 4, pos := "fees.go:120", after := #[{ on := 19, ground := Go.Ground.data }, { on := 18, ground := Go.Ground.chain }, { on := 0, ground := Go.Ground.phase }, { on := 1, ground := Go.Ground.phase }, { on := 2, ground := Go.Ground.phase }, { on := 3, ground := Go.Ground.phase }, { on := 4, ground := Go.Ground.phase }, { on := 5, ground := Go.Ground.phase }, { on := 6, ground := Go.Ground.phase }, { on := 7, ground := Go.Ground.phase }, { on := 8, ground := Go.Ground.phase }, { on := 9, ground := Go.Ground.phase }, { on := 10, ground := Go.Ground.phase }, { on := 11, ground := Go.Ground.phase }, { on := 12, ground := Go.Ground.phase }, { on := 13, ground := Go.Ground.phase }, { on := 14, ground := Go.Ground.phase }, { on := 15, ground := Go.Ground.phase }, { on := 16, ground := Go.Ground.phase }, { on := 17, ground := Go.Ground.phase }, { on := 18, ground := Go.Ground.phase }, { on := 19, ground := Go.Ground.phase }], guard := none }) (v := ?bv20) rfl (by kernel_rfl) (by kernel_rfl) (by kernel_rfl) (fun _ _ _ h => h) (Or.inl ⟨by rfl, ?by20⟩) (by assumption) ?br20
    case by20 => (intro w hSw; (try dsimp only at hSw); go_simp; try (with_reducible rfl))
    case br20 =>
    try simp only [Act.put, List.setIfInBounds_toArray, List.set_cons_zero, List.set_cons_succ]
    refine wpAnyH_done (by kernel_rfl) ?_ _
    go_wp2_with fail
    exact bodyPost_ret (results_tmp rfl _ _ _) rfl ⟨false, rfl, ⟨(fun q => by cases q), fun q => absurd q.1 HD.out⟩, (Below.refl _ w).drew⟩
end Go.Proofs.Ytfhpodeppmnopaa
