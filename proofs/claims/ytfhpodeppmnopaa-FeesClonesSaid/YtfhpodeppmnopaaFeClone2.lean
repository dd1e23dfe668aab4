/-
  fees: Clone. Conditions: none.
-/
import Derived.Test.YtfhpodeppmnopaaFeClone
import Derived.Test.YtfhpodeppmnopaaFeRest
namespace Go.Proofs.Ytfhpodeppmnopaa
open Go.RowKit

theorem size_counts (xs : List Value) (h : xs.length = 312) : (Try.prog.info? 56).map (·.size) = some xs.length := by rw [h]; kernel_rfl

theorem yieldsIf_build_lit {ops : Array Oper} {S : World → Prop} {op : Oper} {a : Act} (hw : Region.wanted op (yielded ops a.tmps) = true) (ty : TypeId) (parts : Array (Nat × Operand)) (v : Value) (ho : op.op = .build ty parts)
    (hx : ∀ w, (Instr.build ty (parts.map fun p => (p.1, a.eval p.2))).run Try.prog w = .ok v w) : YieldsIf Try.prog ops S op v a :=
  .inl ⟨hw, fun w _ => by
    unfold execOp
    have hx2 := hx w
    simp only [ho, hx2, Sem.run_bind, Sem.run_pure, Result.andThen_ok]⟩

set_option maxRecDepth 100000 in
set_option maxHeartbeats 3200000 in
theorem clone_any (c g : Nat) (m : Option Nat) (S : Bs) (w : World) (h : BookAt w c g m S) :
    Calls Try.prog 6 #[.pointer (some ⟨g, 0, none⟩)] w fun e w' => ∃ g' m', e = .returned (.pointer (some ⟨g', 0, none⟩)) ∧ Owned w w' c g' m' S := by
  obtain ⟨⟨us, hu, hcnt, hum⟩, hmap⟩ := id h
  have hl : us.length = 313 := hcnt.len
  obtain ⟨xs, hxs⟩ : ∃ xs, xs = us.take 312 := ⟨_, rfl⟩
  have hxl : xs.length = 312 := by rw [hxs, List.length_take, hl]; rfl
  have hrx : w.rangeAt g 0 xs := fun j v hv => by
    have hj : j < 312 := by have := (List.getElem?_eq_some_iff.1 hv).1; omega
    refine vrow_range0 hu j v ?_
    rw [hxs, List.getElem?_take, if_pos hj] at hv
    exact hv
  have hxu : ∀ i, i < 312 → xs[i]? = us[i]? := fun i hi => by rw [hxs, List.getElem?_take, if_pos hi]
  have hcm := hu.cell hum
  have hsz := size_counts xs hxl
  have hbu := fun m' => build_book xs hxl m'
  have hcl := fun W (q : MapAt W c m S.W) => mclone_any c m S.W W q
  have hgl := hu.lt
  have HC := Lib.hid hcnt
  have HX := Lib.hid hxu
  have HSZ := Lib.hid hsz
  have HBU := Lib.hid hbu
  have HCL := Lib.hid hcl
  have HM := Lib.hid hmap
  have HRX := Lib.hid hrx
  clear hcnt hxu hsz hbu hcl hmap hrx hu hum hxs h
  go_enter Try.func6, Try.ntmps6
  go_wp2_with fail
  refine wp_region_held_drew (S := (fun w' => w'.rangeAt g 0 xs ∧ w'.cell? ⟨g, 312, none⟩ = some (.map m))) (by kernel_rfl) ?_ (fun hHeld => ?_)
  · exact ⟨HRX.out, hcm⟩
  refine wpAnyH_take (i := 0) (oi := { dst := some 3, op := Go.Op.move (Go.Operand.tmp 0), type := 24, pos := "fees.go:116", after := #[], guard := none }) (v := ?av0) rfl (by kernel_rfl) (by kernel_rfl) (by kernel_rfl) (fun _ _ _ h => h) (Or.inl ⟨by rfl, ?ay0⟩) (by assumption) ?ar0
  case ay0 => (intro w hSw; (try dsimp only at hSw); go_simp; try (with_reducible rfl))
  case ar0 =>
  try simp only [Act.put, List.setIfInBounds_toArray, List.set_cons_zero, List.set_cons_succ]
  refine wpAnyH_take (i := 1) (oi := { dst := some 4, op := Go.Op.nilCheck (Go.Operand.tmp 3), type := 0, pos := "fees.go:116", after := #[{ on := 0, ground := Go.Ground.data }], guard := none }) (v := ?av1) rfl (by kernel_rfl) (by kernel_rfl) (by kernel_rfl) (fun _ _ _ h => h) (Or.inl ⟨by rfl, ?ay1⟩) (by assumption) ?ar1
  case ay1 => (intro w hSw; (try dsimp only at hSw); go_simp; try (with_reducible rfl))
  case ar1 =>
  try simp only [Act.put, List.setIfInBounds_toArray, List.set_cons_zero, List.set_cons_succ]
  refine wpAnyH_take (i := 2) (oi := { dst := some 5, op := Go.Op.fieldAddr 59 (Go.Operand.tmp 4) 0, type := 0, pos := "fees.go:116", after := #[{ on := 1, ground := Go.Ground.data }], guard := none }) (v := ?av2) rfl (by kernel_rfl) (by kernel_rfl) (by kernel_rfl) (fun _ _ _ h => h) (Or.inl ⟨by rfl, ?ay2⟩) (by assumption) ?ar2
  case ay2 => (intro w hSw; (try dsimp only at hSw); go_simp; try (with_reducible rfl))
  case ar2 =>
  try simp only [Act.put, List.setIfInBounds_toArray, List.set_cons_zero, List.set_cons_succ]
  refine wpAnyH_take (i := 3) (oi := { dst := some 6, op := Go.Op.load 56 (Go.Operand.tmp 5), type := 56, pos := "fees.go:116", after := #[{ on := 2, ground := Go.Ground.data }], guard := none }) (v := (.agg xs.toArray)) rfl (by kernel_rfl) (by kernel_rfl) (by kernel_rfl) (fun _ _ _ h => h) (yieldsIf_load_mid (by rfl) 56 (.tmp 5) rfl g 0 rfl xs _ (fun w' h => h.1) Try.underlying56 rfl HSZ.out) (by assumption) ?_
  try simp only [Act.put, List.setIfInBounds_toArray, List.set_cons_zero, List.set_cons_succ]
  refine wpAnyH_take (i := 4) (oi := { dst := some 7, op := Go.Op.move (Go.Operand.tmp 0), type := 24, pos := "fees.go:116", after := #[], guard := none }) (v := ?av4) rfl (by kernel_rfl) (by kernel_rfl) (by kernel_rfl) (fun _ _ _ h => h) (Or.inl ⟨by rfl, ?ay4⟩) (by assumption) ?ar4
  case ay4 => (intro w hSw; (try dsimp only at hSw); go_simp; try (with_reducible rfl))
  case ar4 =>
  try simp only [Act.put, List.setIfInBounds_toArray, List.set_cons_zero, List.set_cons_succ]
  refine wpAnyH_take (i := 5) (oi := { dst := some 8, op := Go.Op.nilCheck (Go.Operand.tmp 7), type := 0, pos := "fees.go:116", after := #[{ on := 4, ground := Go.Ground.data }], guard := none }) (v := ?av5) rfl (by kernel_rfl) (by kernel_rfl) (by kernel_rfl) (fun _ _ _ h => h) (Or.inl ⟨by rfl, ?ay5⟩) (by assumption) ?ar5
  case ay5 => (intro w hSw; (try dsimp only at hSw); go_simp; try (with_reducible rfl))
  case ar5 =>
  try simp only [Act.put, List.setIfInBounds_toArray, List.set_cons_zero, List.set_cons_succ]
  refine wpAnyH_take (i := 6) (oi := { dst := some 9, op := Go.Op.fieldAddr 59 (Go.Operand.tmp 8) 1, type := 0, pos := "fees.go:116", after := #[{ on := 5, ground := Go.Ground.data }], guard := none }) (v := ?av6) rfl (by kernel_rfl) (by kernel_rfl) (by kernel_rfl) (fun _ _ _ h => h) (Or.inl ⟨by rfl, ?ay6⟩) (by assumption) ?ar6
  case ay6 => (intro w hSw; (try dsimp only at hSw); go_simp; try (with_reducible rfl))
  case ar6 =>
  try simp only [Act.put, List.setIfInBounds_toArray, List.set_cons_zero, List.set_cons_succ]
  refine wpAnyH_take (i := 7) (oi := { dst := some 10, op := Go.Op.load 57 (Go.Operand.tmp 9), type := 57, pos := "fees.go:116", after := #[{ on := 6, ground := Go.Ground.data }], guard := none }) (v := (.map m)) rfl (by kernel_rfl) (by kernel_rfl) (by kernel_rfl) (fun _ _ _ h => h) (Or.inl ⟨by rfl, ?ay7⟩) (by assumption) ?ar7
  case ay7 => (intro w hSw; (try dsimp only at hSw); go_simp; try (simp [hSw.2]))
  case ar7 =>
  try simp only [Act.put, List.setIfInBounds_toArray, List.set_cons_zero, List.set_cons_succ]
  refine wpAnyH_ready (rs := [8]) (by kernel_rfl) (by simp) ?_
  refine AllReadyH.cons (o := { dst := some 11, op := Go.Op.call { callee := Go.Callee.value (Go.Operand.func 18), args := #[Go.Operand.tmp 10], argTypes := #[57] }, type := 57, pos := "fees.go:116", after := #[{ on := 7, ground := Go.Ground.data }], guard := none }) rfl (fun K hK => ?_) (AllReadyH.nil)
  go_simp
  refine (HCL.out _ HM.out.drew).mono ?_
  rintro e4 w4 ⟨m', rfl, hm4, hm4l, hb4⟩
  obtain ⟨ys, hbr, hyl, hyx, hym⟩ := HBU.out m'
  have hgl4 : g < w4.heap.size := Nat.lt_of_lt_of_le hgl hb4.size
  have hba := (Below.refl _ w4).alloc (Nat.le_refl _) (.cells ys.toArray 59)
  refine hK.out _ _ ?_ (fun hHeld => ?_)
  · exact ⟨fun j v hv => (hb4.cell (p := ⟨g, _, none⟩) hgl).trans (HRX.out j v hv), (hb4.cell (p := ⟨g, 312, none⟩) hgl).trans hcm⟩
  clear hK K
  try simp only [Act.put, List.setIfInBounds_toArray, List.set_cons_zero, List.set_cons_succ]
  refine wpAnyH_take (i := 9) (oi := { dst := some 12, op := Go.Op.build 59 #[(0, Go.Operand.tmp 6), (1, Go.Operand.tmp 11)], type := 59, pos := "fees.go:116", after := #[{ on := 3, ground := Go.Ground.data }, { on := 8, ground := Go.Ground.data }], guard := none }) (v := (.agg ys.toArray)) rfl (by kernel_rfl) (by kernel_rfl) (by kernel_rfl) (fun _ _ _ h => h) (yieldsIf_build_lit (by rfl) 59 _ (.agg ys.toArray) rfl (fun W => by (simp only [List.map_toArray, List.map_cons, List.map_nil]; exact hbr W))) (by assumption) ?_
  try simp only [Act.put, List.setIfInBounds_toArray, List.set_cons_zero, List.set_cons_succ]
  refine wpAnyH_ready (rs := [10]) (by kernel_rfl) (by simp) ?_
  refine AllReadyH.cons (o := { dst := some 13, op := Go.Op.box 59 (Go.Operand.tmp 12), type := 24, pos := "fees.go:116", after := #[{ on := 9, ground := Go.Ground.data }], guard := none }) rfl (fun K hK => ?_) (AllReadyH.nil)
  go_simp
  refine hK.out _ _ ?_ (fun hHeld => ?_)
  · exact ⟨fun j v hv => (hba.cell (p := ⟨g, _, none⟩) hgl4).trans ((hb4.cell (p := ⟨g, _, none⟩) hgl).trans (HRX.out j v hv)), (hba.cell (p := ⟨g, 312, none⟩) hgl4).trans ((hb4.cell (p := ⟨g, 312, none⟩) hgl).trans hcm)⟩
  clear hK K
  try simp only [Act.put, List.setIfInBounds_toArray, List.set_cons_zero, List.set_cons_succ]
  refine wpAnyH_take (i := 11) (oi := { dst := some 2, op := Go.Op.assign (Go.Operand.tmp 13), type := 24, pos := "fees.go:116", after := #[{ on := 10, ground := Go.Ground.data }, { on := 8, ground := Go.Ground.chain }, { on := 0, ground := Go.Ground.phase }, { on := 1, ground := Go.Ground.phase }, { on := 2, ground := Go.Ground.phase }, { on := 3, ground := Go.Ground.phase }, { on := 4, ground := Go.Ground.phase }, { on := 5, ground := Go.Ground.phase }, { on := 6, ground := Go.Ground.phase }, { on := 7, ground := Go.Ground.phase }, { on := 8, ground := Go.Ground.phase }, { on := 9, ground := Go.Ground.phase }, { on := 10, ground := Go.Ground.phase }], guard := none }) (v := ?a_8_10v11) rfl (by kernel_rfl) (by kernel_rfl) (by kernel_rfl) (fun _ _ _ h => h) (Or.inl ⟨by rfl, ?a_8_10y11⟩) (by assumption) ?a_8_10r11
  case a_8_10y11 => (intro w hSw; (try dsimp only at hSw); go_simp; try (with_reducible rfl))
  case a_8_10r11 =>
  try simp only [Act.put, List.setIfInBounds_toArray, List.set_cons_zero, List.set_cons_succ]
  refine wpAnyH_done (by kernel_rfl) ?_ _
  have HOWN := Lib.hid (show Owned w (w4.alloc (.cells ys.toArray 59)) c w4.heap.size m' S from
    ⟨⟨⟨ys, VRow.new w4 _ ys, ⟨hyl, fun k hk => (hyx _ (by omega)).trans ((HX.out _ (by omega)).trans (HC.out.all k hk)), fun k t hk ht => (hyx _ (by omega)).trans ((HX.out _ (by omega)).trans (HC.out.wi k t hk ht))⟩, hym⟩, hm4.turns (S := fun _ => False) (Turns.of_below hba) (fun _ _ q => q)⟩,
      ((Below.refl _ w).drew.trans hb4).trans (hba.mono hb4.size), hb4.size, hm4l⟩)
  clear hbr hyl hyx hym hm4 hm4l hb4 hba hgl4
  go_wp2_with fail
  exact bodyPost_ret (results_tmp rfl _ _ _) rfl ⟨_, m', rfl, HOWN.out⟩
end Go.Proofs.Ytfhpodeppmnopaa
