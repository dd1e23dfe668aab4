/-
  The reference's Forget. Conditions: a hundred thousand that wait at most.
-/
import Derived.Test.YtfhpodeppmnopaaFeRent
namespace Go.Proofs.Ytfhpodeppmnopaa
open Go.RowKit

theorem WtS.cells {w : World} {c n cap g : Nat} {W : List Ent} (h : WtS w c (.slice (some ⟨g, 0, none⟩) n cap) W) : ∀ j x, (W.flatMap (wtC c))[j]? = some x → w.cell? ⟨g, j, none⟩ = some x := fun j x hx => by
  have h1 := World.ownsRow.cells (g := g) h rfl j x hx
  have hadd : (⟨g, 0, none⟩ : Addr).add j = ⟨g, 0 + j, none⟩ := by unfold Addr.add; split <;> simp_all
  rw [hadd, Nat.zero_add] at h1
  exact h1
theorem flat_split (c i : Nat) (W : List Ent) : W.flatMap (wtC c) = (W.take i).flatMap (wtC c) ++ (W.drop i).flatMap (wtC c) := by rw [← List.flatMap_append, List.take_append_drop]
theorem WtS.front {w : World} {c n cap g : Nat} {W : List Ent} (h : WtS w c (.slice (some ⟨g, 0, none⟩) n cap) W) (i : Nat) : ∀ j x, ((W.take i).flatMap (wtC c))[j]? = some x → w.cell? ⟨g, 0 + j, none⟩ = some x := fun j x hx => by
  rw [Nat.zero_add]
  refine h.cells j x ?_
  rw [flat_split c i, List.getElem?_append_left (List.getElem?_eq_some_iff.1 hx).1]
  exact hx
theorem WtS.back {w : World} {c n cap g : Nat} {W : List Ent} (h : WtS w c (.slice (some ⟨g, 0, none⟩) n cap) W) {i : Nat} (hi : i ≤ W.length) : ∀ j x, ((W.drop i).flatMap (wtC c))[j]? = some x → w.cell? ⟨g, i * 34 + j, none⟩ = some x := fun j x hx => by
  refine h.cells _ x ?_
  have hl : ((W.take i).flatMap (wtC c)).length = i * 34 := by rw [flat_length (wtC c) 34 (wtC_length c), List.length_take, Nat.min_eq_left hi]
  rw [flat_split c i, List.getElem?_append_right (by omega), hl, Nat.add_sub_cancel_left]
  exact hx
theorem flat_one (c : Nat) (W : List Ent) : ∀ x ∈ W.flatMap (wtC c), x.oneCell' = true := fun x hx => by
  obtain ⟨e, _, hx⟩ := List.mem_flatMap.1 hx
  exact wtC_one c e x hx
theorem wtS_erase {w : World} {c i n : Nat} {v : Value} {W : List Ent} (h : w.ownsRow 0 41 34 v n ((W.take i).flatMap (wtC c) ++ (W.drop (i + 1)).flatMap (wtC c))) (hi : i < W.length) (hn : n = i + (W.length - (i + 1))) : WtS w c v (W.eraseIdx i) := by
  unfold WtS
  rw [List.eraseIdx_eq_take_drop_succ, List.flatMap_append, List.length_append, List.length_take, List.length_drop, Nat.min_eq_left (by omega)]
  subst hn
  exact h

set_option maxRecDepth 100000 in
set_option maxHeartbeats 6400000 in
theorem rforget_any (c id : Nat) (us : List Value) (S : Bs) (w : World) (hc : c < 256) (hid : id < 256) (h : RefV w c us S) (hW : Wids S.W) (hl : S.W.length ≤ 100000) :
    Calls Try.prog 21 #[.agg us.toArray, nmV c id] w (RefOut w c (forgetF S id)) := by
  have hzr := zero_ref
  have hzl := zRef_len
  have hsz := h.size
  have hone := h.one
  have hfd := fun W (hv : RefV W c us S) => find_any c id us S W hc hid hv hW (by omega)
  have hzi : (Try.prog.info? 30).map (·.size) = some zRef.length := by rw [zRef_len]; exact info_refbook
  unfold nmV at hfd ⊢
  have hi := size_raw (nmI c id) rfl
  obtain ⟨K, hK⟩ : ∃ K, K = nmI c id := ⟨_, rfl⟩
  rw [← hK] at hi ⊢
  simp only [← hK] at hfd
  have hat := refAt_start w c us K zRef
  obtain ⟨ZS, hZS⟩ : ∃ ZS, ZS = zRef := ⟨_, rfl⟩
  rw [← hZS] at hat hzl hzi
  rw [← hZS] at hzr
  obtain ⟨w1, hw1⟩ : ∃ z, z = (((w.alloc (.cells us.toArray 30)).alloc (.cells (K.map (Value.int .u8)).toArray 39)).alloc (.cells ZS.toArray 30)) := ⟨_, rfl⟩
  obtain ⟨G, hG⟩ : ∃ z, z = w.heap.size := ⟨_, rfl⟩
  obtain ⟨GK, hGK⟩ : ∃ z, z = w.heap.size + 1 := ⟨_, rfl⟩
  obtain ⟨GZ, hGZ⟩ : ∃ z, z = w.heap.size + 2 := ⟨_, rfl⟩
  rw [← hw1, ← hGZ, ← hGK] at hat
  have hat' : RefAt w w1 c G GK GZ us K ZS := by rw [hG]; exact hat
  have hv1 : RefV w1 c us S := h.below hat'.bel
  have HAT := Lib.hid hat'
  have HV1 := Lib.hid hv1
  have HFD := Lib.hid hfd
  have HI := Lib.hid hi
  have HSZ := Lib.hid hsz
  have HONE := Lib.hid hone
  have HZL := Lib.hid hzl
  have HZI := Lib.hid hzi
  have HW1 := Lib.hid hw1
  have HG := Lib.hid hG
  have HGK := Lib.hid hGK
  have HGZ := Lib.hid hGZ
  have HH := Lib.hid h
  have HL := Lib.hid hl
  clear hat hat' hv1 hfd hi hsz hone hzl hw1 hG hGK hGZ hK h hl hZS hzi hW
  cases hf : fIdx S.W id with
  | none =>
    have ef : findF S.W id = -1 := by unfold findF; rw [hf]
    have eE : forgetF S id = S := by unfold forgetF; rw [hf]
    rw [eE]
    simp only [ef] at HFD
    clear hf ef eE
    go_enter Try.func21, Try.ntmps21
    go_upto_region 1 with fail
    change Code.wp _ _ _ _ (((w.alloc (.cells us.toArray 30)).alloc (.cells (K.map (Value.int .u8)).toArray 39)).alloc (.cells ZS.toArray 30))
    rw [← HW1.out, show w.heap.size + 1 + 1 = GZ from HGZ.out.symm, show w.heap.size + 1 = GK from HGK.out.symm, show w.heap.size = G from HG.out.symm]
    clear HW1 HG HGK HGZ
    try dsimp only [Act.put]
    go_wp2_with (first
      | (refine wpList_load_vrow rfl 30 _ rfl rfl HAT.out.row Try.underlying30 HSZ.out ?_)
      | (refine wpList_load_irow rfl 39 _ rfl rfl HAT.out.key Try.underlying39 (by rw [← List.length_map (f := Value.int .u8)]; exact HI.out) ?_)
      | fail)
    refine (HFD.out _ HV1.out).mono ?_
    rintro e w2 ⟨rfl, hb2⟩
    have HAT2 := Lib.hid (HAT.out.below hb2)
    have HV2 := Lib.hid (HV1.out.below hb2)
    clear hb2
    go_upto_region 4 with fail
    have HAT9 := HAT2
    have HV9 := HV2
    have HSZ9 := HSZ
    have HONE9 := HONE
    have HLN9 := Lib.hid (show ZS.length = us.length by rw [HZL.out, HH.out.1.len])
    go_wp2_with (first
      | (refine wpList_load_vrow rfl 30 _ rfl rfl HAT9.out.row Try.underlying30 HSZ9.out ?_)
      | (refine wpList_store_vrow rfl 30 _ _ rfl rfl rfl HAT9.out.res HSZ9.out HLN9.out HONE9.out ?_))
    refine bodyPost_ret (v := .agg us.toArray) ?_ rfl ⟨us, rfl, (refAt_end HAT9.out HV9.out).1, (refAt_end HAT9.out HV9.out).2.1⟩
    exact results_cell_row Try.results21 _ _ GZ 30 us.toArray (0, 0) _ rfl (refAt_end HAT9.out HV9.out).2.2 Try.underlying30 rfl (by rw [List.size_toArray]; exact HSZ9.out)
  | some i =>
    have ef : findF S.W id = (i : Int) := by unfold findF; rw [hf]
    have eE : forgetF S id = ⟨S.A, S.I, S.W.eraseIdx i⟩ := by unfold forgetF; rw [hf]
    obtain ⟨e0, he0, _, hil, _⟩ := fIdx_some hf
    rw [eE]
    simp only [ef] at HFD
    have di : decide (0 ≤ (i : Int)) = true := decide_eq_true (by omega)
    obtain ⟨hcn, sl, hsl, hwt⟩ := HH.out
    have HCN := Lib.hid hcn
    have HSL := Lib.hid hsl
    obtain ⟨gw, cw, hform, hnc, hcm, hgl, _⟩ := hwt.at he0
    clear hf ef eE hcn hsl hwt he0
    go_enter Try.func21, Try.ntmps21
    go_upto_region 1 with fail
    change Code.wp _ _ _ _ (((w.alloc (.cells us.toArray 30)).alloc (.cells (K.map (Value.int .u8)).toArray 39)).alloc (.cells ZS.toArray 30))
    rw [← HW1.out, show w.heap.size + 1 + 1 = GZ from HGZ.out.symm, show w.heap.size + 1 = GK from HGK.out.symm, show w.heap.size = G from HG.out.symm]
    clear HW1 HG HGK HGZ
    try dsimp only [Act.put]
    go_wp2_with (first
      | (refine wpList_load_vrow rfl 30 _ rfl rfl HAT.out.row Try.underlying30 HSZ.out ?_)
      | (refine wpList_load_irow rfl 39 _ rfl rfl HAT.out.key Try.underlying39 (by rw [← List.length_map (f := Value.int .u8)]; exact HI.out) ?_)
      | fail)
    refine (HFD.out _ HV1.out).mono ?_
    rintro e w2 ⟨rfl, hb2⟩
    have HAT2 := Lib.hid (HAT.out.below hb2)
    have HV2 := Lib.hid (HV1.out.below hb2)
    clear hb2
    go_upto_region 3 with fail
    have hwt2 : WtS w2 c sl S.W := by
      obtain ⟨_, sl', h1, h2⟩ := HV2.out
      rw [HSL.out] at h1
      injection h1 with h1
      rw [h1]
      exact h2
    have c312 : w2.drew.cell? ⟨G, 312, none⟩ = some sl := HAT2.out.row.cell HSL.out
    subst hform
    obtain ⟨nw, hnw⟩ : ∃ nw, nw = S.W.length := ⟨_, rfl⟩
    rw [← hnw] at c312 hnc hil
    have HNW := Lib.hid hnw
    have hnI : (nw : Int) ≤ 100000 := by have := HL.out; omega
    have hcI : (cw : Int) ≤ 9223372036854775807 := by unfold maxLen at hcm; omega
    have wi1 : IntKind.i64.wrap ((i : Int) + 1) = (i : Int) + 1 := IntWalk.i64_in _ (by omega)
    have OE := Lib.hid (own_empty w2.drew)
    have HE0 := Lib.hid (empty_waits w2.drew)
    have HWT2 := Lib.hid hwt2
    rw [← hnw] at HSL
    have c312a : ∀ o, (w2.alloc o).drew.cell? ⟨G, 312, none⟩ = some (.slice (some ⟨gw, 0, none⟩) nw cw) := fun o => (((Below.refl _ w2.drew).alloc (Nat.le_refl _) o).cell (p := ⟨G, 312, none⟩) HAT2.out.row.lt).trans c312
    have hic : i ≤ cw := by omega
    have hi1 : i + 1 ≤ nw := by omega
    obtain ⟨A2, hA2⟩ : ∃ A2 : Option Addr, A2 = (if cw = i + 1 then some ⟨gw, 0, none⟩ else some ⟨gw, (i + 1) * 34, none⟩) := ⟨_, rfl⟩
    have HA2 := Lib.hid hA2
    have HIL := Lib.hid hil
    have hs5 := fun o => (show WtS (w2.alloc o).drew c _ S.W from (hwt2.below ((Below.refl _ w2).alloc (Nat.le_refl _) o)).drew).front i
    have hl5 : ((S.W.take i).flatMap (wtC c)).length = i * 34 := by rw [flat_length (wtC c) 34 (wtC_length c), List.length_take, Nat.min_eq_left (by rw [← hnw]; omega)]
    have hl11 : ((S.W.drop (i + 1)).flatMap (wtC c)).length = (nw - (i + 1)) * 34 := by rw [flat_length (wtC c) 34 (wtC_length c), List.length_drop, ← hnw]
    have hs11 : ∀ W', Below w2.drew.heap.size w2.drew W' → (.slice A2 (nw - (i + 1)) (cw - (i + 1)) = Value.slice none 0 0 ∧ nw - (i + 1) = 0 ∧ (S.W.drop (i + 1)).flatMap (wtC c) = []) ∨ ∃ g o c2, .slice A2 (nw - (i + 1)) (cw - (i + 1)) = Value.slice (some ⟨g, o, none⟩) (nw - (i + 1)) c2 ∧ ((S.W.drop (i + 1)).flatMap (wtC c)).length = (nw - (i + 1)) * 34 ∧ (∀ j x, ((S.W.drop (i + 1)).flatMap (wtC c))[j]? = some x → W'.cell? ⟨g, o + j, none⟩ = some x) ∧ ∀ x ∈ (S.W.drop (i + 1)).flatMap (wtC c), x.oneCell' = true := fun W' hb => by
      refine .inr ?_
      by_cases hc1 : cw = i + 1
      · refine ⟨gw, 0, _, by rw [hA2, if_pos hc1], hl11, fun j x hx => ?_, flat_one c _⟩
        have := (List.getElem?_eq_some_iff.1 hx).1
        rw [hl11] at this
        omega
      · exact ⟨gw, (i + 1) * 34, _, by rw [hA2, if_neg hc1], hl11, (hwt2.drew.below hb).back (by rw [← hnw]; omega), flat_one c _⟩
    have HS5 := Lib.hid hs5
    have HL5 := Lib.hid hl5
    have HS11 := Lib.hid hs11
    have c312b : ∀ W', Below w2.drew.heap.size w2.drew W' → W'.cell? ⟨G, 312, none⟩ = some (.slice (some ⟨gw, 0, none⟩) nw cw) := fun W' hb => (hb.cell (p := ⟨G, 312, none⟩) HAT2.out.row.lt).trans c312
    have C312B := Lib.hid c312b
    clear hwt2 hnw hcm hgl hs5 hl5 hl11 hs11 c312b hil hA2
    refine wp_region_held_drew (S := (fun w' => IRow w' GK 39 .u8 K)) (by kernel_rfl) ?_ (fun hHeld => ?_)
    · exact HAT2.out.key.drew
    refine wpAnyH_take (i := 1) (oi := { dst := some 12, op := Go.Op.fieldAddr 30 (Go.Operand.tmp 2) 2, type := 0, pos := "ref.go:54", after := #[], guard := none }) (v := ?av1) rfl (by kernel_rfl) (by kernel_rfl) (by kernel_rfl) (fun _ _ _ h => h) (Or.inl ⟨by rfl, ?ay1⟩) (by assumption) ?ar1
    case ay1 => (intro w hSw; (try dsimp only at hSw); go_simp; try (with_reducible rfl))
    case ar1 =>
    try simp only [Act.put, List.setIfInBounds_toArray, List.set_cons_zero, List.set_cons_succ]
    refine wpAnyH_take (i := 3) (oi := { dst := some 14, op := Go.Op.move (Go.Operand.tmp 5), type := 3, pos := "ref.go:54", after := #[], guard := none }) (v := ?av3) rfl (by kernel_rfl) (by kernel_rfl) (by kernel_rfl) (fun _ _ _ h => h) (Or.inl ⟨by rfl, ?ay3⟩) (by assumption) ?ar3
    case ay3 => (intro w hSw; (try dsimp only at hSw); go_simp; try (with_reducible rfl))
    case ar3 =>
    try simp only [Act.put, List.setIfInBounds_toArray, List.set_cons_zero, List.set_cons_succ]
    refine wpAnyH_take (i := 6) (oi := { dst := some 17, op := Go.Op.fieldAddr 30 (Go.Operand.tmp 2) 2, type := 0, pos := "ref.go:54", after := #[], guard := none }) (v := ?av6) rfl (by kernel_rfl) (by kernel_rfl) (by kernel_rfl) (fun _ _ _ h => h) (Or.inl ⟨by rfl, ?ay6⟩) (by assumption) ?ar6
    case ay6 => (intro w hSw; (try dsimp only at hSw); go_simp; try (with_reducible rfl))
    case ar6 =>
    try simp only [Act.put, List.setIfInBounds_toArray, List.set_cons_zero, List.set_cons_succ]
    refine wpAnyH_take (i := 8) (oi := { dst := some 19, op := Go.Op.move (Go.Operand.tmp 5), type := 3, pos := "ref.go:54", after := #[], guard := none }) (v := ?av8) rfl (by kernel_rfl) (by kernel_rfl) (by kernel_rfl) (fun _ _ _ h => h) (Or.inl ⟨by rfl, ?ay8⟩) (by assumption) ?ar8
    case ay8 => (intro w hSw; (try dsimp only at hSw); go_simp; try (with_reducible rfl))
    case ar8 =>
    try simp only [Act.put, List.setIfInBounds_toArray, List.set_cons_zero, List.set_cons_succ]
    refine wpAnyH_take (i := 9) (oi := { dst := some 20, op := Go.Op.binOp Go.BinOp.add 3 (Go.Operand.tmp 19) (Go.Operand.const (Go.Value.int Go.IntKind.i64 1)) 3, type := 3, pos := "ref.go:54", after := #[{ on := 8, ground := Go.Ground.data }], guard := none }) (v := (.int .i64 ((i : Int) + 1))) rfl (by kernel_rfl) (by kernel_rfl) (by kernel_rfl) (fun _ _ _ h => h) (Or.inl ⟨by rfl, ?ay9⟩) (by assumption) ?ar9
    case ay9 => (intro w hSw; (try dsimp only at hSw); go_simp; try (exact wi1))
    case ar9 =>
    try simp only [Act.put, List.setIfInBounds_toArray, List.set_cons_zero, List.set_cons_succ]
    refine wpAnyH_ready (rs := [0, 2, 7]) (by kernel_rfl) (by simp) ?_
    refine AllReadyH.cons (o := { dst := some 11, op := Go.Op.buildSlice 28 0 #[], type := 28, pos := "ref.go:54", after := #[], guard := none }) rfl (fun K hK => ?_) (AllReadyH.cons (o := { dst := some 13, op := Go.Op.load 28 (Go.Operand.tmp 12), type := 28, pos := "ref.go:54", after := #[{ on := 1, ground := Go.Ground.data }], guard := none }) rfl (fun K hK => ?_) (AllReadyH.cons (o := { dst := some 18, op := Go.Op.load 28 (Go.Operand.tmp 17), type := 28, pos := "ref.go:54", after := #[{ on := 6, ground := Go.Ground.data }], guard := none }) rfl (fun K hK => ?_) (AllReadyH.nil)))
    · as_aux_lemma =>
      refine wp_buildSlice _ _ _ rfl _ _ (by simp only [List.map_toArray, List.map_nil]; exact HE0.out) ?_
      have HATa := HAT2.out.drew.below ((Below.refl _ w2.drew).alloc (Nat.le_refl _) (.cells #[] 41))
      refine hK.out _ _ ?_ (fun hHeld => ?_)
      · exact HATa.key
      clear hK K
      try simp only [Act.put, List.setIfInBounds_toArray, List.set_cons_zero, List.set_cons_succ]
      refine wpAnyH_ready (rs := [2, 7]) (by kernel_rfl) (by simp) ?_
      refine AllReadyH.cons (o := { dst := some 13, op := Go.Op.load 28 (Go.Operand.tmp 12), type := 28, pos := "ref.go:54", after := #[{ on := 1, ground := Go.Ground.data }], guard := none }) rfl (fun K hK => ?_) (AllReadyH.cons (o := { dst := some 18, op := Go.Op.load 28 (Go.Operand.tmp 17), type := 28, pos := "ref.go:54", after := #[{ on := 6, ground := Go.Ground.data }], guard := none }) rfl (fun K hK => ?_) (AllReadyH.nil))
      · as_aux_lemma =>
        go_simp
        refine hK.out _ _ ?_ (fun hHeld => ?_)
        · exact hHeld
        clear hK K
        try simp only [Act.put, List.setIfInBounds_toArray, List.set_cons_zero, List.set_cons_succ]
        refine wpAnyH_take (i := 4) (oi := { dst := some 15, op := Go.Op.slice 28 (Go.Operand.tmp 13) none (some (Go.Operand.tmp 14)) none, type := 28, pos := "ref.go:54", after := #[{ on := 2, ground := Go.Ground.data }, { on := 3, ground := Go.Ground.data }], guard := none }) (v := (.slice (some ⟨gw, 0, none⟩) i cw)) rfl (by kernel_rfl) (by kernel_rfl) (by kernel_rfl) (fun _ _ _ h => h) (Or.inl ⟨by rfl, ?a_0_2y4⟩) (by assumption) ?a_0_2r4
        case a_0_2y4 => (intro w hSw; (try dsimp only at hSw); go_simp; try (simp [hic]))
        case a_0_2r4 =>
        try simp only [Act.put, List.setIfInBounds_toArray, List.set_cons_zero, List.set_cons_succ]
        refine wpAnyH_ready (rs := [5, 7]) (by kernel_rfl) (by simp) ?_
        refine AllReadyH.cons (o := { dst := some 16, op := Go.Op.call { callee := Go.Callee.builtin Go.Builtin.append, args := #[Go.Operand.tmp 11, Go.Operand.tmp 15], argTypes := #[28, 28] }, type := 28, pos := "ref.go:54", after := #[{ on := 0, ground := Go.Ground.data }, { on := 4, ground := Go.Ground.data }], guard := none }) rfl (fun K hK => ?_) (AllReadyH.cons (o := { dst := some 18, op := Go.Op.load 28 (Go.Operand.tmp 17), type := 28, pos := "ref.go:54", after := #[{ on := 6, ground := Go.Ground.data }], guard := none }) rfl (fun K hK => ?_) (AllReadyH.nil))
        · as_aux_lemma =>
          refine op_append_wt _ _ rfl _ 0 [] rfl OE.out _ i ((S.W.take i).flatMap (wtC c)) rfl (.inr ⟨gw, 0, cw, rfl, HL5.out, HS5.out _, flat_one c _⟩) (by omega) ?_
          intro v1 w3 own1 gr1 loc1
          rw [Nat.zero_add, List.nil_append] at own1
          have b3 : Below w2.drew.heap.size w2.drew w3 := ((Below.refl _ w2.drew).alloc (Nat.le_refl _) _).grown gr1 (by simp) (fun k hk => by have q : some w2.drew.heap.size = some k := hk; injection q with q; omega)
          have HAT3 := HAT2.out.drew.below b3
          have hv1 : ∀ k, v1.ownBlock = some k → w2.drew.heap.size ≤ k := fun k hk => own_from loc1 hk
          have c3 := C312B.out w3 b3
          have hs3 := HS11.out w3 b3
          refine hK.out _ _ ?_ (fun hHeld => ?_)
          · exact HAT3.key
          clear hK K
          try simp only [Act.put, List.setIfInBounds_toArray, List.set_cons_zero, List.set_cons_succ]
          refine wpAnyH_ready (rs := [7]) (by kernel_rfl) (by simp) ?_
          refine AllReadyH.cons (o := { dst := some 18, op := Go.Op.load 28 (Go.Operand.tmp 17), type := 28, pos := "ref.go:54", after := #[{ on := 6, ground := Go.Ground.data }], guard := none }) rfl (fun K hK => ?_) (AllReadyH.nil)
          go_simp
          refine hK.out _ _ ?_ (fun hHeld => ?_)
          · exact hHeld
          clear hK K
          try simp only [Act.put, List.setIfInBounds_toArray, List.set_cons_zero, List.set_cons_succ]
          refine wpAnyH_take (i := 10) (oi := { dst := some 21, op := Go.Op.slice 28 (Go.Operand.tmp 18) (some (Go.Operand.tmp 20)) none none, type := 28, pos := "ref.go:54", after := #[{ on := 7, ground := Go.Ground.data }, { on := 9, ground := Go.Ground.data }], guard := none }) (v := (.slice A2 (nw - (i + 1)) (cw - (i + 1)))) rfl (by kernel_rfl) (by kernel_rfl) (by kernel_rfl) (fun _ _ _ h => h) (Or.inl ⟨by rfl, ?a_0_2_5_7y10⟩) (by assumption) ?a_0_2_5_7r10
          case a_0_2_5_7y10 => (intro w hSw; (try dsimp only at hSw); go_simp; try (simp [hi1, HA2.out]; intro q; exact absurd (q (by omega)) (by omega)))
          case a_0_2_5_7r10 =>
          try simp only [Act.put, List.setIfInBounds_toArray, List.set_cons_zero, List.set_cons_succ]
          refine wpAnyH_ready (rs := [11]) (by kernel_rfl) (by simp) ?_
          refine AllReadyH.cons (o := { dst := some 22, op := Go.Op.call { callee := Go.Callee.builtin Go.Builtin.append, args := #[Go.Operand.tmp 16, Go.Operand.tmp 21], argTypes := #[28, 28] }, type := 28, pos := "ref.go:54", after := #[{ on := 5, ground := Go.Ground.data }, { on := 10, ground := Go.Ground.data }, { on := 5, ground := Go.Ground.chain }], guard := none }) rfl (fun K hK => ?_) (AllReadyH.nil)
          refine op_append_wt _ _ rfl v1 i _ rfl own1 _ (nw - (i + 1)) _ rfl hs3 (by omega) ?_
          intro v2 w6 own2 gr2 loc2
          have b6 : Below w2.drew.heap.size w3 w6 := (Below.refl _ w3).grown gr2 b3.size (fun k hk => hv1 k hk)
          have HAT6 := HAT2.out.drew.below (b3.trans b6)
          obtain ⟨A3, c3', hv2⟩ := own_form own2
          subst hv2
          have q312 : w6.cell? ⟨G, 312, none⟩ = some (.slice (some ⟨gw, 0, none⟩) nw cw) := HAT6.row.cell HSL.out
          have qfr := HAT6.row.free 312
          refine hK.out _ _ ?_ (fun hHeld => ?_)
          · exact HAT6.key
          clear hK K
          try simp only [Act.put, List.setIfInBounds_toArray, List.set_cons_zero, List.set_cons_succ]
          refine wpAnyH_take (i := 12) (oi := { dst := some 23, op := Go.Op.fieldAddr 30 (Go.Operand.tmp 2) 2, type := 0, pos := "ref.go:54", after := #[{ on := 0, ground := Go.Ground.phase }, { on := 1, ground := Go.Ground.phase }, { on := 2, ground := Go.Ground.phase }, { on := 3, ground := Go.Ground.phase }, { on := 4, ground := Go.Ground.phase }, { on := 5, ground := Go.Ground.phase }, { on := 6, ground := Go.Ground.phase }, { on := 7, ground := Go.Ground.phase }, { on := 8, ground := Go.Ground.phase }, { on := 9, ground := Go.Ground.phase }, { on := 10, ground := Go.Ground.phase }, { on := 11, ground := Go.Ground.phase }], guard := none }) (v := ?a_0_2_5_7_11v12) rfl (by kernel_rfl) (by kernel_rfl) (by kernel_rfl) (fun _ _ _ h => h) (Or.inl ⟨by rfl, ?a_0_2_5_7_11y12⟩) (by assumption) ?a_0_2_5_7_11r12
          case a_0_2_5_7_11y12 => (intro w hSw; (try dsimp only at hSw); go_simp; try (with_reducible rfl))
          case a_0_2_5_7_11r12 =>
          try simp only [Act.put, List.setIfInBounds_toArray, List.set_cons_zero, List.set_cons_succ]
          refine wpAnyH_ready (rs := [13]) (by kernel_rfl) (by simp) ?_
          refine AllReadyH.cons (o := { dst := none, op := Go.Op.store 28 (Go.Operand.tmp 23) (Go.Operand.tmp 22), type := 0, pos := "ref.go:54", after := #[{ on := 12, ground := Go.Ground.data }, { on := 11, ground := Go.Ground.data }, { on := 11, ground := Go.Ground.chain }, { on := 0, ground := Go.Ground.phase }, { on := 1, ground := Go.Ground.phase }, { on := 2, ground := Go.Ground.phase }, { on := 3, ground := Go.Ground.phase }, { on := 4, ground := Go.Ground.phase }, { on := 5, ground := Go.Ground.phase }, { on := 6, ground := Go.Ground.phase }, { on := 7, ground := Go.Ground.phase }, { on := 8, ground := Go.Ground.phase }, { on := 9, ground := Go.Ground.phase }, { on := 10, ground := Go.Ground.phase }, { on := 11, ground := Go.Ground.phase }], guard := none }) rfl (fun K hK => ?_) (AllReadyH.nil)
          have HAT7 := HAT6.set 312 (.slice A3 (i + (nw - (i + 1))) c3')
          have HV7 := HAT6.put HCN.out (v := .slice A3 (i + (nw - (i + 1))) c3') (W := S.W.eraseIdx i) (wtS_erase (n := i + (nw - (i + 1))) own2 (by rw [← HNW.out]; exact HIL.out) (by rw [HNW.out]))
          go_simp
          refine hK.out _ _ ?_ (fun hHeld => ?_)
          · exact HAT7.key
          clear hK K
          try simp only [Act.put]
          refine wpAnyH_done (by kernel_rfl) ?_ _
          have HSZ9 := Lib.hid HV7.size
          have HONE9 := Lib.hid HV7.one
          have HLN9 := Lib.hid (show ZS.length = (us.set 312 (.slice A3 (i + (nw - (i + 1))) c3')).length by rw [HZL.out, HV7.1.len])
          have HAT9 := Lib.hid HAT7
          have HV9 := Lib.hid HV7
          obtain ⟨us9, hus9⟩ : ∃ u, u = us.set 312 (.slice A3 (i + (nw - (i + 1))) c3') := ⟨_, rfl⟩
          obtain ⟨w9, hw9⟩ : ∃ u, u = w6.setCell ⟨G, 312, none⟩ (.slice A3 (i + (nw - (i + 1))) c3') := ⟨_, rfl⟩
          change Exit.then _ _ Exit.normal _ (w6.setCell ⟨G, 312, none⟩ (.slice A3 (i + (nw - (i + 1))) c3'))
          rw [← hw9]
          rw [← hus9] at HSZ9 HONE9 HLN9
          rw [← hus9, ← hw9] at HAT9 HV9
          clear HAT7 HV7 hus9 hw9 HATa HAT3 HAT6 own1 own2 gr1 gr2 loc1 loc2 b3 b6 q312 qfr c3 hs3
          go_wp2_with (first | (refine wpList_load_vrow rfl 30 _ rfl rfl HAT9.out.row Try.underlying30 HSZ9.out ?_) | (refine wpList_store_vrow rfl 30 _ _ rfl rfl rfl HAT9.out.res HSZ9.out HLN9.out HONE9.out ?_))
          refine bodyPost_ret (v := .agg us9.toArray) ?_ rfl ⟨us9, rfl, (refAt_end HAT9.out HV9.out).1, (refAt_end HAT9.out HV9.out).2.1⟩
          exact results_cell_row Try.results21 _ _ GZ 30 us9.toArray (0, 0) _ rfl (refAt_end HAT9.out HV9.out).2.2 Try.underlying30 rfl (by rw [List.size_toArray]; exact HSZ9.out)
        · as_aux_lemma =>
          go_simp
          refine hK.out _ _ ?_ (fun hHeld => ?_)
          · exact hHeld
          clear hK K
          try simp only [Act.put, List.setIfInBounds_toArray, List.set_cons_zero, List.set_cons_succ]
          refine wpAnyH_take (i := 10) (oi := { dst := some 21, op := Go.Op.slice 28 (Go.Operand.tmp 18) (some (Go.Operand.tmp 20)) none none, type := 28, pos := "ref.go:54", after := #[{ on := 7, ground := Go.Ground.data }, { on := 9, ground := Go.Ground.data }], guard := none }) (v := (.slice A2 (nw - (i + 1)) (cw - (i + 1)))) rfl (by kernel_rfl) (by kernel_rfl) (by kernel_rfl) (fun _ _ _ h => h) (Or.inl ⟨by rfl, ?a_0_2_7y10⟩) (by assumption) ?a_0_2_7r10
          case a_0_2_7y10 => (intro w hSw; (try dsimp only at hSw); go_simp; try (simp [hi1, HA2.out]; intro q; exact absurd (q (by omega)) (by omega)))
          case a_0_2_7r10 =>
          try simp only [Act.put, List.setIfInBounds_toArray, List.set_cons_zero, List.set_cons_succ]
          refine wpAnyH_ready (rs := [5]) (by kernel_rfl) (by simp) ?_
          refine AllReadyH.cons (o := { dst := some 16, op := Go.Op.call { callee := Go.Callee.builtin Go.Builtin.append, args := #[Go.Operand.tmp 11, Go.Operand.tmp 15], argTypes := #[28, 28] }, type := 28, pos := "ref.go:54", after := #[{ on := 0, ground := Go.Ground.data }, { on := 4, ground := Go.Ground.data }], guard := none }) rfl (fun K hK => ?_) (AllReadyH.nil)
          refine op_append_wt _ _ rfl _ 0 [] rfl OE.out _ i ((S.W.take i).flatMap (wtC c)) rfl (.inr ⟨gw, 0, cw, rfl, HL5.out, HS5.out _, flat_one c _⟩) (by omega) ?_
          intro v1 w3 own1 gr1 loc1
          rw [Nat.zero_add, List.nil_append] at own1
          have b3 : Below w2.drew.heap.size w2.drew w3 := ((Below.refl _ w2.drew).alloc (Nat.le_refl _) _).grown gr1 (by simp) (fun k hk => by have q : some w2.drew.heap.size = some k := hk; injection q with q; omega)
          have HAT3 := HAT2.out.drew.below b3
          have hv1 : ∀ k, v1.ownBlock = some k → w2.drew.heap.size ≤ k := fun k hk => own_from loc1 hk
          have c3 := C312B.out w3 b3
          have hs3 := HS11.out w3 b3
          refine hK.out _ _ ?_ (fun hHeld => ?_)
          · exact HAT3.key
          clear hK K
          try simp only [Act.put, List.setIfInBounds_toArray, List.set_cons_zero, List.set_cons_succ]
          refine wpAnyH_ready (rs := [11]) (by kernel_rfl) (by simp) ?_
          refine AllReadyH.cons (o := { dst := some 22, op := Go.Op.call { callee := Go.Callee.builtin Go.Builtin.append, args := #[Go.Operand.tmp 16, Go.Operand.tmp 21], argTypes := #[28, 28] }, type := 28, pos := "ref.go:54", after := #[{ on := 5, ground := Go.Ground.data }, { on := 10, ground := Go.Ground.data }, { on := 5, ground := Go.Ground.chain }], guard := none }) rfl (fun K hK => ?_) (AllReadyH.nil)
          refine op_append_wt _ _ rfl v1 i _ rfl own1 _ (nw - (i + 1)) _ rfl hs3 (by omega) ?_
          intro v2 w6 own2 gr2 loc2
          have b6 : Below w2.drew.heap.size w3 w6 := (Below.refl _ w3).grown gr2 b3.size (fun k hk => hv1 k hk)
          have HAT6 := HAT2.out.drew.below (b3.trans b6)
          obtain ⟨A3, c3', hv2⟩ := own_form own2
          subst hv2
          have q312 : w6.cell? ⟨G, 312, none⟩ = some (.slice (some ⟨gw, 0, none⟩) nw cw) := HAT6.row.cell HSL.out
          have qfr := HAT6.row.free 312
          refine hK.out _ _ ?_ (fun hHeld => ?_)
          · exact HAT6.key
          clear hK K
          try simp only [Act.put, List.setIfInBounds_toArray, List.set_cons_zero, List.set_cons_succ]
          refine wpAnyH_take (i := 12) (oi := { dst := some 23, op := Go.Op.fieldAddr 30 (Go.Operand.tmp 2) 2, type := 0, pos := "ref.go:54", after := #[{ on := 0, ground := Go.Ground.phase }, { on := 1, ground := Go.Ground.phase }, { on := 2, ground := Go.Ground.phase }, { on := 3, ground := Go.Ground.phase }, { on := 4, ground := Go.Ground.phase }, { on := 5, ground := Go.Ground.phase }, { on := 6, ground := Go.Ground.phase }, { on := 7, ground := Go.Ground.phase }, { on := 8, ground := Go.Ground.phase }, { on := 9, ground := Go.Ground.phase }, { on := 10, ground := Go.Ground.phase }, { on := 11, ground := Go.Ground.phase }], guard := none }) (v := ?a_0_2_7_5_11v12) rfl (by kernel_rfl) (by kernel_rfl) (by kernel_rfl) (fun _ _ _ h => h) (Or.inl ⟨by rfl, ?a_0_2_7_5_11y12⟩) (by assumption) ?a_0_2_7_5_11r12
          case a_0_2_7_5_11y12 => (intro w hSw; (try dsimp only at hSw); go_simp; try (with_reducible rfl))
          case a_0_2_7_5_11r12 =>
          try simp only [Act.put, List.setIfInBounds_toArray, List.set_cons_zero, List.set_cons_succ]
          refine wpAnyH_ready (rs := [13]) (by kernel_rfl) (by simp) ?_
          refine AllReadyH.cons (o := { dst := none, op := Go.Op.store 28 (Go.Operand.tmp 23) (Go.Operand.tmp 22), type := 0, pos := "ref.go:54", after := #[{ on := 12, ground := Go.Ground.data }, { on := 11, ground := Go.Ground.data }, { on := 11, ground := Go.Ground.chain }, { on := 0, ground := Go.Ground.phase }, { on := 1, ground := Go.Ground.phase }, { on := 2, ground := Go.Ground.phase }, { on := 3, ground := Go.Ground.phase }, { on := 4, ground := Go.Ground.phase }, { on := 5, ground := Go.Ground.phase }, { on := 6, ground := Go.Ground.phase }, { on := 7, ground := Go.Ground.phase }, { on := 8, ground := Go.Ground.phase }, { on := 9, ground := Go.Ground.phase }, { on := 10, ground := Go.Ground.phase }, { on := 11, ground := Go.Ground.phase }], guard := none }) rfl (fun K hK => ?_) (AllReadyH.nil)
          have HAT7 := HAT6.set 312 (.slice A3 (i + (nw - (i + 1))) c3')
          have HV7 := HAT6.put HCN.out (v := .slice A3 (i + (nw - (i + 1))) c3') (W := S.W.eraseIdx i) (wtS_erase (n := i + (nw - (i + 1))) own2 (by rw [← HNW.out]; exact HIL.out) (by rw [HNW.out]))
          go_simp
          refine hK.out _ _ ?_ (fun hHeld => ?_)
          · exact HAT7.key
          clear hK K
          try simp only [Act.put]
          refine wpAnyH_done (by kernel_rfl) ?_ _
          have HSZ9 := Lib.hid HV7.size
          have HONE9 := Lib.hid HV7.one
          have HLN9 := Lib.hid (show ZS.length = (us.set 312 (.slice A3 (i + (nw - (i + 1))) c3')).length by rw [HZL.out, HV7.1.len])
          have HAT9 := Lib.hid HAT7
          have HV9 := Lib.hid HV7
          obtain ⟨us9, hus9⟩ : ∃ u, u = us.set 312 (.slice A3 (i + (nw - (i + 1))) c3') := ⟨_, rfl⟩
          obtain ⟨w9, hw9⟩ : ∃ u, u = w6.setCell ⟨G, 312, none⟩ (.slice A3 (i + (nw - (i + 1))) c3') := ⟨_, rfl⟩
          change Exit.then _ _ Exit.normal _ (w6.setCell ⟨G, 312, none⟩ (.slice A3 (i + (nw - (i + 1))) c3'))
          rw [← hw9]
          rw [← hus9] at HSZ9 HONE9 HLN9
          rw [← hus9, ← hw9] at HAT9 HV9
          clear HAT7 HV7 hus9 hw9 HATa HAT3 HAT6 own1 own2 gr1 gr2 loc1 loc2 b3 b6 q312 qfr c3 hs3
          go_wp2_with (first | (refine wpList_load_vrow rfl 30 _ rfl rfl HAT9.out.row Try.underlying30 HSZ9.out ?_) | (refine wpList_store_vrow rfl 30 _ _ rfl rfl rfl HAT9.out.res HSZ9.out HLN9.out HONE9.out ?_))
          refine bodyPost_ret (v := .agg us9.toArray) ?_ rfl ⟨us9, rfl, (refAt_end HAT9.out HV9.out).1, (refAt_end HAT9.out HV9.out).2.1⟩
          exact results_cell_row Try.results21 _ _ GZ 30 us9.toArray (0, 0) _ rfl (refAt_end HAT9.out HV9.out).2.2 Try.underlying30 rfl (by rw [List.size_toArray]; exact HSZ9.out)
      · as_aux_lemma =>
        go_simp
        refine hK.out _ _ ?_ (fun hHeld => ?_)
        · exact hHeld
        clear hK K
        try simp only [Act.put, List.setIfInBounds_toArray, List.set_cons_zero, List.set_cons_succ]
        refine wpAnyH_take (i := 10) (oi := { dst := some 21, op := Go.Op.slice 28 (Go.Operand.tmp 18) (some (Go.Operand.tmp 20)) none none, type := 28, pos := "ref.go:54", after := #[{ on := 7, ground := Go.Ground.data }, { on := 9, ground := Go.Ground.data }], guard := none }) (v := (.slice A2 (nw - (i + 1)) (cw - (i + 1)))) rfl (by kernel_rfl) (by kernel_rfl) (by kernel_rfl) (fun _ _ _ h => h) (Or.inl ⟨by rfl, ?a_0_7y10⟩) (by assumption) ?a_0_7r10
        case a_0_7y10 => (intro w hSw; (try dsimp only at hSw); go_simp; try (simp [hi1, HA2.out]; intro q; exact absurd (q (by omega)) (by omega)))
        case a_0_7r10 =>
        try simp only [Act.put, List.setIfInBounds_toArray, List.set_cons_zero, List.set_cons_succ]
        refine wpAnyH_ready (rs := [2]) (by kernel_rfl) (by simp) ?_
        refine AllReadyH.cons (o := { dst := some 13, op := Go.Op.load 28 (Go.Operand.tmp 12), type := 28, pos := "ref.go:54", after := #[{ on := 1, ground := Go.Ground.data }], guard := none }) rfl (fun K hK => ?_) (AllReadyH.nil)
        go_simp
        refine hK.out _ _ ?_ (fun hHeld => ?_)
        · exact hHeld
        clear hK K
        try simp only [Act.put, List.setIfInBounds_toArray, List.set_cons_zero, List.set_cons_succ]
        refine wpAnyH_take (i := 4) (oi := { dst := some 15, op := Go.Op.slice 28 (Go.Operand.tmp 13) none (some (Go.Operand.tmp 14)) none, type := 28, pos := "ref.go:54", after := #[{ on := 2, ground := Go.Ground.data }, { on := 3, ground := Go.Ground.data }], guard := none }) (v := (.slice (some ⟨gw, 0, none⟩) i cw)) rfl (by kernel_rfl) (by kernel_rfl) (by kernel_rfl) (fun _ _ _ h => h) (Or.inl ⟨by rfl, ?a_0_7_2y4⟩) (by assumption) ?a_0_7_2r4
        case a_0_7_2y4 => (intro w hSw; (try dsimp only at hSw); go_simp; try (simp [hic]))
        case a_0_7_2r4 =>
        try simp only [Act.put, List.setIfInBounds_toArray, List.set_cons_zero, List.set_cons_succ]
        refine wpAnyH_ready (rs := [5]) (by kernel_rfl) (by simp) ?_
        refine AllReadyH.cons (o := { dst := some 16, op := Go.Op.call { callee := Go.Callee.builtin Go.Builtin.append, args := #[Go.Operand.tmp 11, Go.Operand.tmp 15], argTypes := #[28, 28] }, type := 28, pos := "ref.go:54", after := #[{ on := 0, ground := Go.Ground.data }, { on := 4, ground := Go.Ground.data }], guard := none }) rfl (fun K hK => ?_) (AllReadyH.nil)
        refine op_append_wt _ _ rfl _ 0 [] rfl OE.out _ i ((S.W.take i).flatMap (wtC c)) rfl (.inr ⟨gw, 0, cw, rfl, HL5.out, HS5.out _, flat_one c _⟩) (by omega) ?_
        intro v1 w3 own1 gr1 loc1
        rw [Nat.zero_add, List.nil_append] at own1
        have b3 : Below w2.drew.heap.size w2.drew w3 := ((Below.refl _ w2.drew).alloc (Nat.le_refl _) _).grown gr1 (by simp) (fun k hk => by have q : some w2.drew.heap.size = some k := hk; injection q with q; omega)
        have HAT3 := HAT2.out.drew.below b3
        have hv1 : ∀ k, v1.ownBlock = some k → w2.drew.heap.size ≤ k := fun k hk => own_from loc1 hk
        have c3 := C312B.out w3 b3
        have hs3 := HS11.out w3 b3
        refine hK.out _ _ ?_ (fun hHeld => ?_)
        · exact HAT3.key
        clear hK K
        try simp only [Act.put, List.setIfInBounds_toArray, List.set_cons_zero, List.set_cons_succ]
        refine wpAnyH_ready (rs := [11]) (by kernel_rfl) (by simp) ?_
        refine AllReadyH.cons (o := { dst := some 22, op := Go.Op.call { callee := Go.Callee.builtin Go.Builtin.append, args := #[Go.Operand.tmp 16, Go.Operand.tmp 21], argTypes := #[28, 28] }, type := 28, pos := "ref.go:54", after := #[{ on := 5, ground := Go.Ground.data }, { on := 10, ground := Go.Ground.data }, { on := 5, ground := Go.Ground.chain }], guard := none }) rfl (fun K hK => ?_) (AllReadyH.nil)
        refine op_append_wt _ _ rfl v1 i _ rfl own1 _ (nw - (i + 1)) _ rfl hs3 (by omega) ?_
        intro v2 w6 own2 gr2 loc2
        have b6 : Below w2.drew.heap.size w3 w6 := (Below.refl _ w3).grown gr2 b3.size (fun k hk => hv1 k hk)
        have HAT6 := HAT2.out.drew.below (b3.trans b6)
        obtain ⟨A3, c3', hv2⟩ := own_form own2
        subst hv2
        have q312 : w6.cell? ⟨G, 312, none⟩ = some (.slice (some ⟨gw, 0, none⟩) nw cw) := HAT6.row.cell HSL.out
        have qfr := HAT6.row.free 312
        refine hK.out _ _ ?_ (fun hHeld => ?_)
        · exact HAT6.key
        clear hK K
        try simp only [Act.put, List.setIfInBounds_toArray, List.set_cons_zero, List.set_cons_succ]
        refine wpAnyH_take (i := 12) (oi := { dst := some 23, op := Go.Op.fieldAddr 30 (Go.Operand.tmp 2) 2, type := 0, pos := "ref.go:54", after := #[{ on := 0, ground := Go.Ground.phase }, { on := 1, ground := Go.Ground.phase }, { on := 2, ground := Go.Ground.phase }, { on := 3, ground := Go.Ground.phase }, { on := 4, ground := Go.Ground.phase }, { on := 5, ground := Go.Ground.phase }, { on := 6, ground := Go.Ground.phase }, { on := 7, ground := Go.Ground.phase }, { on := 8, ground := Go.Ground.phase }, { on := 9, ground := Go.Ground.phase }, { on := 10, ground := Go.Ground.phase }, { on := 11, ground := Go.Ground.phase }], guard := none }) (v := ?a_0_7_2_5_11v12) rfl (by kernel_rfl) (by kernel_rfl) (by kernel_rfl) (fun _ _ _ h => h) (Or.inl ⟨by rfl, ?a_0_7_2_5_11y12⟩) (by assumption) ?a_0_7_2_5_11r12
        case a_0_7_2_5_11y12 => (intro w hSw; (try dsimp only at hSw); go_simp; try (with_reducible rfl))
        case a_0_7_2_5_11r12 =>
        try simp only [Act.put, List.setIfInBounds_toArray, List.set_cons_zero, List.set_cons_succ]
        refine wpAnyH_ready (rs := [13]) (by kernel_rfl) (by simp) ?_
        refine AllReadyH.cons (o := { dst := none, op := Go.Op.store 28 (Go.Operand.tmp 23) (Go.Operand.tmp 22), type := 0, pos := "ref.go:54", after := #[{ on := 12, ground := Go.Ground.data }, { on := 11, ground := Go.Ground.data }, { on := 11, ground := Go.Ground.chain }, { on := 0, ground := Go.Ground.phase }, { on := 1, ground := Go.Ground.phase }, { on := 2, ground := Go.Ground.phase }, { on := 3, ground := Go.Ground.phase }, { on := 4, ground := Go.Ground.phase }, { on := 5, ground := Go.Ground.phase }, { on := 6, ground := Go.Ground.phase }, { on := 7, ground := Go.Ground.phase }, { on := 8, ground := Go.Ground.phase }, { on := 9, ground := Go.Ground.phase }, { on := 10, ground := Go.Ground.phase }, { on := 11, ground := Go.Ground.phase }], guard := none }) rfl (fun K hK => ?_) (AllReadyH.nil)
        have HAT7 := HAT6.set 312 (.slice A3 (i + (nw - (i + 1))) c3')
        have HV7 := HAT6.put HCN.out (v := .slice A3 (i + (nw - (i + 1))) c3') (W := S.W.eraseIdx i) (wtS_erase (n := i + (nw - (i + 1))) own2 (by rw [← HNW.out]; exact HIL.out) (by rw [HNW.out]))
        go_simp
        refine hK.out _ _ ?_ (fun hHeld => ?_)
        · exact HAT7.key
        clear hK K
        try simp only [Act.put]
        refine wpAnyH_done (by kernel_rfl) ?_ _
        have HSZ9 := Lib.hid HV7.size
        have HONE9 := Lib.hid HV7.one
        have HLN9 := Lib.hid (show ZS.length = (us.set 312 (.slice A3 (i + (nw - (i + 1))) c3')).length by rw [HZL.out, HV7.1.len])
        have HAT9 := Lib.hid HAT7
        have HV9 := Lib.hid HV7
        obtain ⟨us9, hus9⟩ : ∃ u, u = us.set 312 (.slice A3 (i + (nw - (i + 1))) c3') := ⟨_, rfl⟩
        obtain ⟨w9, hw9⟩ : ∃ u, u = w6.setCell ⟨G, 312, none⟩ (.slice A3 (i + (nw - (i + 1))) c3') := ⟨_, rfl⟩
        change Exit.then _ _ Exit.normal _ (w6.setCell ⟨G, 312, none⟩ (.slice A3 (i + (nw - (i + 1))) c3'))
        rw [← hw9]
        rw [← hus9] at HSZ9 HONE9 HLN9
        rw [← hus9, ← hw9] at HAT9 HV9
        clear HAT7 HV7 hus9 hw9 HATa HAT3 HAT6 own1 own2 gr1 gr2 loc1 loc2 b3 b6 q312 qfr c3 hs3
        go_wp2_with (first | (refine wpList_load_vrow rfl 30 _ rfl rfl HAT9.out.row Try.underlying30 HSZ9.out ?_) | (refine wpList_store_vrow rfl 30 _ _ rfl rfl rfl HAT9.out.res HSZ9.out HLN9.out HONE9.out ?_))
        refine bodyPost_ret (v := .agg us9.toArray) ?_ rfl ⟨us9, rfl, (refAt_end HAT9.out HV9.out).1, (refAt_end HAT9.out HV9.out).2.1⟩
        exact results_cell_row Try.results21 _ _ GZ 30 us9.toArray (0, 0) _ rfl (refAt_end HAT9.out HV9.out).2.2 Try.underlying30 rfl (by rw [List.size_toArray]; exact HSZ9.out)
    · as_aux_lemma =>
      go_simp
      refine hK.out _ _ ?_ (fun hHeld => ?_)
      · exact hHeld
      clear hK K
      try simp only [Act.put, List.setIfInBounds_toArray, List.set_cons_zero, List.set_cons_succ]
      refine wpAnyH_take (i := 4) (oi := { dst := some 15, op := Go.Op.slice 28 (Go.Operand.tmp 13) none (some (Go.Operand.tmp 14)) none, type := 28, pos := "ref.go:54", after := #[{ on := 2, ground := Go.Ground.data }, { on := 3, ground := Go.Ground.data }], guard := none }) (v := (.slice (some ⟨gw, 0, none⟩) i cw)) rfl (by kernel_rfl) (by kernel_rfl) (by kernel_rfl) (fun _ _ _ h => h) (Or.inl ⟨by rfl, ?a_2y4⟩) (by assumption) ?a_2r4
      case a_2y4 => (intro w hSw; (try dsimp only at hSw); go_simp; try (simp [hic]))
      case a_2r4 =>
      try simp only [Act.put, List.setIfInBounds_toArray, List.set_cons_zero, List.set_cons_succ]
      refine wpAnyH_ready (rs := [0, 7]) (by kernel_rfl) (by simp) ?_
      refine AllReadyH.cons (o := { dst := some 11, op := Go.Op.buildSlice 28 0 #[], type := 28, pos := "ref.go:54", after := #[], guard := none }) rfl (fun K hK => ?_) (AllReadyH.cons (o := { dst := some 18, op := Go.Op.load 28 (Go.Operand.tmp 17), type := 28, pos := "ref.go:54", after := #[{ on := 6, ground := Go.Ground.data }], guard := none }) rfl (fun K hK => ?_) (AllReadyH.nil))
      · as_aux_lemma =>
        refine wp_buildSlice _ _ _ rfl _ _ (by simp only [List.map_toArray, List.map_nil]; exact HE0.out) ?_
        have HATa := HAT2.out.drew.below ((Below.refl _ w2.drew).alloc (Nat.le_refl _) (.cells #[] 41))
        refine hK.out _ _ ?_ (fun hHeld => ?_)
        · exact HATa.key
        clear hK K
        try simp only [Act.put, List.setIfInBounds_toArray, List.set_cons_zero, List.set_cons_succ]
        refine wpAnyH_ready (rs := [5, 7]) (by kernel_rfl) (by simp) ?_
        refine AllReadyH.cons (o := { dst := some 16, op := Go.Op.call { callee := Go.Callee.builtin Go.Builtin.append, args := #[Go.Operand.tmp 11, Go.Operand.tmp 15], argTypes := #[28, 28] }, type := 28, pos := "ref.go:54", after := #[{ on := 0, ground := Go.Ground.data }, { on := 4, ground := Go.Ground.data }], guard := none }) rfl (fun K hK => ?_) (AllReadyH.cons (o := { dst := some 18, op := Go.Op.load 28 (Go.Operand.tmp 17), type := 28, pos := "ref.go:54", after := #[{ on := 6, ground := Go.Ground.data }], guard := none }) rfl (fun K hK => ?_) (AllReadyH.nil))
        · as_aux_lemma =>
          refine op_append_wt _ _ rfl _ 0 [] rfl OE.out _ i ((S.W.take i).flatMap (wtC c)) rfl (.inr ⟨gw, 0, cw, rfl, HL5.out, HS5.out _, flat_one c _⟩) (by omega) ?_
          intro v1 w3 own1 gr1 loc1
          rw [Nat.zero_add, List.nil_append] at own1
          have b3 : Below w2.drew.heap.size w2.drew w3 := ((Below.refl _ w2.drew).alloc (Nat.le_refl _) _).grown gr1 (by simp) (fun k hk => by have q : some w2.drew.heap.size = some k := hk; injection q with q; omega)
          have HAT3 := HAT2.out.drew.below b3
          have hv1 : ∀ k, v1.ownBlock = some k → w2.drew.heap.size ≤ k := fun k hk => own_from loc1 hk
          have c3 := C312B.out w3 b3
          have hs3 := HS11.out w3 b3
          refine hK.out _ _ ?_ (fun hHeld => ?_)
          · exact HAT3.key
          clear hK K
          try simp only [Act.put, List.setIfInBounds_toArray, List.set_cons_zero, List.set_cons_succ]
          refine wpAnyH_ready (rs := [7]) (by kernel_rfl) (by simp) ?_
          refine AllReadyH.cons (o := { dst := some 18, op := Go.Op.load 28 (Go.Operand.tmp 17), type := 28, pos := "ref.go:54", after := #[{ on := 6, ground := Go.Ground.data }], guard := none }) rfl (fun K hK => ?_) (AllReadyH.nil)
          go_simp
          refine hK.out _ _ ?_ (fun hHeld => ?_)
          · exact hHeld
          clear hK K
          try simp only [Act.put, List.setIfInBounds_toArray, List.set_cons_zero, List.set_cons_succ]
          refine wpAnyH_take (i := 10) (oi := { dst := some 21, op := Go.Op.slice 28 (Go.Operand.tmp 18) (some (Go.Operand.tmp 20)) none none, type := 28, pos := "ref.go:54", after := #[{ on := 7, ground := Go.Ground.data }, { on := 9, ground := Go.Ground.data }], guard := none }) (v := (.slice A2 (nw - (i + 1)) (cw - (i + 1)))) rfl (by kernel_rfl) (by kernel_rfl) (by kernel_rfl) (fun _ _ _ h => h) (Or.inl ⟨by rfl, ?a_2_0_5_7y10⟩) (by assumption) ?a_2_0_5_7r10
          case a_2_0_5_7y10 => (intro w hSw; (try dsimp only at hSw); go_simp; try (simp [hi1, HA2.out]; intro q; exact absurd (q (by omega)) (by omega)))
          case a_2_0_5_7r10 =>
          try simp only [Act.put, List.setIfInBounds_toArray, List.set_cons_zero, List.set_cons_succ]
          refine wpAnyH_ready (rs := [11]) (by kernel_rfl) (by simp) ?_
          refine AllReadyH.cons (o := { dst := some 22, op := Go.Op.call { callee := Go.Callee.builtin Go.Builtin.append, args := #[Go.Operand.tmp 16, Go.Operand.tmp 21], argTypes := #[28, 28] }, type := 28, pos := "ref.go:54", after := #[{ on := 5, ground := Go.Ground.data }, { on := 10, ground := Go.Ground.data }, { on := 5, ground := Go.Ground.chain }], guard := none }) rfl (fun K hK => ?_) (AllReadyH.nil)
          refine op_append_wt _ _ rfl v1 i _ rfl own1 _ (nw - (i + 1)) _ rfl hs3 (by omega) ?_
          intro v2 w6 own2 gr2 loc2
          have b6 : Below w2.drew.heap.size w3 w6 := (Below.refl _ w3).grown gr2 b3.size (fun k hk => hv1 k hk)
          have HAT6 := HAT2.out.drew.below (b3.trans b6)
          obtain ⟨A3, c3', hv2⟩ := own_form own2
          subst hv2
          have q312 : w6.cell? ⟨G, 312, none⟩ = some (.slice (some ⟨gw, 0, none⟩) nw cw) := HAT6.row.cell HSL.out
          have qfr := HAT6.row.free 312
          refine hK.out _ _ ?_ (fun hHeld => ?_)
          · exact HAT6.key
          clear hK K
          try simp only [Act.put, List.setIfInBounds_toArray, List.set_cons_zero, List.set_cons_succ]
          refine wpAnyH_take (i := 12) (oi := { dst := some 23, op := Go.Op.fieldAddr 30 (Go.Operand.tmp 2) 2, type := 0, pos := "ref.go:54", after := #[{ on := 0, ground := Go.Ground.phase }, { on := 1, ground := Go.Ground.phase }, { on := 2, ground := Go.Ground.phase }, { on := 3, ground := Go.Ground.phase }, { on := 4, ground := Go.Ground.phase }, { on := 5, ground := Go.Ground.phase }, { on := 6, ground := Go.Ground.phase }, { on := 7, ground := Go.Ground.phase }, { on := 8, ground := Go.Ground.phase }, { on := 9, ground := Go.Ground.phase }, { on := 10, ground := Go.Ground.phase }, { on := 11, ground := Go.Ground.phase }], guard := none }) (v := ?a_2_0_5_7_11v12) rfl (by kernel_rfl) (by kernel_rfl) (by kernel_rfl) (fun _ _ _ h => h) (Or.inl ⟨by rfl, ?a_2_0_5_7_11y12⟩) (by assumption) ?a_2_0_5_7_11r12
          case a_2_0_5_7_11y12 => (intro w hSw; (try dsimp only at hSw); go_simp; try (with_reducible rfl))
          case a_2_0_5_7_11r12 =>
          try simp only [Act.put, List.setIfInBounds_toArray, List.set_cons_zero, List.set_cons_succ]
          refine wpAnyH_ready (rs := [13]) (by kernel_rfl) (by simp) ?_
          refine AllReadyH.cons (o := { dst := none, op := Go.Op.store 28 (Go.Operand.tmp 23) (Go.Operand.tmp 22), type := 0, pos := "ref.go:54", after := #[{ on := 12, ground := Go.Ground.data }, { on := 11, ground := Go.Ground.data }, { on := 11, ground := Go.Ground.chain }, { on := 0, ground := Go.Ground.phase }, { on := 1, ground := Go.Ground.phase }, { on := 2, ground := Go.Ground.phase }, { on := 3, ground := Go.Ground.phase }, { on := 4, ground := Go.Ground.phase }, { on := 5, ground := Go.Ground.phase }, { on := 6, ground := Go.Ground.phase }, { on := 7, ground := Go.Ground.phase }, { on := 8, ground := Go.Ground.phase }, { on := 9, ground := Go.Ground.phase }, { on := 10, ground := Go.Ground.phase }, { on := 11, ground := Go.Ground.phase }], guard := none }) rfl (fun K hK => ?_) (AllReadyH.nil)
          have HAT7 := HAT6.set 312 (.slice A3 (i + (nw - (i + 1))) c3')
          have HV7 := HAT6.put HCN.out (v := .slice A3 (i + (nw - (i + 1))) c3') (W := S.W.eraseIdx i) (wtS_erase (n := i + (nw - (i + 1))) own2 (by rw [← HNW.out]; exact HIL.out) (by rw [HNW.out]))
          go_simp
          refine hK.out _ _ ?_ (fun hHeld => ?_)
          · exact HAT7.key
          clear hK K
          try simp only [Act.put]
          refine wpAnyH_done (by kernel_rfl) ?_ _
          have HSZ9 := Lib.hid HV7.size
          have HONE9 := Lib.hid HV7.one
          have HLN9 := Lib.hid (show ZS.length = (us.set 312 (.slice A3 (i + (nw - (i + 1))) c3')).length by rw [HZL.out, HV7.1.len])
          have HAT9 := Lib.hid HAT7
          have HV9 := Lib.hid HV7
          obtain ⟨us9, hus9⟩ : ∃ u, u = us.set 312 (.slice A3 (i + (nw - (i + 1))) c3') := ⟨_, rfl⟩
          obtain ⟨w9, hw9⟩ : ∃ u, u = w6.setCell ⟨G, 312, none⟩ (.slice A3 (i + (nw - (i + 1))) c3') := ⟨_, rfl⟩
          change Exit.then _ _ Exit.normal _ (w6.setCell ⟨G, 312, none⟩ (.slice A3 (i + (nw - (i + 1))) c3'))
          rw [← hw9]
          rw [← hus9] at HSZ9 HONE9 HLN9
          rw [← hus9, ← hw9] at HAT9 HV9
          clear HAT7 HV7 hus9 hw9 HATa HAT3 HAT6 own1 own2 gr1 gr2 loc1 loc2 b3 b6 q312 qfr c3 hs3
          go_wp2_with (first | (refine wpList_load_vrow rfl 30 _ rfl rfl HAT9.out.row Try.underlying30 HSZ9.out ?_) | (refine wpList_store_vrow rfl 30 _ _ rfl rfl rfl HAT9.out.res HSZ9.out HLN9.out HONE9.out ?_))
          refine bodyPost_ret (v := .agg us9.toArray) ?_ rfl ⟨us9, rfl, (refAt_end HAT9.out HV9.out).1, (refAt_end HAT9.out HV9.out).2.1⟩
          exact results_cell_row Try.results21 _ _ GZ 30 us9.toArray (0, 0) _ rfl (refAt_end HAT9.out HV9.out).2.2 Try.underlying30 rfl (by rw [List.size_toArray]; exact HSZ9.out)
        · as_aux_lemma =>
          go_simp
          refine hK.out _ _ ?_ (fun hHeld => ?_)
          · exact hHeld
          clear hK K
          try simp only [Act.put, List.setIfInBounds_toArray, List.set_cons_zero, List.set_cons_succ]
          refine wpAnyH_take (i := 10) (oi := { dst := some 21, op := Go.Op.slice 28 (Go.Operand.tmp 18) (some (Go.Operand.tmp 20)) none none, type := 28, pos := "ref.go:54", after := #[{ on := 7, ground := Go.Ground.data }, { on := 9, ground := Go.Ground.data }], guard := none }) (v := (.slice A2 (nw - (i + 1)) (cw - (i + 1)))) rfl (by kernel_rfl) (by kernel_rfl) (by kernel_rfl) (fun _ _ _ h => h) (Or.inl ⟨by rfl, ?a_2_0_7y10⟩) (by assumption) ?a_2_0_7r10
          case a_2_0_7y10 => (intro w hSw; (try dsimp only at hSw); go_simp; try (simp [hi1, HA2.out]; intro q; exact absurd (q (by omega)) (by omega)))
          case a_2_0_7r10 =>
          try simp only [Act.put, List.setIfInBounds_toArray, List.set_cons_zero, List.set_cons_succ]
          refine wpAnyH_ready (rs := [5]) (by kernel_rfl) (by simp) ?_
          refine AllReadyH.cons (o := { dst := some 16, op := Go.Op.call { callee := Go.Callee.builtin Go.Builtin.append, args := #[Go.Operand.tmp 11, Go.Operand.tmp 15], argTypes := #[28, 28] }, type := 28, pos := "ref.go:54", after := #[{ on := 0, ground := Go.Ground.data }, { on := 4, ground := Go.Ground.data }], guard := none }) rfl (fun K hK => ?_) (AllReadyH.nil)
          refine op_append_wt _ _ rfl _ 0 [] rfl OE.out _ i ((S.W.take i).flatMap (wtC c)) rfl (.inr ⟨gw, 0, cw, rfl, HL5.out, HS5.out _, flat_one c _⟩) (by omega) ?_
          intro v1 w3 own1 gr1 loc1
          rw [Nat.zero_add, List.nil_append] at own1
          have b3 : Below w2.drew.heap.size w2.drew w3 := ((Below.refl _ w2.drew).alloc (Nat.le_refl _) _).grown gr1 (by simp) (fun k hk => by have q : some w2.drew.heap.size = some k := hk; injection q with q; omega)
          have HAT3 := HAT2.out.drew.below b3
          have hv1 : ∀ k, v1.ownBlock = some k → w2.drew.heap.size ≤ k := fun k hk => own_from loc1 hk
          have c3 := C312B.out w3 b3
          have hs3 := HS11.out w3 b3
          refine hK.out _ _ ?_ (fun hHeld => ?_)
          · exact HAT3.key
          clear hK K
          try simp only [Act.put, List.setIfInBounds_toArray, List.set_cons_zero, List.set_cons_succ]
          refine wpAnyH_ready (rs := [11]) (by kernel_rfl) (by simp) ?_
          refine AllReadyH.cons (o := { dst := some 22, op := Go.Op.call { callee := Go.Callee.builtin Go.Builtin.append, args := #[Go.Operand.tmp 16, Go.Operand.tmp 21], argTypes := #[28, 28] }, type := 28, pos := "ref.go:54", after := #[{ on := 5, ground := Go.Ground.data }, { on := 10, ground := Go.Ground.data }, { on := 5, ground := Go.Ground.chain }], guard := none }) rfl (fun K hK => ?_) (AllReadyH.nil)
          refine op_append_wt _ _ rfl v1 i _ rfl own1 _ (nw - (i + 1)) _ rfl hs3 (by omega) ?_
          intro v2 w6 own2 gr2 loc2
          have b6 : Below w2.drew.heap.size w3 w6 := (Below.refl _ w3).grown gr2 b3.size (fun k hk => hv1 k hk)
          have HAT6 := HAT2.out.drew.below (b3.trans b6)
          obtain ⟨A3, c3', hv2⟩ := own_form own2
          subst hv2
          have q312 : w6.cell? ⟨G, 312, none⟩ = some (.slice (some ⟨gw, 0, none⟩) nw cw) := HAT6.row.cell HSL.out
          have qfr := HAT6.row.free 312
          refine hK.out _ _ ?_ (fun hHeld => ?_)
          · exact HAT6.key
          clear hK K
          try simp only [Act.put, List.setIfInBounds_toArray, List.set_cons_zero, List.set_cons_succ]
          refine wpAnyH_take (i := 12) (oi := { dst := some 23, op := Go.Op.fieldAddr 30 (Go.Operand.tmp 2) 2, type := 0, pos := "ref.go:54", after := #[{ on := 0, ground := Go.Ground.phase }, { on := 1, ground := Go.Ground.phase }, { on := 2, ground := Go.Ground.phase }, { on := 3, ground := Go.Ground.phase }, { on := 4, ground := Go.Ground.phase }, { on := 5, ground := Go.Ground.phase }, { on := 6, ground := Go.Ground.phase }, { on := 7, ground := Go.Ground.phase }, { on := 8, ground := Go.Ground.phase }, { on := 9, ground := Go.Ground.phase }, { on := 10, ground := Go.Ground.phase }, { on := 11, ground := Go.Ground.phase }], guard := none }) (v := ?a_2_0_7_5_11v12) rfl (by kernel_rfl) (by kernel_rfl) (by kernel_rfl) (fun _ _ _ h => h) (Or.inl ⟨by rfl, ?a_2_0_7_5_11y12⟩) (by assumption) ?a_2_0_7_5_11r12
          case a_2_0_7_5_11y12 => (intro w hSw; (try dsimp only at hSw); go_simp; try (with_reducible rfl))
          case a_2_0_7_5_11r12 =>
          try simp only [Act.put, List.setIfInBounds_toArray, List.set_cons_zero, List.set_cons_succ]
          refine wpAnyH_ready (rs := [13]) (by kernel_rfl) (by simp) ?_
          refine AllReadyH.cons (o := { dst := none, op := Go.Op.store 28 (Go.Operand.tmp 23) (Go.Operand.tmp 22), type := 0, pos := "ref.go:54", after := #[{ on := 12, ground := Go.Ground.data }, { on := 11, ground := Go.Ground.data }, { on := 11, ground := Go.Ground.chain }, { on := 0, ground := Go.Ground.phase }, { on := 1, ground := Go.Ground.phase }, { on := 2, ground := Go.Ground.phase }, { on := 3, ground := Go.Ground.phase }, { on := 4, ground := Go.Ground.phase }, { on := 5, ground := Go.Ground.phase }, { on := 6, ground := Go.Ground.phase }, { on := 7, ground := Go.Ground.phase }, { on := 8, ground := Go.Ground.phase }, { on := 9, ground := Go.Ground.phase }, { on := 10, ground := Go.Ground.phase }, { on := 11, ground := Go.Ground.phase }], guard := none }) rfl (fun K hK => ?_) (AllReadyH.nil)
          have HAT7 := HAT6.set 312 (.slice A3 (i + (nw - (i + 1))) c3')
          have HV7 := HAT6.put HCN.out (v := .slice A3 (i + (nw - (i + 1))) c3') (W := S.W.eraseIdx i) (wtS_erase (n := i + (nw - (i + 1))) own2 (by rw [← HNW.out]; exact HIL.out) (by rw [HNW.out]))
          go_simp
          refine hK.out _ _ ?_ (fun hHeld => ?_)
          · exact HAT7.key
          clear hK K
          try simp only [Act.put]
          refine wpAnyH_done (by kernel_rfl) ?_ _
          have HSZ9 := Lib.hid HV7.size
          have HONE9 := Lib.hid HV7.one
          have HLN9 := Lib.hid (show ZS.length = (us.set 312 (.slice A3 (i + (nw - (i + 1))) c3')).length by rw [HZL.out, HV7.1.len])
          have HAT9 := Lib.hid HAT7
          have HV9 := Lib.hid HV7
          obtain ⟨us9, hus9⟩ : ∃ u, u = us.set 312 (.slice A3 (i + (nw - (i + 1))) c3') := ⟨_, rfl⟩
          obtain ⟨w9, hw9⟩ : ∃ u, u = w6.setCell ⟨G, 312, none⟩ (.slice A3 (i + (nw - (i + 1))) c3') := ⟨_, rfl⟩
          change Exit.then _ _ Exit.normal _ (w6.setCell ⟨G, 312, none⟩ (.slice A3 (i + (nw - (i + 1))) c3'))
          rw [← hw9]
          rw [← hus9] at HSZ9 HONE9 HLN9
          rw [← hus9, ← hw9] at HAT9 HV9
          clear HAT7 HV7 hus9 hw9 HATa HAT3 HAT6 own1 own2 gr1 gr2 loc1 loc2 b3 b6 q312 qfr c3 hs3
          go_wp2_with (first | (refine wpList_load_vrow rfl 30 _ rfl rfl HAT9.out.row Try.underlying30 HSZ9.out ?_) | (refine wpList_store_vrow rfl 30 _ _ rfl rfl rfl HAT9.out.res HSZ9.out HLN9.out HONE9.out ?_))
          refine bodyPost_ret (v := .agg us9.toArray) ?_ rfl ⟨us9, rfl, (refAt_end HAT9.out HV9.out).1, (refAt_end HAT9.out HV9.out).2.1⟩
          exact results_cell_row Try.results21 _ _ GZ 30 us9.toArray (0, 0) _ rfl (refAt_end HAT9.out HV9.out).2.2 Try.underlying30 rfl (by rw [List.size_toArray]; exact HSZ9.out)
      · as_aux_lemma =>
        go_simp
        refine hK.out _ _ ?_ (fun hHeld => ?_)
        · exact hHeld
        clear hK K
        try simp only [Act.put, List.setIfInBounds_toArray, List.set_cons_zero, List.set_cons_succ]
        refine wpAnyH_take (i := 10) (oi := { dst := some 21, op := Go.Op.slice 28 (Go.Operand.tmp 18) (some (Go.Operand.tmp 20)) none none, type := 28, pos := "ref.go:54", after := #[{ on := 7, ground := Go.Ground.data }, { on := 9, ground := Go.Ground.data }], guard := none }) (v := (.slice A2 (nw - (i + 1)) (cw - (i + 1)))) rfl (by kernel_rfl) (by kernel_rfl) (by kernel_rfl) (fun _ _ _ h => h) (Or.inl ⟨by rfl, ?a_2_7y10⟩) (by assumption) ?a_2_7r10
        case a_2_7y10 => (intro w hSw; (try dsimp only at hSw); go_simp; try (simp [hi1, HA2.out]; intro q; exact absurd (q (by omega)) (by omega)))
        case a_2_7r10 =>
        try simp only [Act.put, List.setIfInBounds_toArray, List.set_cons_zero, List.set_cons_succ]
        refine wpAnyH_ready (rs := [0]) (by kernel_rfl) (by simp) ?_
        refine AllReadyH.cons (o := { dst := some 11, op := Go.Op.buildSlice 28 0 #[], type := 28, pos := "ref.go:54", after := #[], guard := none }) rfl (fun K hK => ?_) (AllReadyH.nil)
        refine wp_buildSlice _ _ _ rfl _ _ (by simp only [List.map_toArray, List.map_nil]; exact HE0.out) ?_
        have HATa := HAT2.out.drew.below ((Below.refl _ w2.drew).alloc (Nat.le_refl _) (.cells #[] 41))
        refine hK.out _ _ ?_ (fun hHeld => ?_)
        · exact HATa.key
        clear hK K
        try simp only [Act.put, List.setIfInBounds_toArray, List.set_cons_zero, List.set_cons_succ]
        refine wpAnyH_ready (rs := [5]) (by kernel_rfl) (by simp) ?_
        refine AllReadyH.cons (o := { dst := some 16, op := Go.Op.call { callee := Go.Callee.builtin Go.Builtin.append, args := #[Go.Operand.tmp 11, Go.Operand.tmp 15], argTypes := #[28, 28] }, type := 28, pos := "ref.go:54", after := #[{ on := 0, ground := Go.Ground.data }, { on := 4, ground := Go.Ground.data }], guard := none }) rfl (fun K hK => ?_) (AllReadyH.nil)
        refine op_append_wt _ _ rfl _ 0 [] rfl OE.out _ i ((S.W.take i).flatMap (wtC c)) rfl (.inr ⟨gw, 0, cw, rfl, HL5.out, HS5.out _, flat_one c _⟩) (by omega) ?_
        intro v1 w3 own1 gr1 loc1
        rw [Nat.zero_add, List.nil_append] at own1
        have b3 : Below w2.drew.heap.size w2.drew w3 := ((Below.refl _ w2.drew).alloc (Nat.le_refl _) _).grown gr1 (by simp) (fun k hk => by have q : some w2.drew.heap.size = some k := hk; injection q with q; omega)
        have HAT3 := HAT2.out.drew.below b3
        have hv1 : ∀ k, v1.ownBlock = some k → w2.drew.heap.size ≤ k := fun k hk => own_from loc1 hk
        have c3 := C312B.out w3 b3
        have hs3 := HS11.out w3 b3
        refine hK.out _ _ ?_ (fun hHeld => ?_)
        · exact HAT3.key
        clear hK K
        try simp only [Act.put, List.setIfInBounds_toArray, List.set_cons_zero, List.set_cons_succ]
        refine wpAnyH_ready (rs := [11]) (by kernel_rfl) (by simp) ?_
        refine AllReadyH.cons (o := { dst := some 22, op := Go.Op.call { callee := Go.Callee.builtin Go.Builtin.append, args := #[Go.Operand.tmp 16, Go.Operand.tmp 21], argTypes := #[28, 28] }, type := 28, pos := "ref.go:54", after := #[{ on := 5, ground := Go.Ground.data }, { on := 10, ground := Go.Ground.data }, { on := 5, ground := Go.Ground.chain }], guard := none }) rfl (fun K hK => ?_) (AllReadyH.nil)
        refine op_append_wt _ _ rfl v1 i _ rfl own1 _ (nw - (i + 1)) _ rfl hs3 (by omega) ?_
        intro v2 w6 own2 gr2 loc2
        have b6 : Below w2.drew.heap.size w3 w6 := (Below.refl _ w3).grown gr2 b3.size (fun k hk => hv1 k hk)
        have HAT6 := HAT2.out.drew.below (b3.trans b6)
        obtain ⟨A3, c3', hv2⟩ := own_form own2
        subst hv2
        have q312 : w6.cell? ⟨G, 312, none⟩ = some (.slice (some ⟨gw, 0, none⟩) nw cw) := HAT6.row.cell HSL.out
        have qfr := HAT6.row.free 312
        refine hK.out _ _ ?_ (fun hHeld => ?_)
        · exact HAT6.key
        clear hK K
        try simp only [Act.put, List.setIfInBounds_toArray, List.set_cons_zero, List.set_cons_succ]
        refine wpAnyH_take (i := 12) (oi := { dst := some 23, op := Go.Op.fieldAddr 30 (Go.Operand.tmp 2) 2, type := 0, pos := "ref.go:54", after := #[{ on := 0, ground := Go.Ground.phase }, { on := 1, ground := Go.Ground.phase }, { on := 2, ground := Go.Ground.phase }, { on := 3, ground := Go.Ground.phase }, { on := 4, ground := Go.Ground.phase }, { on := 5, ground := Go.Ground.phase }, { on := 6, ground := Go.Ground.phase }, { on := 7, ground := Go.Ground.phase }, { on := 8, ground := Go.Ground.phase }, { on := 9, ground := Go.Ground.phase }, { on := 10, ground := Go.Ground.phase }, { on := 11, ground := Go.Ground.phase }], guard := none }) (v := ?a_2_7_0_5_11v12) rfl (by kernel_rfl) (by kernel_rfl) (by kernel_rfl) (fun _ _ _ h => h) (Or.inl ⟨by rfl, ?a_2_7_0_5_11y12⟩) (by assumption) ?a_2_7_0_5_11r12
        case a_2_7_0_5_11y12 => (intro w hSw; (try dsimp only at hSw); go_simp; try (with_reducible rfl))
        case a_2_7_0_5_11r12 =>
        try simp only [Act.put, List.setIfInBounds_toArray, List.set_cons_zero, List.set_cons_succ]
        refine wpAnyH_ready (rs := [13]) (by kernel_rfl) (by simp) ?_
        refine AllReadyH.cons (o := { dst := none, op := Go.Op.store 28 (Go.Operand.tmp 23) (Go.Operand.tmp 22), type := 0, pos := "ref.go:54", after := #[{ on := 12, ground := Go.Ground.data }, { on := 11, ground := Go.Ground.data }, { on := 11, ground := Go.Ground.chain }, { on := 0, ground := Go.Ground.phase }, { on := 1, ground := Go.Ground.phase }, { on := 2, ground := Go.Ground.phase }, { on := 3, ground := Go.Ground.phase }, { on := 4, ground := Go.Ground.phase }, { on := 5, ground := Go.Ground.phase }, { on := 6, ground := Go.Ground.phase }, { on := 7, ground := Go.Ground.phase }, { on := 8, ground := Go.Ground.phase }, { on := 9, ground := Go.Ground.phase }, { on := 10, ground := Go.Ground.phase }, { on := 11, ground := Go.Ground.phase }], guard := none }) rfl (fun K hK => ?_) (AllReadyH.nil)
        have HAT7 := HAT6.set 312 (.slice A3 (i + (nw - (i + 1))) c3')
        have HV7 := HAT6.put HCN.out (v := .slice A3 (i + (nw - (i + 1))) c3') (W := S.W.eraseIdx i) (wtS_erase (n := i + (nw - (i + 1))) own2 (by rw [← HNW.out]; exact HIL.out) (by rw [HNW.out]))
        go_simp
        refine hK.out _ _ ?_ (fun hHeld => ?_)
        · exact HAT7.key
        clear hK K
        try simp only [Act.put]
        refine wpAnyH_done (by kernel_rfl) ?_ _
        have HSZ9 := Lib.hid HV7.size
        have HONE9 := Lib.hid HV7.one
        have HLN9 := Lib.hid (show ZS.length = (us.set 312 (.slice A3 (i + (nw - (i + 1))) c3')).length by rw [HZL.out, HV7.1.len])
        have HAT9 := Lib.hid HAT7
        have HV9 := Lib.hid HV7
        obtain ⟨us9, hus9⟩ : ∃ u, u = us.set 312 (.slice A3 (i + (nw - (i + 1))) c3') := ⟨_, rfl⟩
        obtain ⟨w9, hw9⟩ : ∃ u, u = w6.setCell ⟨G, 312, none⟩ (.slice A3 (i + (nw - (i + 1))) c3') := ⟨_, rfl⟩
        change Exit.then _ _ Exit.normal _ (w6.setCell ⟨G, 312, none⟩ (.slice A3 (i + (nw - (i + 1))) c3'))
        rw [← hw9]
        rw [← hus9] at HSZ9 HONE9 HLN9
        rw [← hus9, ← hw9] at HAT9 HV9
        clear HAT7 HV7 hus9 hw9 HATa HAT3 HAT6 own1 own2 gr1 gr2 loc1 loc2 b3 b6 q312 qfr c3 hs3
        go_wp2_with (first | (refine wpList_load_vrow rfl 30 _ rfl rfl HAT9.out.row Try.underlying30 HSZ9.out ?_) | (refine wpList_store_vrow rfl 30 _ _ rfl rfl rfl HAT9.out.res HSZ9.out HLN9.out HONE9.out ?_))
        refine bodyPost_ret (v := .agg us9.toArray) ?_ rfl ⟨us9, rfl, (refAt_end HAT9.out HV9.out).1, (refAt_end HAT9.out HV9.out).2.1⟩
        exact results_cell_row Try.results21 _ _ GZ 30 us9.toArray (0, 0) _ rfl (refAt_end HAT9.out HV9.out).2.2 Try.underlying30 rfl (by rw [List.size_toArray]; exact HSZ9.out)
    · as_aux_lemma =>
      go_simp
      refine hK.out _ _ ?_ (fun hHeld => ?_)
      · exact hHeld
      clear hK K
      try simp only [Act.put, List.setIfInBounds_toArray, List.set_cons_zero, List.set_cons_succ]
      refine wpAnyH_take (i := 10) (oi := { dst := some 21, op := Go.Op.slice 28 (Go.Operand.tmp 18) (some (Go.Operand.tmp 20)) none none, type := 28, pos := "ref.go:54", after := #[{ on := 7, ground := Go.Ground.data }, { on := 9, ground := Go.Ground.data }], guard := none }) (v := (.slice A2 (nw - (i + 1)) (cw - (i + 1)))) rfl (by kernel_rfl) (by kernel_rfl) (by kernel_rfl) (fun _ _ _ h => h) (Or.inl ⟨by rfl, ?a_7y10⟩) (by assumption) ?a_7r10
      case a_7y10 => (intro w hSw; (try dsimp only at hSw); go_simp; try (simp [hi1, HA2.out]; intro q; exact absurd (q (by omega)) (by omega)))
      case a_7r10 =>
      try simp only [Act.put, List.setIfInBounds_toArray, List.set_cons_zero, List.set_cons_succ]
      refine wpAnyH_ready (rs := [0, 2]) (by kernel_rfl) (by simp) ?_
      refine AllReadyH.cons (o := { dst := some 11, op := Go.Op.buildSlice 28 0 #[], type := 28, pos := "ref.go:54", after := #[], guard := none }) rfl (fun K hK => ?_) (AllReadyH.cons (o := { dst := some 13, op := Go.Op.load 28 (Go.Operand.tmp 12), type := 28, pos := "ref.go:54", after := #[{ on := 1, ground := Go.Ground.data }], guard := none }) rfl (fun K hK => ?_) (AllReadyH.nil))
      · as_aux_lemma =>
        refine wp_buildSlice _ _ _ rfl _ _ (by simp only [List.map_toArray, List.map_nil]; exact HE0.out) ?_
        have HATa := HAT2.out.drew.below ((Below.refl _ w2.drew).alloc (Nat.le_refl _) (.cells #[] 41))
        refine hK.out _ _ ?_ (fun hHeld => ?_)
        · exact HATa.key
        clear hK K
        try simp only [Act.put, List.setIfInBounds_toArray, List.set_cons_zero, List.set_cons_succ]
        refine wpAnyH_ready (rs := [2]) (by kernel_rfl) (by simp) ?_
        refine AllReadyH.cons (o := { dst := some 13, op := Go.Op.load 28 (Go.Operand.tmp 12), type := 28, pos := "ref.go:54", after := #[{ on := 1, ground := Go.Ground.data }], guard := none }) rfl (fun K hK => ?_) (AllReadyH.nil)
        go_simp
        refine hK.out _ _ ?_ (fun hHeld => ?_)
        · exact hHeld
        clear hK K
        try simp only [Act.put, List.setIfInBounds_toArray, List.set_cons_zero, List.set_cons_succ]
        refine wpAnyH_take (i := 4) (oi := { dst := some 15, op := Go.Op.slice 28 (Go.Operand.tmp 13) none (some (Go.Operand.tmp 14)) none, type := 28, pos := "ref.go:54", after := #[{ on := 2, ground := Go.Ground.data }, { on := 3, ground := Go.Ground.data }], guard := none }) (v := (.slice (some ⟨gw, 0, none⟩) i cw)) rfl (by kernel_rfl) (by kernel_rfl) (by kernel_rfl) (fun _ _ _ h => h) (Or.inl ⟨by rfl, ?a_7_0_2y4⟩) (by assumption) ?a_7_0_2r4
        case a_7_0_2y4 => (intro w hSw; (try dsimp only at hSw); go_simp; try (simp [hic]))
        case a_7_0_2r4 =>
        try simp only [Act.put, List.setIfInBounds_toArray, List.set_cons_zero, List.set_cons_succ]
        refine wpAnyH_ready (rs := [5]) (by kernel_rfl) (by simp) ?_
        refine AllReadyH.cons (o := { dst := some 16, op := Go.Op.call { callee := Go.Callee.builtin Go.Builtin.append, args := #[Go.Operand.tmp 11, Go.Operand.tmp 15], argTypes := #[28, 28] }, type := 28, pos := "ref.go:54", after := #[{ on := 0, ground := Go.Ground.data }, { on := 4, ground := Go.Ground.data }], guard := none }) rfl (fun K hK => ?_) (AllReadyH.nil)
        refine op_append_wt _ _ rfl _ 0 [] rfl OE.out _ i ((S.W.take i).flatMap (wtC c)) rfl (.inr ⟨gw, 0, cw, rfl, HL5.out, HS5.out _, flat_one c _⟩) (by omega) ?_
        intro v1 w3 own1 gr1 loc1
        rw [Nat.zero_add, List.nil_append] at own1
        have b3 : Below w2.drew.heap.size w2.drew w3 := ((Below.refl _ w2.drew).alloc (Nat.le_refl _) _).grown gr1 (by simp) (fun k hk => by have q : some w2.drew.heap.size = some k := hk; injection q with q; omega)
        have HAT3 := HAT2.out.drew.below b3
        have hv1 : ∀ k, v1.ownBlock = some k → w2.drew.heap.size ≤ k := fun k hk => own_from loc1 hk
        have c3 := C312B.out w3 b3
        have hs3 := HS11.out w3 b3
        refine hK.out _ _ ?_ (fun hHeld => ?_)
        · exact HAT3.key
        clear hK K
        try simp only [Act.put, List.setIfInBounds_toArray, List.set_cons_zero, List.set_cons_succ]
        refine wpAnyH_ready (rs := [11]) (by kernel_rfl) (by simp) ?_
        refine AllReadyH.cons (o := { dst := some 22, op := Go.Op.call { callee := Go.Callee.builtin Go.Builtin.append, args := #[Go.Operand.tmp 16, Go.Operand.tmp 21], argTypes := #[28, 28] }, type := 28, pos := "ref.go:54", after := #[{ on := 5, ground := Go.Ground.data }, { on := 10, ground := Go.Ground.data }, { on := 5, ground := Go.Ground.chain }], guard := none }) rfl (fun K hK => ?_) (AllReadyH.nil)
        refine op_append_wt _ _ rfl v1 i _ rfl own1 _ (nw - (i + 1)) _ rfl hs3 (by omega) ?_
        intro v2 w6 own2 gr2 loc2
        have b6 : Below w2.drew.heap.size w3 w6 := (Below.refl _ w3).grown gr2 b3.size (fun k hk => hv1 k hk)
        have HAT6 := HAT2.out.drew.below (b3.trans b6)
        obtain ⟨A3, c3', hv2⟩ := own_form own2
        subst hv2
        have q312 : w6.cell? ⟨G, 312, none⟩ = some (.slice (some ⟨gw, 0, none⟩) nw cw) := HAT6.row.cell HSL.out
        have qfr := HAT6.row.free 312
        refine hK.out _ _ ?_ (fun hHeld => ?_)
        · exact HAT6.key
        clear hK K
        try simp only [Act.put, List.setIfInBounds_toArray, List.set_cons_zero, List.set_cons_succ]
        refine wpAnyH_take (i := 12) (oi := { dst := some 23, op := Go.Op.fieldAddr 30 (Go.Operand.tmp 2) 2, type := 0, pos := "ref.go:54", after := #[{ on := 0, ground := Go.Ground.phase }, { on := 1, ground := Go.Ground.phase }, { on := 2, ground := Go.Ground.phase }, { on := 3, ground := Go.Ground.phase }, { on := 4, ground := Go.Ground.phase }, { on := 5, ground := Go.Ground.phase }, { on := 6, ground := Go.Ground.phase }, { on := 7, ground := Go.Ground.phase }, { on := 8, ground := Go.Ground.phase }, { on := 9, ground := Go.Ground.phase }, { on := 10, ground := Go.Ground.phase }, { on := 11, ground := Go.Ground.phase }], guard := none }) (v := ?a_7_0_2_5_11v12) rfl (by kernel_rfl) (by kernel_rfl) (by kernel_rfl) (fun _ _ _ h => h) (Or.inl ⟨by rfl, ?a_7_0_2_5_11y12⟩) (by assumption) ?a_7_0_2_5_11r12
        case a_7_0_2_5_11y12 => (intro w hSw; (try dsimp only at hSw); go_simp; try (with_reducible rfl))
        case a_7_0_2_5_11r12 =>
        try simp only [Act.put, List.setIfInBounds_toArray, List.set_cons_zero, List.set_cons_succ]
        refine wpAnyH_ready (rs := [13]) (by kernel_rfl) (by simp) ?_
        refine AllReadyH.cons (o := { dst := none, op := Go.Op.store 28 (Go.Operand.tmp 23) (Go.Operand.tmp 22), type := 0, pos := "ref.go:54", after := #[{ on := 12, ground := Go.Ground.data }, { on := 11, ground := Go.Ground.data }, { on := 11, ground := Go.Ground.chain }, { on := 0, ground := Go.Ground.phase }, { on := 1, ground := Go.Ground.phase }, { on := 2, ground := Go.Ground.phase }, { on := 3, ground := Go.Ground.phase }, { on := 4, ground := Go.Ground.phase }, { on := 5, ground := Go.Ground.phase }, { on := 6, ground := Go.Ground.phase }, { on := 7, ground := Go.Ground.phase }, { on := 8, ground := Go.Ground.phase }, { on := 9, ground := Go.Ground.phase }, { on := 10, ground := Go.Ground.phase }, { on := 11, ground := Go.Ground.phase }], guard := none }) rfl (fun K hK => ?_) (AllReadyH.nil)
        have HAT7 := HAT6.set 312 (.slice A3 (i + (nw - (i + 1))) c3')
        have HV7 := HAT6.put HCN.out (v := .slice A3 (i + (nw - (i + 1))) c3') (W := S.W.eraseIdx i) (wtS_erase (n := i + (nw - (i + 1))) own2 (by rw [← HNW.out]; exact HIL.out) (by rw [HNW.out]))
        go_simp
        refine hK.out _ _ ?_ (fun hHeld => ?_)
        · exact HAT7.key
        clear hK K
        try simp only [Act.put]
        refine wpAnyH_done (by kernel_rfl) ?_ _
        have HSZ9 := Lib.hid HV7.size
        have HONE9 := Lib.hid HV7.one
        have HLN9 := Lib.hid (show ZS.length = (us.set 312 (.slice A3 (i + (nw - (i + 1))) c3')).length by rw [HZL.out, HV7.1.len])
        have HAT9 := Lib.hid HAT7
        have HV9 := Lib.hid HV7
        obtain ⟨us9, hus9⟩ : ∃ u, u = us.set 312 (.slice A3 (i + (nw - (i + 1))) c3') := ⟨_, rfl⟩
        obtain ⟨w9, hw9⟩ : ∃ u, u = w6.setCell ⟨G, 312, none⟩ (.slice A3 (i + (nw - (i + 1))) c3') := ⟨_, rfl⟩
        change Exit.then _ _ Exit.normal _ (w6.setCell ⟨G, 312, none⟩ (.slice A3 (i + (nw - (i + 1))) c3'))
        rw [← hw9]
        rw [← hus9] at HSZ9 HONE9 HLN9
        rw [← hus9, ← hw9] at HAT9 HV9
        clear HAT7 HV7 hus9 hw9 HATa HAT3 HAT6 own1 own2 gr1 gr2 loc1 loc2 b3 b6 q312 qfr c3 hs3
        go_wp2_with (first | (refine wpList_load_vrow rfl 30 _ rfl rfl HAT9.out.row Try.underlying30 HSZ9.out ?_) | (refine wpList_store_vrow rfl 30 _ _ rfl rfl rfl HAT9.out.res HSZ9.out HLN9.out HONE9.out ?_))
        refine bodyPost_ret (v := .agg us9.toArray) ?_ rfl ⟨us9, rfl, (refAt_end HAT9.out HV9.out).1, (refAt_end HAT9.out HV9.out).2.1⟩
        exact results_cell_row Try.results21 _ _ GZ 30 us9.toArray (0, 0) _ rfl (refAt_end HAT9.out HV9.out).2.2 Try.underlying30 rfl (by rw [List.size_toArray]; exact HSZ9.out)
      · as_aux_lemma =>
        go_simp
        refine hK.out _ _ ?_ (fun hHeld => ?_)
        · exact hHeld
        clear hK K
        try simp only [Act.put, List.setIfInBounds_toArray, List.set_cons_zero, List.set_cons_succ]
        refine wpAnyH_take (i := 4) (oi := { dst := some 15, op := Go.Op.slice 28 (Go.Operand.tmp 13) none (some (Go.Operand.tmp 14)) none, type := 28, pos := "ref.go:54", after := #[{ on := 2, ground := Go.Ground.data }, { on := 3, ground := Go.Ground.data }], guard := none }) (v := (.slice (some ⟨gw, 0, none⟩) i cw)) rfl (by kernel_rfl) (by kernel_rfl) (by kernel_rfl) (fun _ _ _ h => h) (Or.inl ⟨by rfl, ?a_7_2y4⟩) (by assumption) ?a_7_2r4
        case a_7_2y4 => (intro w hSw; (try dsimp only at hSw); go_simp; try (simp [hic]))
        case a_7_2r4 =>
        try simp only [Act.put, List.setIfInBounds_toArray, List.set_cons_zero, List.set_cons_succ]
        refine wpAnyH_ready (rs := [0]) (by kernel_rfl) (by simp) ?_
        refine AllReadyH.cons (o := { dst := some 11, op := Go.Op.buildSlice 28 0 #[], type := 28, pos := "ref.go:54", after := #[], guard := none }) rfl (fun K hK => ?_) (AllReadyH.nil)
        refine wp_buildSlice _ _ _ rfl _ _ (by simp only [List.map_toArray, List.map_nil]; exact HE0.out) ?_
        have HATa := HAT2.out.drew.below ((Below.refl _ w2.drew).alloc (Nat.le_refl _) (.cells #[] 41))
        refine hK.out _ _ ?_ (fun hHeld => ?_)
        · exact HATa.key
        clear hK K
        try simp only [Act.put, List.setIfInBounds_toArray, List.set_cons_zero, List.set_cons_succ]
        refine wpAnyH_ready (rs := [5]) (by kernel_rfl) (by simp) ?_
        refine AllReadyH.cons (o := { dst := some 16, op := Go.Op.call { callee := Go.Callee.builtin Go.Builtin.append, args := #[Go.Operand.tmp 11, Go.Operand.tmp 15], argTypes := #[28, 28] }, type := 28, pos := "ref.go:54", after := #[{ on := 0, ground := Go.Ground.data }, { on := 4, ground := Go.Ground.data }], guard := none }) rfl (fun K hK => ?_) (AllReadyH.nil)
        refine op_append_wt _ _ rfl _ 0 [] rfl OE.out _ i ((S.W.take i).flatMap (wtC c)) rfl (.inr ⟨gw, 0, cw, rfl, HL5.out, HS5.out _, flat_one c _⟩) (by omega) ?_
        intro v1 w3 own1 gr1 loc1
        rw [Nat.zero_add, List.nil_append] at own1
        have b3 : Below w2.drew.heap.size w2.drew w3 := ((Below.refl _ w2.drew).alloc (Nat.le_refl _) _).grown gr1 (by simp) (fun k hk => by have q : some w2.drew.heap.size = some k := hk; injection q with q; omega)
        have HAT3 := HAT2.out.drew.below b3
        have hv1 : ∀ k, v1.ownBlock = some k → w2.drew.heap.size ≤ k := fun k hk => own_from loc1 hk
        have c3 := C312B.out w3 b3
        have hs3 := HS11.out w3 b3
        refine hK.out _ _ ?_ (fun hHeld => ?_)
        · exact HAT3.key
        clear hK K
        try simp only [Act.put, List.setIfInBounds_toArray, List.set_cons_zero, List.set_cons_succ]
        refine wpAnyH_ready (rs := [11]) (by kernel_rfl) (by simp) ?_
        refine AllReadyH.cons (o := { dst := some 22, op := Go.Op.call { callee := Go.Callee.builtin Go.Builtin.append, args := #[Go.Operand.tmp 16, Go.Operand.tmp 21], argTypes := #[28, 28] }, type := 28, pos := "ref.go:54", after := #[{ on := 5, ground := Go.Ground.data }, { on := 10, ground := Go.Ground.data }, { on := 5, ground := Go.Ground.chain }], guard := none }) rfl (fun K hK => ?_) (AllReadyH.nil)
        refine op_append_wt _ _ rfl v1 i _ rfl own1 _ (nw - (i + 1)) _ rfl hs3 (by omega) ?_
        intro v2 w6 own2 gr2 loc2
        have b6 : Below w2.drew.heap.size w3 w6 := (Below.refl _ w3).grown gr2 b3.size (fun k hk => hv1 k hk)
        have HAT6 := HAT2.out.drew.below (b3.trans b6)
        obtain ⟨A3, c3', hv2⟩ := own_form own2
        subst hv2
        have q312 : w6.cell? ⟨G, 312, none⟩ = some (.slice (some ⟨gw, 0, none⟩) nw cw) := HAT6.row.cell HSL.out
        have qfr := HAT6.row.free 312
        refine hK.out _ _ ?_ (fun hHeld => ?_)
        · exact HAT6.key
        clear hK K
        try simp only [Act.put, List.setIfInBounds_toArray, List.set_cons_zero, List.set_cons_succ]
        refine wpAnyH_take (i := 12) (oi := { dst := some 23, op := Go.Op.fieldAddr 30 (Go.Operand.tmp 2) 2, type := 0, pos := "ref.go:54", after := #[{ on := 0, ground := Go.Ground.phase }, { on := 1, ground := Go.Ground.phase }, { on := 2, ground := Go.Ground.phase }, { on := 3, ground := Go.Ground.phase }, { on := 4, ground := Go.Ground.phase }, { on := 5, ground := Go.Ground.phase }, { on := 6, ground := Go.Ground.phase }, { on := 7, ground := Go.Ground.phase }, { on := 8, ground := Go.Ground.phase }, { on := 9, ground := Go.Ground.phase }, { on := 10, ground := Go.Ground.phase }, { on := 11, ground := Go.Ground.phase }], guard := none }) (v := ?a_7_2_0_5_11v12) rfl (by kernel_rfl) (by kernel_rfl) (by kernel_rfl) (fun _ _ _ h => h) (Or.inl ⟨by rfl, ?a_7_2_0_5_11y12⟩) (by assumption) ?a_7_2_0_5_11r12
        case a_7_2_0_5_11y12 => (intro w hSw; (try dsimp only at hSw); go_simp; try (with_reducible rfl))
        case a_7_2_0_5_11r12 =>
        try simp only [Act.put, List.setIfInBounds_toArray, List.set_cons_zero, List.set_cons_succ]
        refine wpAnyH_ready (rs := [13]) (by kernel_rfl) (by simp) ?_
        refine AllReadyH.cons (o := { dst := none, op := Go.Op.store 28 (Go.Operand.tmp 23) (Go.Operand.tmp 22), type := 0, pos := "ref.go:54", after := #[{ on := 12, ground := Go.Ground.data }, { on := 11, ground := Go.Ground.data }, { on := 11, ground := Go.Ground.chain }, { on := 0, ground := Go.Ground.phase }, { on := 1, ground := Go.Ground.phase }, { on := 2, ground := Go.Ground.phase }, { on := 3, ground := Go.Ground.phase }, { on := 4, ground := Go.Ground.phase }, { on := 5, ground := Go.Ground.phase }, { on := 6, ground := Go.Ground.phase }, { on := 7, ground := Go.Ground.phase }, { on := 8, ground := Go.Ground.phase }, { on := 9, ground := Go.Ground.phase }, { on := 10, ground := Go.Ground.phase }, { on := 11, ground := Go.Ground.phase }], guard := none }) rfl (fun K hK => ?_) (AllReadyH.nil)
        have HAT7 := HAT6.set 312 (.slice A3 (i + (nw - (i + 1))) c3')
        have HV7 := HAT6.put HCN.out (v := .slice A3 (i + (nw - (i + 1))) c3') (W := S.W.eraseIdx i) (wtS_erase (n := i + (nw - (i + 1))) own2 (by rw [← HNW.out]; exact HIL.out) (by rw [HNW.out]))
        go_simp
        refine hK.out _ _ ?_ (fun hHeld => ?_)
        · exact HAT7.key
        clear hK K
        try simp only [Act.put]
        refine wpAnyH_done (by kernel_rfl) ?_ _
        have HSZ9 := Lib.hid HV7.size
        have HONE9 := Lib.hid HV7.one
        have HLN9 := Lib.hid (show ZS.length = (us.set 312 (.slice A3 (i + (nw - (i + 1))) c3')).length by rw [HZL.out, HV7.1.len])
        have HAT9 := Lib.hid HAT7
        have HV9 := Lib.hid HV7
        obtain ⟨us9, hus9⟩ : ∃ u, u = us.set 312 (.slice A3 (i + (nw - (i + 1))) c3') := ⟨_, rfl⟩
        obtain ⟨w9, hw9⟩ : ∃ u, u = w6.setCell ⟨G, 312, none⟩ (.slice A3 (i + (nw - (i + 1))) c3') := ⟨_, rfl⟩
        change Exit.then _ _ Exit.normal _ (w6.setCell ⟨G, 312, none⟩ (.slice A3 (i + (nw - (i + 1))) c3'))
        rw [← hw9]
        rw [← hus9] at HSZ9 HONE9 HLN9
        rw [← hus9, ← hw9] at HAT9 HV9
        clear HAT7 HV7 hus9 hw9 HATa HAT3 HAT6 own1 own2 gr1 gr2 loc1 loc2 b3 b6 q312 qfr c3 hs3
        go_wp2_with (first | (refine wpList_load_vrow rfl 30 _ rfl rfl HAT9.out.row Try.underlying30 HSZ9.out ?_) | (refine wpList_store_vrow rfl 30 _ _ rfl rfl rfl HAT9.out.res HSZ9.out HLN9.out HONE9.out ?_))
        refine bodyPost_ret (v := .agg us9.toArray) ?_ rfl ⟨us9, rfl, (refAt_end HAT9.out HV9.out).1, (refAt_end HAT9.out HV9.out).2.1⟩
        exact results_cell_row Try.results21 _ _ GZ 30 us9.toArray (0, 0) _ rfl (refAt_end HAT9.out HV9.out).2.2 Try.underlying30 rfl (by rw [List.size_toArray]; exact HSZ9.out)
end Go.Proofs.Ytfhpodeppmnopaa
