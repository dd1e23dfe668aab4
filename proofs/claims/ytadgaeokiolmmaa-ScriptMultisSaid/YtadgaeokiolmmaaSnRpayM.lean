/-
  PayMulti, of the reference. Conditions: twenty keys at most, forty bytes each.
-/
import Derived.Test.YtadgaeokiolmmaaSnPayM
import Derived.Test.YtadgaeokiolmmaaOp
namespace Go.Proofs.Ytadgaeokiolmmaa
open Go.RowKit

theorem cell_ad {w : World} {o : Obj} {b off : Nat} {v : Value} (h : w.cell? ⟨b, off, none⟩ = some v) (hb : b < w.heap.size) : ((w.alloc o).drew).cell? ⟨b, off, none⟩ = some v :=
  (((Below.refl _ w).alloc (Nat.le_refl _) o).cell (p := ⟨b, off, none⟩) hb).trans h
theorem bv_vcode {v : Int} (h0 : 0 < v) (h1 : v ≤ 16) : bv (vcode v) = .int .u8 (80 + v) := by
  unfold vcode bv
  rw [if_neg (by omega), UInt8.toNat_ofNat', Nat.mod_eq_of_lt (by omega)]
  congr 1
  omega

set_option maxRecDepth 100000 in
set_option maxHeartbeats 12800000 in
theorem rpayMulti_any (m : Int) (B : Nat) (x : Value) (L : List (Value × List UInt8)) (w : World) (_h0 : -9223372036854775808 ≤ m) (_h1 : m ≤ 9223372036854775807) (hx : BagR w B x L) (hB : B ≤ w.heap.size) (hl : L.length ≤ 20) (hk40 : ∀ p ∈ L, p.2.length ≤ 40) :
    Calls Try.prog 40 #[.int .i64 m, x] w (PayMV w m (L.map (·.2))) := by
  obtain ⟨i0, hi, hz0, hz1, hz2⟩ := info_parts info_u8
  have HX := Lib.hid hx
  have HK40 := Lib.hid hk40
  obtain ⟨A, c, rfl⟩ := hx.form
  have hE0 : mE m (L.map (·.2)) = if m < 1 ∨ (L.length : Int) < m ∨ 16 < L.length then 1 else if L.any (fun p => p.2.length != 33) = true then 3 else 0 := by
    unfold mE
    rw [List.length_map, List.any_map]
    rfl
  clear hx hk40
  by_cases a0 : L.length < 1
  · rw [if_pos (by omega)] at hE0
    have d0 : decide ((L.length : Int) < 1) = true := decide_eq_true (by omega)
    have HE := Lib.hid hE0
    clear hE0 a0
    go_enter Try.func40, Try.ntmps40
    go_wp2_with fail
    go_ret2
    exact payMV_no HE.out (by decide) (Below.refl _ _)
  have d0 : decide ((L.length : Int) < 1) = false := decide_eq_false (by omega)
  by_cases a3 : 16 < L.length
  · rw [if_pos (.inr (.inr a3))] at hE0
    have d3 : decide ((16 : Int) < (L.length : Int)) = true := decide_eq_true (by omega)
    have HE := Lib.hid hE0
    clear hE0 a0 a3
    go_enter Try.func40, Try.ntmps40
    go_wp2_with fail
    go_ret2
    exact payMV_no HE.out (by decide) (Below.refl _ _)
  have d3 : decide ((16 : Int) < (L.length : Int)) = false := decide_eq_false (by omega)
  by_cases a1 : m < 1
  · rw [if_pos (.inl a1)] at hE0
    have HE := Lib.hid hE0
    clear hE0 a0
    go_enter Try.func40, Try.ntmps40
    go_wp2_with fail
    go_ret2
    exact payMV_no HE.out (by decide) (Below.refl _ _)
  have d1 : decide (m < 1) = false := decide_eq_false a1
  by_cases a2 : (L.length : Int) < m
  · rw [if_pos (.inr (.inl a2))] at hE0
    have HE := Lib.hid hE0
    clear hE0 a1 a0
    go_enter Try.func40, Try.ntmps40
    go_wp2_with fail
    go_ret2
    exact payMV_no HE.out (by decide) (Below.refl _ _)
  have d2 : decide ((L.length : Int) < m) = false := decide_eq_false a2
  rw [if_neg (by omega)] at hE0
  have m0 : 0 ≤ m := by omega
  have m16 : m ≤ 16 := by omega
  have l16 : (L.length : Int) ≤ 16 := by omega
  have hbm : bv (vcode m) = .int .u8 (80 + m) := bv_vcode (by omega) m16
  have hbn : bv (vcode (L.length : Int)) = .int .u8 (80 + (L.length : Int)) := bv_vcode (by omega) l16
  have HO2 := Lib.hid (own_made w 5 [.int .u8 (80 + m)] [vcode m] (by rw [List.map_cons, hbm]; rfl) (by unfold maxLen; simp))
  have HB2 := Lib.hid ((Below.refl _ w).alloc (Nat.le_refl _) (.cells #[.int .u8 (80 + m)] 5))
  have HE := Lib.hid hE0
  have HBN := Lib.hid hbn
  clear hE0 a0 a1 a2 a3 hbm hbn
  go_enter Try.func40, Try.ntmps40
  go_wp2_with fail
  go_loopw [6, 7] (fun s t wr => ∃ (k : Nat) (v : Value), v = s ∧ k ≤ L.length ∧ t = .int .i64 (k : Int) ∧ Hid ((((L.map (·.2)).take k).any (fun k => k.length != 33)) = false) ∧ Hid (OwnB wr w.heap.size v (vcode m :: flatK ((L.map (·.2)).take k))) ∧ Hid (Below w.heap.size w wr)) (fun _ t _ => L.length - (intOf t).toNat)
  case atStart => exact ⟨0, _, rfl, Nat.zero_le _, rfl, Lib.hid (by simp), HO2, HB2⟩
  case round =>
    obtain ⟨k, v, hv, hk, rfl, hno, hown, hbel⟩ := hrel
    subst hv
    by_cases hlt : k < L.length
    · obtain ⟨⟨A', c', e0, _, _, h4⟩, h5⟩ := HX.out.below (hbel.out.mono hB)
      obtain ⟨e1, e2, e3⟩ := Value.slice.inj e0
      subst e1 e3
      clear e2
      obtain ⟨b, o, rfl, hb, hc⟩ := h4 (by rintro rfl; simp at hlt)
      have hc0 := hc k _ (List.getElem?_eq_getElem hlt)
      have hby := h5 _ (List.getElem_mem hlt)
      have h40 := HK40.out _ (List.getElem_mem hlt)
      have htk : (L.map (·.2)).take (k + 1) = (L.map (·.2)).take k ++ [L[k].2] := by
        rw [List.take_succ_eq_append_getElem (by rw [List.length_map]; exact hlt), List.getElem_map]
      have hany : L.any (fun p => p.2.length != 33) = true ∨ L[k].2.length = 33 := by
        by_cases e : L[k].2.length = 33
        · exact .inr e
        · refine .inl (List.any_eq_true.2 ⟨L[k], List.getElem_mem hlt, by simpa using e⟩)
      have hfl := flatK_len hno.out
      rw [List.length_take, List.length_map, Nat.min_eq_left (by omega)] at hfl
      obtain ⟨⟨pd, ys⟩, hpe⟩ : ∃ p, p = L[k] := ⟨_, rfl⟩
      rw [← hpe] at hc0 hby htk h40 hany
      dsimp only at hc0 hby htk h40 hany
      obtain ⟨Ad, cd, rfl⟩ := hby.form
      have HBY := Lib.hid hby
      have HTK := Lib.hid htk
      have hdk : decide ((k : Int) < (L.length : Int)) = true := decide_eq_true (by omega)
      have hdk2 : decide (k < L.length) = true := decide_eq_true hlt
      have hki : (0 : Int) ≤ (k : Int) := by omega
      have hkl : (k : Int) < (L.length : Int) := by omega
      have hbw : b < wr.heap.size := by have := hbel.out.size; omega
      clear hc h4 h5 e0 hby htk hpe
      by_cases h33 : ys.length = 33
      · have hn : ((ys.length : Int) != 33) = false := by rw [h33]; rfl
        have H33 := Lib.hid h33
        have HFL := Lib.hid hfl
        have hmade : Byt (wr.alloc (.cells #[.int .u8 33] 5)).drew (wr.heap.size + 1) (.slice (some ⟨wr.heap.size, 0, none⟩) 1 1) [33] := (Byt.made wr 5 [.int .u8 33] [33] rfl (by unfold maxLen; simp)).keep (fun _ _ _ => rfl)
        have hod : OwnB (wr.alloc (.cells #[.int .u8 33] 5)).drew w.heap.size v (vcode m :: flatK ((L.map (·.2)).take k)) := (World.ownsRow.alloc hown.out _).drew
        have hbd : Below w.heap.size w (wr.alloc (.cells #[.int .u8 33] 5)).drew := (hbel.out.alloc hbel.out.size _).drew
        have HMADE := Lib.hid hmade
        have HOD := Lib.hid hod
        have HBD := Lib.hid hbd
        clear h33 hfl hany hmade hod hbd
        go_wp2_with fail
        refine wp_region_held_drew (S := (fun w' => w'.cell? ⟨b, o + k, none⟩ = some (.slice Ad ys.length cd))) (by kernel_rfl) ?_ (fun hHeld => ?_)
        · exact hc0
        refine wpAnyH_take (i := 0) (oi := { dst := some 42, op := Go.Op.move (Go.Operand.tmp 6), type := 22, pos := "ref.go:252", after := #[], guard := none }) (v := ?av0) rfl (by kernel_rfl) (by kernel_rfl) (by kernel_rfl) (fun _ _ _ h => h) (Or.inl ⟨by rfl, ?ay0⟩) (by assumption) ?ar0
        case ay0 => (intro w hSw; (try dsimp only at hSw); go_simp; try (with_reducible rfl))
        case ar0 =>
        try simp only [Act.put, List.setIfInBounds_toArray, List.set_cons_zero, List.set_cons_succ]
        refine wpAnyH_take (i := 3) (oi := { dst := some 45, op := Go.Op.move (Go.Operand.tmp 1), type := 46, pos := "ref.go:252", after := #[], guard := none }) (v := ?av3) rfl (by kernel_rfl) (by kernel_rfl) (by kernel_rfl) (fun _ _ _ h => h) (Or.inl ⟨by rfl, ?ay3⟩) (by assumption) ?ar3
        case ay3 => (intro w hSw; (try dsimp only at hSw); go_simp; try (with_reducible rfl))
        case ar3 =>
        try simp only [Act.put, List.setIfInBounds_toArray, List.set_cons_zero, List.set_cons_succ]
        refine wpAnyH_take (i := 4) (oi := { dst := some 46, op := Go.Op.move (Go.Operand.tmp 7), type := 3, pos := "ref.go:252", after := #[], guard := none }) (v := ?av4) rfl (by kernel_rfl) (by kernel_rfl) (by kernel_rfl) (fun _ _ _ h => h) (Or.inl ⟨by rfl, ?ay4⟩) (by assumption) ?ar4
        case ay4 => (intro w hSw; (try dsimp only at hSw); go_simp; try (with_reducible rfl))
        case ar4 =>
        try simp only [Act.put, List.setIfInBounds_toArray, List.set_cons_zero, List.set_cons_succ]
        refine wpAnyH_take (i := 5) (oi := { dst := some 47, op := Go.Op.indexAddr 46 (Go.Operand.tmp 45) (Go.Operand.tmp 46), type := 0, pos := "ref.go:252", after := #[{ on := 3, ground := Go.Ground.data }, { on := 4, ground := Go.Ground.data }], guard := none }) (v := ?av5) rfl (by kernel_rfl) (by kernel_rfl) (by kernel_rfl) (fun _ _ _ h => h) (Or.inl ⟨by rfl, ?ay5⟩) (by assumption) ?ar5
        case ay5 => (intro w hSw; (try dsimp only at hSw); go_simp; try (with_reducible rfl))
        case ar5 =>
        try simp only [Act.put, List.setIfInBounds_toArray, List.set_cons_zero, List.set_cons_succ]
        refine wpAnyH_take (i := 6) (oi := { dst := some 48, op := Go.Op.load 22 (Go.Operand.tmp 47), type := 22, pos := "ref.go:252", after := #[{ on := 5, ground := Go.Ground.data }], guard := none }) (v := ?av6) rfl (by kernel_rfl) (by kernel_rfl) (by kernel_rfl) (fun _ _ _ h => h) (Or.inl ⟨by rfl, ?ay6⟩) (by assumption) ?ar6
        case ay6 => (intro w hSw; (try dsimp only at hSw); go_simp; try (with_reducible rfl))
        case ar6 =>
        try simp only [Act.put, List.setIfInBounds_toArray, List.set_cons_zero, List.set_cons_succ]
        refine wpAnyH_ready (rs := [1]) (by kernel_rfl) (by simp) ?_
        refine AllReadyH.cons (o := { dst := some 43, op := Go.Op.buildSlice 22 1 #[(0, Go.Operand.const (Go.Value.int Go.IntKind.u8 33))], type := 22, pos := "ref.go:252", after := #[], guard := none }) rfl (fun K hK => ?_) (AllReadyH.nil)
        go_simp
        refine hK.out _ _ ?_ (fun hHeld => ?_)
        · exact cell_ad hc0 hbw
        clear hK K
        try simp only [Act.put, List.setIfInBounds_toArray, List.set_cons_zero, List.set_cons_succ]
        refine wpAnyH_ready (rs := [2]) (by kernel_rfl) (by simp) ?_
        refine AllReadyH.cons (o := { dst := some 44, op := Go.Op.call { callee := Go.Callee.builtin Go.Builtin.append, args := #[Go.Operand.tmp 42, Go.Operand.tmp 43], argTypes := #[22, 22] }, type := 22, pos := "ref.go:252", after := #[{ on := 0, ground := Go.Ground.data }, { on := 1, ground := Go.Ground.data }], guard := none }) rfl (fun K hK => ?_) (AllReadyH.nil)
        simp only [Region.wanted, if_true]
        refine op_append_bytes (.tmp 42) (.tmp 43) 22 rfl w.heap.size 5 i0 slice_u8 hi hz0 hz1 hz2 _ _ _ rfl HOD.out _ _ [33] rfl HMADE.out (by have := HFL.out; simp; omega) HBD.out.size ?_
        intro v5 w5 hown5 hg5 hat5
        have ho5 : OwnB w5 w.heap.size v5 ((vcode m :: flatK ((L.map (·.2)).take k)) ++ [33]) := own_b hown5 rfl
        have hb5 : Below w.heap.size w w5 := HBD.out.grown hg5 HBD.out.size (fun j hj => (World.ownsRow.lt HOD.out j hj).1)
        have hq5 : Below w.heap.size wr w5 := ((((Below.refl w.heap.size wr).alloc hbel.out.size (.cells #[.int .u8 33] 5)).drew)).grown hg5 (by have := hbel.out.size; simp; omega) (fun j hj => (World.ownsRow.lt HOD.out j hj).1)
        have hc5 := (hq5.cell (p := ⟨b, o + k, none⟩) (by show b < _; omega)).trans hc0
        have HO5 := Lib.hid ho5
        have HB5 := Lib.hid hb5
        have HY5 := Lib.hid (HBY.out.below (hq5.mono hB))
        clear hown5 hg5 hat5 ho5 hb5
        refine hK.out _ _ ?_ (fun hHeld => ?_)
        · exact hc5
        clear hK K
        try simp only [Act.put, List.setIfInBounds_toArray, List.set_cons_zero, List.set_cons_succ]
        refine wpAnyH_ready (rs := [7]) (by kernel_rfl) (by simp) ?_
        refine AllReadyH.cons (o := { dst := some 49, op := Go.Op.call { callee := Go.Callee.builtin Go.Builtin.append, args := #[Go.Operand.tmp 44, Go.Operand.tmp 48], argTypes := #[22, 22] }, type := 22, pos := "ref.go:252", after := #[{ on := 2, ground := Go.Ground.data }, { on := 6, ground := Go.Ground.data }, { on := 2, ground := Go.Ground.chain }], guard := none }) rfl (fun K hK => ?_) (AllReadyH.nil)
        simp only [Region.wanted, if_true]
        refine op_append_bytes (.tmp 44) (.tmp 48) 22 rfl w.heap.size 5 i0 slice_u8 hi hz0 hz1 hz2 _ _ _ rfl HO5.out _ _ ys rfl HY5.out (by have := HFL.out; have := H33.out; simp; omega) HB5.out.size ?_
        intro v7 w7 hown7 hg7 hat7
        have ho7 : OwnB w7 w.heap.size v7 (((vcode m :: flatK ((L.map (·.2)).take k)) ++ [33]) ++ ys) := own_b hown7 rfl
        have hb7 : Below w.heap.size w w7 := HB5.out.grown hg7 HB5.out.size (fun j hj => (World.ownsRow.lt HO5.out j hj).1)
        have hq7 : Below w.heap.size w5 w7 := (Below.refl w.heap.size w5).grown hg7 HB5.out.size (fun j hj => (World.ownsRow.lt HO5.out j hj).1)
        have hc7 := (hq7.cell (p := ⟨b, o + k, none⟩) (by show b < _; omega)).trans hc5
        have HO7 := Lib.hid ho7
        have HB7 := Lib.hid hb7
        clear hown7 hg7 hat7 ho7 hb7
        refine hK.out _ _ ?_ (fun hHeld => ?_)
        · exact hc7
        clear hK K
        try simp only [Act.put, List.setIfInBounds_toArray, List.set_cons_zero, List.set_cons_succ]
        refine wpAnyH_take (i := 8) (oi := { dst := some 6, op := Go.Op.assign (Go.Operand.tmp 49), type := 22, pos := "ref.go:252", after := #[{ on := 7, ground := Go.Ground.data }, { on := 7, ground := Go.Ground.chain }, { on := 0, ground := Go.Ground.phase }, { on := 1, ground := Go.Ground.phase }, { on := 2, ground := Go.Ground.phase }, { on := 3, ground := Go.Ground.phase }, { on := 4, ground := Go.Ground.phase }, { on := 5, ground := Go.Ground.phase }, { on := 6, ground := Go.Ground.phase }, { on := 7, ground := Go.Ground.phase }], guard := none }) (v := ?a_1_2_7v8) rfl (by kernel_rfl) (by kernel_rfl) (by kernel_rfl) (fun _ _ _ h => h) (Or.inl ⟨by rfl, ?a_1_2_7y8⟩) (by assumption) ?a_1_2_7r8
        case a_1_2_7y8 => (intro w hSw; (try dsimp only at hSw); go_simp; try (with_reducible rfl))
        case a_1_2_7r8 =>
        try simp only [Act.put, List.setIfInBounds_toArray, List.set_cons_zero, List.set_cons_succ]
        refine wpAnyH_done (by kernel_rfl) ?_ _
        clear hHeld
        have hn1 : ((L.map (·.2)).take (k + 1)).any (fun k => k.length != 33) = false := by rw [HTK.out, List.any_append, hno.out]; simp [H33.out]
        have hn2 : OwnB w7 w.heap.size v7 (vcode m :: flatK ((L.map (·.2)).take (k + 1))) := by rw [HTK.out, flatK_snoc]; have := HO7.out; simpa using this
        have HN1 := Lib.hid hn1
        have HN2 := Lib.hid hn2
        clear hn1 hn2
        go_wp2_with fail
        go_roundw
        case rel => exact ⟨k + 1, _, rfl, by omega, by go_num, HN1, HN2, HB7⟩
        case measure => simp [intOf]; omega
      · have hn : ((ys.length : Int) != 33) = true := by simp only [bne_iff_ne, ne_eq]; omega
        have hat : L.any (fun p => p.2.length != 33) = true := by rcases hany with h | h; exact h; exact absurd h h33
        have HAT := Lib.hid hat
        clear h33 hany hat hfl
        go_wp2_with fail
        go_ret2
        exact payMV_no (by rw [HE.out]; exact if_pos HAT.out) (by decide) hbel.out
    · obtain rfl : k = L.length := by omega
      have hno2 := hno.out
      have ho := hown.out
      rw [List.take_of_length_le (by rw [List.length_map]; exact Nat.le_refl _)] at ho hno2
      have hfl := flatK_len hno2
      rw [List.length_map] at hfl
      have hae : L.any (fun p => p.2.length != 33) = false := by rw [List.any_map] at hno2; exact hno2
      have HAE := Lib.hid hae
      have HFL := Lib.hid hfl
      have HO := Lib.hid (World.ownsRow.alloc ho (.cells #[.int .u8 (80 + (L.length : Int)), .int .u8 174] 5))
      have HY := Lib.hid (Byt.made wr 5 [.int .u8 (80 + (L.length : Int)), .int .u8 174] [vcode (L.length : Int), 174] (by rw [List.map_cons, HBN.out]; rfl) (by unfold maxLen; simp))
      have HBB := Lib.hid (hbel.out.alloc hbel.out.size (.cells #[.int .u8 (80 + (L.length : Int)), .int .u8 174] 5))
      have hln : (0 : Int) ≤ (L.length : Int) := by omega
      clear ho hno2 hfl hae hlt
      go_wp2_with (at_builtin; refine wpList_append_bytes rfl (.tmp 50) (.tmp 55) 22 rfl w.heap.size 5 i0 slice_u8 hi hz0 hz1 hz2 _ _ _ rfl HO.out _ _ [vcode (L.length : Int), 174] rfl HY.out (by have := HFL.out; simp; omega) HBB.out.size ?_; intro v5 w5 hown5 hg5 hat5)
      go_ret2
      refine payMV_ok (by rw [HE.out]; exact if_neg (by rw [HAE.out]; decide)) ?_ (HBB.out.grown hg5 HBB.out.size (fun j hj => (World.ownsRow.lt HO.out j hj).1))
      have ho5 : OwnB w5 w.heap.size v5 ((vcode m :: flatK (L.map (·.2))) ++ [vcode (L.length : Int), 174]) := own_b hown5 rfl
      unfold multiForm
      rw [List.length_map]
      simpa using ho5
end Go.Proofs.Ytadgaeokiolmmaa
