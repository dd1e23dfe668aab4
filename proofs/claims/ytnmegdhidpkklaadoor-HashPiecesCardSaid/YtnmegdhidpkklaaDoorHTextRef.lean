/-
  The reference's Digit and Text. Conditions: none.
-/
import Derived.Test.YtnmegdhidpkklaaDoorHText
namespace Go.Proofs.YtnmegdhidpkklaaDoor
open Go.RowKit

theorem digit2_any (v : Nat) (w : World) (hv : v < 16) :
    Calls Tryd.prog 55 #[.int .u8 (v : Int)] w fun e w' => e = .returned (.int .u8 (digN v : Nat)) ∧ w = w' := by
  by_cases h : (v : Int) < 10
  · have hd : (digN v : Int) = 48 + (v : Int) := by unfold digN; rw [if_pos (by omega)]; omega
    rw [hd]
    clear hd
    go_enter Tryd.func55, Tryd.ntmps55
    go_wp2
    go_ret
    exact ⟨rfl, rfl⟩
  · have hd : (digN v : Int) = 97 + (v : Int) - 10 := by unfold digN; rw [if_neg (by omega)]; omega
    rw [hd]
    clear hd
    go_enter Tryd.func55, Tryd.ntmps55
    go_wp2
    go_ret
    exact ⟨rfl, rfl⟩

set_option maxRecDepth 100000 in
set_option maxHeartbeats 1600000 in
theorem refText_any (bs : List UInt8) (W0 : World) (hl : bs.length = 32) :
    Calls Tryd.prog 29 #[.agg ((nums bs).map (Value.int .u8)).toArray] W0 fun e w' => e = .returned (.string ⟨(textB bs).toArray⟩) ∧ Below W0.heap.size W0 w' := by
  obtain ⟨i0, hi, hz0, hz1, hz2⟩ := info_parts info_u8
  have r0 := IRow.new W0 27 .u8 (nums bs)
  have b0 : Below W0.heap.size W0 (W0.alloc (.cells ((nums bs).map (Value.int .u8)).toArray 27)) := (Below.refl _ W0).alloc (Nat.le_refl _) _
  have s0 : (W0.alloc (.cells ((nums bs).map (Value.int .u8)).toArray 27)).heap.size = W0.heap.size + 1 := by simp
  have R0 := Lib.hid r0
  have B0 := Lib.hid b0
  have S0 := Lib.hid (show W0.heap.size + 1 ≤ (W0.alloc (.cells ((nums bs).map (Value.int .u8)).toArray 27)).heap.size by omega)
  clear r0 b0 s0
  go_enter Tryd.func29, Tryd.ntmps29
  go_wp2_with fail
  go_loopw [4, 3] (fun j v wr => ∃ i : Nat, i ≤ 32 ∧ j = .int .i64 ((i : Int) - 1) ∧ wr.ownsRow (W0.heap.size + 1) 5 1 v (textB (bs.drop i)).length ((textB (bs.drop i)).map bv) ∧ IRow wr W0.heap.size 27 .u8 (nums bs) ∧ Below W0.heap.size W0 wr ∧ W0.heap.size + 1 ≤ wr.heap.size) (fun j _ _ => (intOf j + 1).toNat)
  case atStart => exact ⟨32, by omega, rfl, by rw [List.drop_eq_nil_of_le (by omega)]; exact World.ownsRow_nil _ _ _ _, R0.out, B0.out, S0.out⟩
  case round =>
    obtain ⟨i, hi2, rfl, hown, hrow, hbel, hsz⟩ := hrel
    by_cases hlt : 0 < i
    · obtain ⟨k, hk⟩ : ∃ k, i = k + 1 := ⟨i - 1, by omega⟩
      have ek : (i : Int) - 1 = (k : Int) := by omega
      obtain ⟨q, hq⟩ : ∃ q, bs[k]? = some q := ⟨_, List.getElem?_eq_getElem (by omega)⟩
      have hci : wr.cell? ⟨W0.heap.size, k, none⟩ = some (.int .u8 (q.toNat : Int)) := hrow.cell (by unfold nums; rw [List.getElem?_map, hq]; rfl)
      have k32 : (k : Int) < 32 := by omega
      have hsn := textB_more hq
      rw [← hk] at hsn
      obtain ⟨zs, hzs⟩ : ∃ zs, zs = textB (bs.drop i) := ⟨_, rfl⟩
      have hzl : zs.length ≤ 64 := by rw [hzs, textB_length, List.length_drop]; omega
      rw [← hzs] at hown hsn
      have hq256 := q.toNat_lt
      obtain ⟨v, hv⟩ : ∃ v, v = q.toNat / 16 := ⟨_, rfl⟩
      obtain ⟨u, hu⟩ : ∃ u, u = q.toNat % 16 := ⟨_, rfl⟩
      have ev : (q.toNat : Int) / 16 = (v : Int) := by omega
      have eu : (q.toNat : Int) % 16 = (u : Int) := by omega
      have eu2 : (q.toNat : Int).tmod 16 = (u : Int) := by rw [Int.tmod_eq_emod_of_nonneg (by omega)]; exact eu
      have hw1 : IntKind.u8.wrap (v : Int) = (v : Int) := by rw [IntKind.wrap_u8]; omega
      have hw2 : IntKind.u8.wrap (u : Int) = (u : Int) := by rw [IntKind.wrap_u8]; omega
      have I1 := fun W => digit2_any v W (by omega)
      have I2 := fun W => digit2_any u W (by omega)
      have hd1 := digN_lt (v := v) (by omega)
      have hd2 := digN_lt (v := u) (by omega)
      obtain ⟨y1, hy1⟩ : ∃ y1, y1 = digN v := ⟨_, rfl⟩
      obtain ⟨y2, hy2⟩ : ∃ y2, y2 = digN u := ⟨_, rfl⟩
      have hdq : hexL q = [b8 (y1 : Int), b8 (y2 : Int)] := by rw [hy1, hy2, hv, hu]; rfl
      rw [← hy1] at hd1 I1
      rw [← hy2] at hd2 I2
      rw [hdq] at hsn
      have hmade : Byt (wr.alloc (.cells #[.int .u8 (y1 : Int), .int .u8 (y2 : Int)] 5)).drew (wr.heap.size + 1) (.slice (some ⟨wr.heap.size, 0, none⟩) 2 2) [b8 (y1 : Int), b8 (y2 : Int)] :=
        (Byt.made wr _ [_, _] [b8 (y1 : Int), b8 (y2 : Int)] (by rw [List.map_cons, List.map_cons, List.map_nil, bv_b8_of (by omega) (by omega), bv_b8_of (by omega) (by omega)]) (by unfold maxLen; simp)).keep (fun _ _ _ => rfl)
      obtain ⟨As, cs, rfl⟩ := own_form hown
      have HS := Lib.hid hsn
      have HROW := Lib.hid hrow
      have HX1 := Lib.hid I1
      have HX2 := Lib.hid I2
      clear I1 I2
      have hod : (wr.alloc (.cells #[.int .u8 (y1 : Int), .int .u8 (y2 : Int)] 5)).drew.ownsRow (W0.heap.size + 1) 5 1 (.slice As zs.length cs) zs.length (zs.map bv) := (hown.alloc _).drew
      have HOD := Lib.hid hod
      have HBB := Lib.hid hbel
      have HSZ := Lib.hid hsz
      have EK := Lib.hid ek
      rw [ek]
      clear hq hsn hzs hy1 hy2 hdq hod hv hu hk ek hrow hown hbel hsz
      go_wp2_with fail
      refine wp_region_held_drew (S := (fun w' => w'.cell? ⟨W0.heap.size, k, none⟩ = some (.int .u8 (q.toNat : Int)))) (by kernel_rfl) ?_ (fun hHeld => ?_)
      · exact hci
      refine wpAnyH_take (i := 0) (oi := { dst := some 9, op := Go.Op.move (Go.Operand.tmp 3), type := 22, pos := "ref.go:193", after := #[], guard := none }) (v := ?av0) rfl (by kernel_rfl) (by kernel_rfl) (by kernel_rfl) (fun _ _ _ h => h) (Or.inl ⟨by rfl, ?ay0⟩) (by assumption) ?ar0
      case ay0 => (intro w hSw; (try dsimp only at hSw); go_simp; try (with_reducible rfl))
      case ar0 =>
      try simp only [Act.put, List.setIfInBounds_toArray, List.set_cons_zero, List.set_cons_succ]
      refine wpAnyH_take (i := 1) (oi := { dst := some 10, op := Go.Op.move (Go.Operand.tmp 4), type := 3, pos := "ref.go:193", after := #[], guard := none }) (v := ?av1) rfl (by kernel_rfl) (by kernel_rfl) (by kernel_rfl) (fun _ _ _ h => h) (Or.inl ⟨by rfl, ?ay1⟩) (by assumption) ?ar1
      case ay1 => (intro w hSw; (try dsimp only at hSw); go_simp; try (with_reducible rfl))
      case ar1 =>
      try simp only [Act.put, List.setIfInBounds_toArray, List.set_cons_zero, List.set_cons_succ]
      refine wpAnyH_take (i := 2) (oi := { dst := some 11, op := Go.Op.indexAddr 27 (Go.Operand.tmp 1) (Go.Operand.tmp 10), type := 0, pos := "ref.go:193", after := #[{ on := 1, ground := Go.Ground.data }], guard := none }) (v := ?av2) rfl (by kernel_rfl) (by kernel_rfl) (by kernel_rfl) (fun _ _ _ h => h) (Or.inl ⟨by rfl, ?ay2⟩) (by assumption) ?ar2
      case ay2 => (intro w hSw; (try dsimp only at hSw); go_simp; try (with_reducible rfl))
      case ar2 =>
      try simp only [Act.put, List.setIfInBounds_toArray, List.set_cons_zero, List.set_cons_succ]
      refine wpAnyH_take (i := 3) (oi := { dst := some 12, op := Go.Op.load 5 (Go.Operand.tmp 11), type := 5, pos := "ref.go:193", after := #[{ on := 2, ground := Go.Ground.data }], guard := none }) (v := ?av3) rfl (by kernel_rfl) (by kernel_rfl) (by kernel_rfl) (fun _ _ _ h => h) (Or.inl ⟨by rfl, ?ay3⟩) (by assumption) ?ar3
      case ay3 => (intro w hSw; (try dsimp only at hSw); go_simp; try (with_reducible rfl))
      case ar3 =>
      try simp only [Act.put, List.setIfInBounds_toArray, List.set_cons_zero, List.set_cons_succ]
      refine wpAnyH_take (i := 4) (oi := { dst := some 13, op := Go.Op.binOp Go.BinOp.quo 5 (Go.Operand.tmp 12) (Go.Operand.const (Go.Value.int Go.IntKind.u8 16)) 5, type := 5, pos := "ref.go:193", after := #[{ on := 3, ground := Go.Ground.data }], guard := none }) (v := ?av4) rfl (by kernel_rfl) (by kernel_rfl) (by kernel_rfl) (fun _ _ _ h => h) (Or.inl ⟨by rfl, ?ay4⟩) (by assumption) ?ar4
      case ay4 => (intro w hSw; (try dsimp only at hSw); go_simp; try (with_reducible rfl))
      case ar4 =>
      try simp only [Act.put, List.setIfInBounds_toArray, List.set_cons_zero, List.set_cons_succ]
      refine wpAnyH_take (i := 6) (oi := { dst := some 15, op := Go.Op.move (Go.Operand.tmp 4), type := 3, pos := "ref.go:193", after := #[], guard := none }) (v := ?av6) rfl (by kernel_rfl) (by kernel_rfl) (by kernel_rfl) (fun _ _ _ h => h) (Or.inl ⟨by rfl, ?ay6⟩) (by assumption) ?ar6
      case ay6 => (intro w hSw; (try dsimp only at hSw); go_simp; try (with_reducible rfl))
      case ar6 =>
      try simp only [Act.put, List.setIfInBounds_toArray, List.set_cons_zero, List.set_cons_succ]
      refine wpAnyH_take (i := 7) (oi := { dst := some 16, op := Go.Op.indexAddr 27 (Go.Operand.tmp 1) (Go.Operand.tmp 15), type := 0, pos := "ref.go:193", after := #[{ on := 6, ground := Go.Ground.data }], guard := none }) (v := ?av7) rfl (by kernel_rfl) (by kernel_rfl) (by kernel_rfl) (fun _ _ _ h => h) (Or.inl ⟨by rfl, ?ay7⟩) (by assumption) ?ar7
      case ay7 => (intro w hSw; (try dsimp only at hSw); go_simp; try (with_reducible rfl))
      case ar7 =>
      try simp only [Act.put, List.setIfInBounds_toArray, List.set_cons_zero, List.set_cons_succ]
      refine wpAnyH_take (i := 8) (oi := { dst := some 17, op := Go.Op.load 5 (Go.Operand.tmp 16), type := 5, pos := "ref.go:193", after := #[{ on := 7, ground := Go.Ground.data }], guard := none }) (v := ?av8) rfl (by kernel_rfl) (by kernel_rfl) (by kernel_rfl) (fun _ _ _ h => h) (Or.inl ⟨by rfl, ?ay8⟩) (by assumption) ?ar8
      case ay8 => (intro w hSw; (try dsimp only at hSw); go_simp; try (with_reducible rfl))
      case ar8 =>
      try simp only [Act.put, List.setIfInBounds_toArray, List.set_cons_zero, List.set_cons_succ]
      refine wpAnyH_take (i := 9) (oi := { dst := some 18, op := Go.Op.binOp Go.BinOp.rem 5 (Go.Operand.tmp 17) (Go.Operand.const (Go.Value.int Go.IntKind.u8 16)) 5, type := 5, pos := "ref.go:193", after := #[{ on := 8, ground := Go.Ground.data }], guard := none }) (v := ?av9) rfl (by kernel_rfl) (by kernel_rfl) (by kernel_rfl) (fun _ _ _ h => h) (Or.inl ⟨by rfl, ?ay9⟩) (by assumption) ?ar9
      case ay9 => (intro w hSw; (try dsimp only at hSw); go_simp; try (with_reducible rfl))
      case ar9 =>
      try simp only [Act.put, List.setIfInBounds_toArray, List.set_cons_zero, List.set_cons_succ]
      refine wpAnyH_ready (rs := [5]) (by kernel_rfl) (by simp) ?_
      refine AllReadyH.cons (o := { dst := some 14, op := Go.Op.call { callee := Go.Callee.value (Go.Operand.func 55), args := #[Go.Operand.tmp 13], argTypes := #[5] }, type := 5, pos := "ref.go:193", after := #[{ on := 4, ground := Go.Ground.data }], guard := none }) rfl (fun K hK => ?_) AllReadyH.nil
      go_simp
      refine (HX1.out _).mono ?_
      rintro e w4 ⟨rfl, rfl⟩
      go_simp
      refine hK.out _ _ ?_ (fun hHeld => ?_)
      · exact hHeld
      clear hK K
      try simp only [Act.put, List.setIfInBounds_toArray, List.set_cons_zero, List.set_cons_succ]
      refine wpAnyH_ready (rs := [10]) (by kernel_rfl) (by simp) ?_
      refine AllReadyH.cons (o := { dst := some 19, op := Go.Op.call { callee := Go.Callee.value (Go.Operand.func 55), args := #[Go.Operand.tmp 18], argTypes := #[5] }, type := 5, pos := "ref.go:193", after := #[{ on := 9, ground := Go.Ground.data }, { on := 5, ground := Go.Ground.chain }], guard := none }) rfl (fun K hK => ?_) AllReadyH.nil
      go_simp
      refine (HX2.out _).mono ?_
      rintro e w4 ⟨rfl, rfl⟩
      go_simp
      refine hK.out _ _ ?_ (fun hHeld => ?_)
      · exact hHeld
      clear hK K
      try simp only [Act.put, List.setIfInBounds_toArray, List.set_cons_zero, List.set_cons_succ]
      refine wpAnyH_ready (rs := [11]) (by kernel_rfl) (by simp) ?_
      refine AllReadyH.cons (o := { dst := some 20, op := Go.Op.buildSlice 22 2 #[(0, Go.Operand.tmp 14), (1, Go.Operand.tmp 19)], type := 22, pos := "ref.go:193", after := #[{ on := 5, ground := Go.Ground.data }, { on := 10, ground := Go.Ground.data }], guard := none }) rfl (fun K hK => ?_) AllReadyH.nil
      go_simp
      refine hK.out _ _ ?_ (fun hHeld => ?_)
      · exact (World.cell?_alloc_lt wr _ _ (by show W0.heap.size < _; have := HSZ.out; omega)).trans hci
      clear hK K
      try simp only [Act.put, List.setIfInBounds_toArray, List.set_cons_zero, List.set_cons_succ]
      refine wpAnyH_ready (rs := [12]) (by kernel_rfl) (by simp) ?_
      refine AllReadyH.cons (o := { dst := some 21, op := Go.Op.call { callee := Go.Callee.builtin Go.Builtin.append, args := #[Go.Operand.tmp 9, Go.Operand.tmp 20], argTypes := #[22, 22] }, type := 22, pos := "ref.go:193", after := #[{ on := 0, ground := Go.Ground.data }, { on := 11, ground := Go.Ground.data }, { on := 10, ground := Go.Ground.chain }], guard := none }) rfl (fun K hK => ?_) AllReadyH.nil
      simp only [Region.wanted, if_true]
      refine op_append_bytes (.tmp 9) (.tmp 20) 22 rfl (W0.heap.size + 1) 5 i0 slice_u8 hi hz0 hz1 hz2 _ zs.length (zs.map bv) rfl HOD.out (wr.heap.size + 1) _ [b8 (y1 : Int), b8 (y2 : Int)] rfl hmade (by simp; omega) (by have := HSZ.out; simp; omega) ?_
      intro v1 w1 hown1 hg1 hat1
      have hbR : Below (W0.heap.size + 1) wr w1 := ((((Below.refl (W0.heap.size + 1) wr).alloc HSZ.out _).drew)).grown hg1 (by have := HSZ.out; simp; omega) (fun j hj => (HOD.out.lt j hj).1)
      have hcw1 : w1.cell? ⟨W0.heap.size, k, none⟩ = some (.int .u8 (q.toNat : Int)) := (hbR.cell (p := ⟨W0.heap.size, _, none⟩) (by show W0.heap.size < _; omega)).trans hci
      have HH := Lib.hid hown1
      have HBR := Lib.hid hbR
      clear hown1 hg1 hat1 hbR
      refine hK.out _ _ ?_ (fun hHeld => ?_)
      · exact hcw1
      clear hK K
      try simp only [Act.put, List.setIfInBounds_toArray, List.set_cons_zero, List.set_cons_succ]
      refine wpAnyH_take (i := 13) (oi := { dst := some 3, op := Go.Op.assign (Go.Operand.tmp 21), type := 22, pos := "ref.go:193", after := #[{ on := 12, ground := Go.Ground.data }, { on := 12, ground := Go.Ground.chain }, { on := 0, ground := Go.Ground.phase }, { on := 1, ground := Go.Ground.phase }, { on := 2, ground := Go.Ground.phase }, { on := 3, ground := Go.Ground.phase }, { on := 4, ground := Go.Ground.phase }, { on := 5, ground := Go.Ground.phase }, { on := 6, ground := Go.Ground.phase }, { on := 7, ground := Go.Ground.phase }, { on := 8, ground := Go.Ground.phase }, { on := 9, ground := Go.Ground.phase }, { on := 10, ground := Go.Ground.phase }, { on := 11, ground := Go.Ground.phase }, { on := 12, ground := Go.Ground.phase }], guard := none }) (v := ?av13) rfl (by kernel_rfl) (by kernel_rfl) (by kernel_rfl) (fun _ _ _ h => h) (Or.inl ⟨by rfl, ?ay13⟩) (by assumption) ?ar13
      case ay13 => (intro w hSw; (try dsimp only at hSw); go_simp; try (with_reducible rfl))
      case ar13 =>
      try simp only [Act.put, List.setIfInBounds_toArray, List.set_cons_zero, List.set_cons_succ]
      refine wpAnyH_done (by kernel_rfl) ?_ _
      go_wp2
      refine ⟨⟨k, by omega, by have := EK.out; go_num, ?_, HROW.out.below HBR.out (Nat.lt_succ_self _), HBB.out.trans (HBR.out.mono (Nat.le_succ _)), by have := HBR.out.size; have := HSZ.out; omega⟩, by have := EK.out; simp [intOf]⟩
      rw [HS.out, List.length_append, List.map_append]
      exact HH.out
    · obtain rfl : i = 0 := by omega
      rw [List.drop_zero] at hown
      have hby := Byt.of_own hown
      obtain ⟨As, cs, rfl⟩ := own_form hown
      have hrs := run_string_of (P := Tryd.prog) wr 22 9 5 slice_u8 Tryd.underlying5 Tryd.underlying9 _ _ (textB bs) hby
      have e0 : ((0 : Nat) : Int) - 1 = -1 := rfl
      rw [e0]
      clear hown hby e0
      go_wp2
      go_ret
      exact ⟨rfl, hbel⟩
end Go.Proofs.YtnmegdhidpkklaaDoor
