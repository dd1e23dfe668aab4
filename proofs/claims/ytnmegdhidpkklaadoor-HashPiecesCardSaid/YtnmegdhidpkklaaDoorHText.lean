/-
  hash.Text: two digits for each byte, from the last. Conditions: none.
-/
import Derived.Test.YtnmegdhidpkklaaDoorTook
namespace Go.Proofs.YtnmegdhidpkklaaDoor
open Go.RowKit

def digN (v : Nat) : Nat := if v < 10 then 48 + v else 87 + v
theorem digN_lt {v : Nat} (h : v < 16) : digN v < 128 := by unfold digN; split <;> omega
def hexL (q : UInt8) : List UInt8 := [b8 (digN (q.toNat / 16) : Nat), b8 (digN (q.toNat % 16) : Nat)]
def textB (bs : List UInt8) : List UInt8 := bs.reverse.flatMap hexL
theorem textB_length (bs : List UInt8) : (textB bs).length = 2 * bs.length := by
  induction bs with
  | nil => rfl
  | cons c bs ih => unfold textB at ih ⊢; rw [List.reverse_cons, List.flatMap_append, List.length_append, ih, List.length_cons]; simp [hexL]; omega
theorem textB_more {bs : List UInt8} {i : Nat} {q : UInt8} (h : bs[i]? = some q) : textB (bs.drop i) = textB (bs.drop (i + 1)) ++ hexL q := by
  obtain ⟨hlt, rfl⟩ := List.getElem?_eq_some_iff.1 h
  unfold textB
  rw [List.drop_eq_getElem_cons hlt, List.reverse_cons, List.flatMap_append]
  simp
theorem dig_at : ∀ (v : Nat), v < 16 → ∀ w, (Instr.index 9 (.string ⟨#[48, 49, 50, 51, 52, 53, 54, 55, 56, 57, 97, 98, 99, 100, 101, 102]⟩) (.int .u8 (v : Int))).run Tryd.prog w = .ok (.int .u8 (digN v : Nat)) w
  | 0, _ => fun w => by kernel_rfl
  | 1, _ => fun w => by kernel_rfl
  | 2, _ => fun w => by kernel_rfl
  | 3, _ => fun w => by kernel_rfl
  | 4, _ => fun w => by kernel_rfl
  | 5, _ => fun w => by kernel_rfl
  | 6, _ => fun w => by kernel_rfl
  | 7, _ => fun w => by kernel_rfl
  | 8, _ => fun w => by kernel_rfl
  | 9, _ => fun w => by kernel_rfl
  | 10, _ => fun w => by kernel_rfl
  | 11, _ => fun w => by kernel_rfl
  | 12, _ => fun w => by kernel_rfl
  | 13, _ => fun w => by kernel_rfl
  | 14, _ => fun w => by kernel_rfl
  | 15, _ => fun w => by kernel_rfl
  | v + 16, h => absurd h (by omega)

set_option maxRecDepth 100000 in
set_option maxHeartbeats 1600000 in
theorem htext_any (bs : List UInt8) (W0 : World) (hl : bs.length = 32) :
    Calls Tryd.prog 27 #[.agg ((nums bs).map (Value.int .u8)).toArray] W0 fun e w' => e = .returned (.string ⟨(textB bs).toArray⟩) ∧ Below W0.heap.size W0 w' := by
  obtain ⟨i0, hi, hz0, hz1, hz2⟩ := info_parts info_u8
  have r0 := IRow.new W0 28 .u8 (nums bs)
  have b0 : Below W0.heap.size W0 (W0.alloc (.cells ((nums bs).map (Value.int .u8)).toArray 28)) := (Below.refl _ W0).alloc (Nat.le_refl _) _
  have s0 : (W0.alloc (.cells ((nums bs).map (Value.int .u8)).toArray 28)).heap.size = W0.heap.size + 1 := by simp
  obtain ⟨w1, hw1⟩ : ∃ x, x = (W0.alloc (.cells ((nums bs).map (Value.int .u8)).toArray 28)) := ⟨_, rfl⟩
  rw [← hw1] at r0 b0 s0
  obtain ⟨w0, hmk, hown0, hg0⟩ := run_make_own (P := Tryd.prog) w1 (W0.heap.size + 1) 22 5 i0 (.int .u8 0) 1 slice_u8 hi hz0 hz1 .i64 .i64 64 (by rw [hz2]; omega) (by unfold maxLen; omega) (by omega)
  have e64 : ((64 : Nat) : Int) = 64 := rfl
  rw [e64] at hmk
  clear e64
  have hb1 : Below (W0.heap.size + 1) w1 w0 := (Below.refl _ _).grown hg0 (by omega) (fun k hk => by cases hk)
  have R0 := Lib.hid (r0.below hb1 (Nat.lt_succ_self _))
  have B0 := Lib.hid (b0.trans (hb1.mono (Nat.le_succ _)))
  have S0 := Lib.hid (show W0.heap.size + 1 ≤ w0.heap.size by have := hb1.size; omega)
  rw [s0] at hmk hown0
  rw [hw1] at hmk
  clear r0 b0 s0 hg0 hb1 hw1
  go_enter Tryd.func27, Tryd.ntmps27
  go_wp2_with fail
  clear hmk
  go_loopw [4, 3] (fun j v wr => ∃ i : Nat, i ≤ 32 ∧ j = .int .i64 ((i : Int) - 1) ∧ wr.ownsRow (W0.heap.size + 1) 5 1 v (textB (bs.drop i)).length ((textB (bs.drop i)).map bv) ∧ IRow wr W0.heap.size 28 .u8 (nums bs) ∧ Below W0.heap.size W0 wr ∧ W0.heap.size + 1 ≤ wr.heap.size) (fun j _ _ => (intOf j + 1).toNat)
  case atStart => exact ⟨32, by omega, rfl, by rw [List.drop_eq_nil_of_le (by omega)]; exact hown0, R0.out, B0.out, S0.out⟩
  case round =>
    obtain ⟨i, hi2, rfl, hown, hrow, hbel, hsz⟩ := hrel
    by_cases hlt : 0 < i
    · obtain ⟨k, hk⟩ : ∃ k, i = k + 1 := ⟨i - 1, by omega⟩
      have ek : (i : Int) - 1 = (k : Int) := by omega
      obtain ⟨q, hq⟩ : ∃ q, bs[k]? = some q := ⟨_, List.getElem?_eq_getElem (by omega)⟩
      have hci : wr.cell? ⟨W0.heap.size, k, none⟩ = some (.int .u8 (q.toNat : Int)) := hrow.cell (by unfold nums; rw [List.getElem?_map, hq]; rfl)
      have k32 : (k : Int) < 32 := by omega
      have hsn := textB_more hq
      rw [← hk] at hsn
      obtain ⟨zs, hzs⟩ : ∃ zs, zs = textB (bs.drop i) := ⟨_, rfl⟩
      have hzl : zs.length ≤ 64 := by rw [hzs, textB_length, List.length_drop]; omega
      rw [← hzs] at hown hsn
      have hq256 := q.toNat_lt
      obtain ⟨v, hv⟩ : ∃ v, v = q.toNat / 16 := ⟨_, rfl⟩
      obtain ⟨u, hu⟩ : ∃ u, u = q.toNat % 16 := ⟨_, rfl⟩
      have ev : (q.toNat : Int) / 16 = (v : Int) := by omega
      have eu : (q.toNat : Int) % 16 = (u : Int) := by omega
      have eu2 : (q.toNat : Int).tmod 16 = (u : Int) := by rw [Int.tmod_eq_emod_of_nonneg (by omega)]; exact eu
      have eu3 : bits .and .u8 (q.toNat : Int) 15 = (u : Int) := by
        have h := bits_mask .u8 8 (by decide) (fun n h0 h1 => by rw [IntKind.wrap_u8]; omega) 4 (by decide) (q.toNat : Int) (by omega) (by omega)
        have e1 : ((2 : Int) ^ 4 - 1) = 15 := by decide
        rw [e1] at h
        rw [h, ← eu]
        rfl
      have I1 := dig_at v (by omega)
      have I2 := dig_at u (by omega)
      have hd1 := digN_lt (v := v) (by omega)
      have hd2 := digN_lt (v := u) (by omega)
      obtain ⟨y1, hy1⟩ : ∃ y1, y1 = digN v := ⟨_, rfl⟩
      obtain ⟨y2, hy2⟩ : ∃ y2, y2 = digN u := ⟨_, rfl⟩
      have hdq : hexL q = [b8 (y1 : Int), b8 (y2 : Int)] := by rw [hy1, hy2, hv, hu]; rfl
      rw [← hy1] at hd1 I1
      rw [← hy2] at hd2 I2
      rw [hdq] at hsn
      have hmade : Byt (wr.alloc (.cells #[.int .u8 (y1 : Int), .int .u8 (y2 : Int)] 5)).drew (wr.heap.size + 1) (.slice (some ⟨wr.heap.size, 0, none⟩) 2 2) [b8 (y1 : Int), b8 (y2 : Int)] :=
        (Byt.made wr _ [_, _] [b8 (y1 : Int), b8 (y2 : Int)] (by rw [List.map_cons, List.map_cons, List.map_nil, bv_b8_of (by omega) (by omega), bv_b8_of (by omega) (by omega)]) (by unfold maxLen; simp)).keep (fun _ _ _ => rfl)
      obtain ⟨As, cs, rfl⟩ := own_form hown
      have HS := Lib.hid hsn
      have HROW := Lib.hid hrow
      have hod : (wr.alloc (.cells #[.int .u8 (y1 : Int), .int .u8 (y2 : Int)] 5)).drew.ownsRow (W0.heap.size + 1) 5 1 (.slice As zs.length cs) zs.length (zs.map bv) := (hown.alloc _).drew
      have HOD := Lib.hid hod
      have HBB := Lib.hid hbel
      have HSZ := Lib.hid hsz
      have EK := Lib.hid ek
      rw [ek]
      clear hq hsn hzs hy1 hy2 hdq hod hv hu hk ek hrow hown hbel hsz
      go_wp2_with fail
      refine wp_region_held_drew (S := (fun w' => w'.cell? ⟨W0.heap.size, k, none⟩ = some (.int .u8 (q.toNat : Int)))) (by kernel_rfl) ?_ (fun hHeld => ?_)
      · exact hci
      refine wpAnyH_take (i := 0) (oi := { dst := some 10, op := Go.Op.move (Go.Operand.tmp 3), type := 22, pos := "text.go:15", after := #[], guard := none }) (v := ?av0) rfl (by kernel_rfl) (by kernel_rfl) (by kernel_rfl) (fun _ _ _ h => h) (Or.inl ⟨by rfl, ?ay0⟩) (by assumption) ?ar0
      case ay0 => (intro w hSw; (try dsimp only at hSw); go_simp; try (with_reducible rfl))
      case ar0 =>
      try simp only [Act.put, List.setIfInBounds_toArray, List.set_cons_zero, List.set_cons_succ]
      refine wpAnyH_take (i := 1) (oi := { dst := some 11, op := Go.Op.move (Go.Operand.tmp 4), type := 3, pos := "text.go:15", after := #[], guard := none }) (v := ?av1) rfl (by kernel_rfl) (by kernel_rfl) (by kernel_rfl) (fun _ _ _ h => h) (Or.inl ⟨by rfl, ?ay1⟩) (by assumption) ?ar1
      case ay1 => (intro w hSw; (try dsimp only at hSw); go_simp; try (with_reducible rfl))
      case ar1 =>
      try simp only [Act.put, List.setIfInBounds_toArray, List.set_cons_zero, List.set_cons_succ]
      refine wpAnyH_take (i := 2) (oi := { dst := some 12, op := Go.Op.indexAddr 28 (Go.Operand.tmp 1) (Go.Operand.tmp 11), type := 0, pos := "text.go:15", after := #[{ on := 1, ground := Go.Ground.data }], guard := none }) (v := ?av2) rfl (by kernel_rfl) (by kernel_rfl) (by kernel_rfl) (fun _ _ _ h => h) (Or.inl ⟨by rfl, ?ay2⟩) (by assumption) ?ar2
      case ay2 => (intro w hSw; (try dsimp only at hSw); go_simp; try (with_reducible rfl))
      case ar2 =>
      try simp only [Act.put, List.setIfInBounds_toArray, List.set_cons_zero, List.set_cons_succ]
      refine wpAnyH_take (i := 3) (oi := { dst := some 13, op := Go.Op.load 5 (Go.Operand.tmp 12), type := 5, pos := "text.go:15", after := #[{ on := 2, ground := Go.Ground.data }], guard := none }) (v := ?av3) rfl (by kernel_rfl) (by kernel_rfl) (by kernel_rfl) (fun _ _ _ h => h) (Or.inl ⟨by rfl, ?ay3⟩) (by assumption) ?ar3
      case ay3 => (intro w hSw; (try dsimp only at hSw); go_simp; try (with_reducible rfl))
      case ar3 =>
      try simp only [Act.put, List.setIfInBounds_toArray, List.set_cons_zero, List.set_cons_succ]
      refine wpAnyH_take (i := 4) (oi := { dst := some 14, op := Go.Op.binOp Go.BinOp.shr 5 (Go.Operand.tmp 13) (Go.Operand.const (Go.Value.int Go.IntKind.u64 4)) 73, type := 5, pos := "text.go:15", after := #[{ on := 3, ground := Go.Ground.data }], guard := none }) (v := ?av4) rfl (by kernel_rfl) (by kernel_rfl) (by kernel_rfl) (fun _ _ _ h => h) (Or.inl ⟨by rfl, ?ay4⟩) (by assumption) ?ar4
      case ay4 => (intro w hSw; (try dsimp only at hSw); go_simp; try (with_reducible rfl))
      case ar4 =>
      try simp only [Act.put, List.setIfInBounds_toArray, List.set_cons_zero, List.set_cons_succ]
      refine wpAnyH_take (i := 5) (oi := { dst := some 15, op := Go.Op.index 9 (Go.Operand.const (Go.Value.string { data := #[48, 49, 50, 51, 52, 53, 54, 55, 56, 57, 97, 98, 99, 100, 101, 102] })) (Go.Operand.tmp 14), type := 5, pos := "text.go:15", after := #[{ on := 4, ground := Go.Ground.data }], guard := none }) (v := ?av5) rfl (by kernel_rfl) (by kernel_rfl) (by kernel_rfl) (fun _ _ _ h => h) (Or.inl ⟨by rfl, ?ay5⟩) (by assumption) ?ar5
      case ay5 => (intro w hSw; (try dsimp only at hSw); go_simp; try (with_reducible rfl))
      case ar5 =>
      try simp only [Act.put, List.setIfInBounds_toArray, List.set_cons_zero, List.set_cons_succ]
      refine wpAnyH_take (i := 6) (oi := { dst := some 16, op := Go.Op.move (Go.Operand.tmp 4), type := 3, pos := "text.go:15", after := #[], guard := none }) (v := ?av6) rfl (by kernel_rfl) (by kernel_rfl) (by kernel_rfl) (fun _ _ _ h => h) (Or.inl ⟨by rfl, ?ay6⟩) (by assumption) ?ar6
      case ay6 => (intro w hSw; (try dsimp only at hSw); go_simp; try (with_reducible rfl))
      case ar6 =>
      try simp only [Act.put, List.setIfInBounds_toArray, List.set_cons_zero, List.set_cons_succ]
      refine wpAnyH_take (i := 7) (oi := { dst := some 17, op := Go.Op.indexAddr 28 (Go.Operand.tmp 1) (Go.Operand.tmp 16), type := 0, pos := "text.go:15", after := #[{ on := 6, ground := Go.Ground.data }], guard := none }) (v := ?av7) rfl (by kernel_rfl) (by kernel_rfl) (by kernel_rfl) (fun _ _ _ h => h) (Or.inl ⟨by rfl, ?ay7⟩) (by assumption) ?ar7
      case ay7 => (intro w hSw; (try dsimp only at hSw); go_simp; try (with_reducible rfl))
      case ar7 =>
      try simp only [Act.put, List.setIfInBounds_toArray, List.set_cons_zero, List.set_cons_succ]
      refine wpAnyH_take (i := 8) (oi := { dst := some 18, op := Go.Op.load 5 (Go.Operand.tmp 17), type := 5, pos := "text.go:15", after := #[{ on := 7, ground := Go.Ground.data }], guard := none }) (v := ?av8) rfl (by kernel_rfl) (by kernel_rfl) (by kernel_rfl) (fun _ _ _ h => h) (Or.inl ⟨by rfl, ?ay8⟩) (by assumption) ?ar8
      case ay8 => (intro w hSw; (try dsimp only at hSw); go_simp; try (with_reducible rfl))
      case ar8 =>
      try simp only [Act.put, List.setIfInBounds_toArray, List.set_cons_zero, List.set_cons_succ]
      refine wpAnyH_take (i := 9) (oi := { dst := some 19, op := Go.Op.binOp Go.BinOp.and 5 (Go.Operand.tmp 18) (Go.Operand.const (Go.Value.int Go.IntKind.u8 15)) 5, type := 5, pos := "text.go:15", after := #[{ on := 8, ground := Go.Ground.data }], guard := none }) (v := ?av9) rfl (by kernel_rfl) (by kernel_rfl) (by kernel_rfl) (fun _ _ _ h => h) (Or.inl ⟨by rfl, ?ay9⟩) (by assumption) ?ar9
      case ay9 => (intro w hSw; (try dsimp only at hSw); go_simp; try (with_reducible rfl))
      case ar9 =>
      try simp only [Act.put, List.setIfInBounds_toArray, List.set_cons_zero, List.set_cons_succ]
      refine wpAnyH_take (i := 10) (oi := { dst := some 20, op := Go.Op.index 9 (Go.Operand.const (Go.Value.string { data := #[48, 49, 50, 51, 52, 53, 54, 55, 56, 57, 97, 98, 99, 100, 101, 102] })) (Go.Operand.tmp 19), type := 5, pos := "text.go:15", after := #[{ on := 9, ground := Go.Ground.data }], guard := none }) (v := ?av10) rfl (by kernel_rfl) (by kernel_rfl) (by kernel_rfl) (fun _ _ _ h => h) (Or.inl ⟨by rfl, ?ay10⟩) (by assumption) ?ar10
      case ay10 => (intro w hSw; (try dsimp only at hSw); go_simp; try (with_reducible rfl))
      case ar10 =>
      try simp only [Act.put, List.setIfInBounds_toArray, List.set_cons_zero, List.set_cons_succ]
      refine wpAnyH_ready (rs := [11]) (by kernel_rfl) (by simp) ?_
      refine AllReadyH.cons (o := { dst := some 21, op := Go.Op.buildSlice 22 2 #[(0, Go.Operand.tmp 15), (1, Go.Operand.tmp 20)], type := 22, pos := "text.go:15", after := #[{ on := 5, ground := Go.Ground.data }, { on := 10, ground := Go.Ground.data }], guard := none }) rfl (fun K hK => ?_) AllReadyH.nil
      go_simp
      refine hK.out _ _ ?_ (fun hHeld => ?_)
      · exact (World.cell?_alloc_lt wr _ _ (by show W0.heap.size < _; have := HSZ.out; omega)).trans hci
      clear hK K
      try simp only [Act.put, List.setIfInBounds_toArray, List.set_cons_zero, List.set_cons_succ]
      refine wpAnyH_ready (rs := [12]) (by kernel_rfl) (by simp) ?_
      refine AllReadyH.cons (o := { dst := some 22, op := Go.Op.call { callee := Go.Callee.builtin Go.Builtin.append, args := #[Go.Operand.tmp 10, Go.Operand.tmp 21], argTypes := #[22, 22] }, type := 22, pos := "text.go:15", after := #[{ on := 0, ground := Go.Ground.data }, { on := 11, ground := Go.Ground.data }], guard := none }) rfl (fun K hK => ?_) AllReadyH.nil
      simp only [Region.wanted, if_true]
      refine op_append_bytes (.tmp 10) (.tmp 21) 22 rfl (W0.heap.size + 1) 5 i0 slice_u8 hi hz0 hz1 hz2 _ zs.length (zs.map bv) rfl HOD.out (wr.heap.size + 1) _ [b8 (y1 : Int), b8 (y2 : Int)] rfl hmade (by simp; omega) (by have := HSZ.out; simp; omega) ?_
      intro v1 w1 hown1 hg1 hat1
      have hbR : Below (W0.heap.size + 1) wr w1 := ((((Below.refl (W0.heap.size + 1) wr).alloc HSZ.out _).drew)).grown hg1 (by have := HSZ.out; simp; omega) (fun j hj => (HOD.out.lt j hj).1)
      have hcw1 : w1.cell? ⟨W0.heap.size, k, none⟩ = some (.int .u8 (q.toNat : Int)) := (hbR.cell (p := ⟨W0.heap.size, _, none⟩) (by show W0.heap.size < _; omega)).trans hci
      have HH := Lib.hid hown1
      have HBR := Lib.hid hbR
      clear hown1 hg1 hat1 hbR
      refine hK.out _ _ ?_ (fun hHeld => ?_)
      · exact hcw1
      clear hK K
      try simp only [Act.put, List.setIfInBounds_toArray, List.set_cons_zero, List.set_cons_succ]
      refine wpAnyH_take (i := 13) (oi := { dst := some 3, op := Go.Op.assign (Go.Operand.tmp 22), type := 22, pos := "text.go:15", after := #[{ on := 12, ground := Go.Ground.data }, { on := 12, ground := Go.Ground.chain }, { on := 0, ground := Go.Ground.phase }, { on := 1, ground := Go.Ground.phase }, { on := 2, ground := Go.Ground.phase }, { on := 3, ground := Go.Ground.phase }, { on := 4, ground := Go.Ground.phase }, { on := 5, ground := Go.Ground.phase }, { on := 6, ground := Go.Ground.phase }, { on := 7, ground := Go.Ground.phase }, { on := 8, ground := Go.Ground.phase }, { on := 9, ground := Go.Ground.phase }, { on := 10, ground := Go.Ground.phase }, { on := 11, ground := Go.Ground.phase }, { on := 12, ground := Go.Ground.phase }], guard := none }) (v := ?av13) rfl (by kernel_rfl) (by kernel_rfl) (by kernel_rfl) (fun _ _ _ h => h) (Or.inl ⟨by rfl, ?ay13⟩) (by assumption) ?ar13
      case ay13 => (intro w hSw; (try dsimp only at hSw); go_simp; try (with_reducible rfl))
      case ar13 =>
      try simp only [Act.put, List.setIfInBounds_toArray, List.set_cons_zero, List.set_cons_succ]
      refine wpAnyH_done (by kernel_rfl) ?_ _
      go_wp2
      refine ⟨⟨k, by omega, by have := EK.out; go_num, ?_, HROW.out.below HBR.out (Nat.lt_succ_self _), HBB.out.trans (HBR.out.mono (Nat.le_succ _)), by have := HBR.out.size; have := HSZ.out; omega⟩, by have := EK.out; simp [intOf]⟩
      rw [HS.out, List.length_append, List.map_append]
      exact HH.out
    · obtain rfl : i = 0 := by omega
      rw [List.drop_zero] at hown
      have hby := Byt.of_own hown
      obtain ⟨As, cs, rfl⟩ := own_form hown
      have hrs := run_string_of (P := Tryd.prog) wr 22 9 5 slice_u8 Tryd.underlying5 Tryd.underlying9 _ _ (textB bs) hby
      have e0 : ((0 : Nat) : Int) - 1 = -1 := rfl
      rw [e0]
      clear hown hby e0
      go_wp2
      go_ret
      exact ⟨rfl, hbel⟩
end Go.Proofs.YtnmegdhidpkklaaDoor
