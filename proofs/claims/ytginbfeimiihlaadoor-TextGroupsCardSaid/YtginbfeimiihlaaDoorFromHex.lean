/-
  text.FromHex, and the reference's. Conditions: sizes within the reach.
-/
import Derived.Test.YtginbfeimiihlaaDoorVal
namespace Go.Proofs.YtginbfeimiihlaaDoor
open Go.RowKit

def pairB (cs : List UInt8) (k : Nat) : UInt8 := b8 (16 * valB (cs.getD (2 * k) 0) + valB (cs.getD (2 * k + 1) 0))
def outL (cs : List UInt8) (n : Nat) : List UInt8 := (List.range n).map (pairB cs)
def GoodHex (cs : List UInt8) : Prop := cs.length % 2 = 0 ∧ ∀ c ∈ cs, 0 ≤ valB c
theorem outL_length (cs : List UInt8) (n : Nat) : (outL cs n).length = n := by simp [outL]
theorem outL_succ (cs : List UInt8) (n : Nat) : outL cs (n + 1) = outL cs n ++ [pairB cs n] := by simp [outL, List.range_succ]
theorem outL_take (cs : List UInt8) {k n : Nat} (h : k ≤ n) : (outL cs n).take k = outL cs k := by
  unfold outL
  rw [← List.map_take, List.take_range, Nat.min_eq_left h]
theorem outL_at (cs : List UInt8) {k n : Nat} (h : k < n) : (outL cs n)[k]? = some (pairB cs k) := by
  unfold outL
  rw [List.getElem?_map, List.getElem?_range h]
  rfl

/-- What the reference's FromHex answers. -/
def RefFromPost (w : World) (cs : List UInt8) (e : Ending) (w' : World) : Prop :=
  Below w.heap.size w w' ∧ (GoodHex cs ∧ (∃ v, e = .returned (.tuple #[v, .bool true]) ∧ w'.ownsRow w.heap.size 5 1 v (outL cs (cs.length / 2)).length ((outL cs (cs.length / 2)).map bv)) ∨
    ¬ GoodHex cs ∧ e = .returned (.tuple #[.slice none 0 0, .bool false]))

set_option maxRecDepth 100000 in
set_option maxHeartbeats 3200000 in
theorem refFromHex_any (s : ByteArray) (w : World) (hl : s.size ≤ 20000) :
    Calls Tryd.prog 12 #[.string s] w (RefFromPost w s.data.toList) := by
  obtain ⟨i0, hi, hz0, hz1, hz2⟩ := info_parts info_u8
  obtain ⟨cs, hcs⟩ : ∃ cs, cs = s.data.toList := ⟨_, rfl⟩
  have hlen : cs.length = s.size := by rw [hcs]; rfl
  have hget : ∀ (m : Nat) (h : m < s.size), cs[m]? = some (s[m]'h) := fun m h => by rw [hcs]; exact Lib.data_getElem? s m h
  rw [← hcs]
  have HG := Lib.hid hget
  have HL := Lib.hid hlen
  clear hcs hget hlen
  go_enter Tryd.func12, Tryd.ntmps12
  go_wp2_with fail
  go_loopw [5, 4] (fun j v wr => ∃ m k : Nat, Hid (m = 2 * k) ∧ m ≤ s.size ∧ j = .int .i64 m ∧ wr.ownsRow w.heap.size 5 1 v (outL cs k).length ((outL cs k).map bv) ∧ Below w.heap.size w wr ∧ Hid (∀ c ∈ cs.take m, 0 ≤ valB c)) (fun j _ _ => s.size - (intOf j).toNat)
  case atStart => exact ⟨0, 0, Lib.hid rfl, Nat.zero_le _, rfl, by simpa [outL] using World.ownsRow_nil _ _ _ _, Below.refl _ _, Lib.hid (by simp)⟩
  case round =>
    obtain ⟨m, k, hmk, hm, rfl, hown, hbel, hall⟩ := hrel
    obtain ⟨As, ca, rfl⟩ := own_form hown
    by_cases hlt : m < s.size
    · by_cases hodd : m + 1 = s.size
      · have hd : ((m : Int) + 1 == (s.size : Int)) = true := by simp; omega
        have hbad : ¬ GoodHex cs := fun h => by have h1 := h.1; have h2 := HL.out; have h3 := hmk.out; omega
        have HBAD := Lib.hid hbad
        clear hbad
        go_wp2
        go_ret2
        exact ⟨hbel, .inr ⟨HBAD.out, rfl⟩⟩
      · have hd : ((m : Int) + 1 == (s.size : Int)) = false := by simp; omega
        have hm1 : m + 1 < s.size := by omega
        obtain ⟨c0, hc0⟩ : ∃ c0, c0 = s[m]'hlt := ⟨_, rfl⟩
        obtain ⟨c1, hc1⟩ : ∃ c1, c1 = s[m + 1]'hm1 := ⟨_, rfl⟩
        have g0 := HG.out m hlt
        have g1 := HG.out (m + 1) hm1
        rw [← hc0] at g0
        rw [← hc1] at g1
        have V0 := fun W => value_any c0 W
        have V1 := fun W => value_any c1 W
        have hb0 := val_bd c0
        have hb1 := val_bd c1
        have htk : cs.take (m + 2) = cs.take m ++ [c0, c1] := by
          rw [show m + 2 = m + 1 + 1 by omega, List.take_add_one, List.take_add_one, g0, g1]
          simp
        have hpair : pairB cs k = b8 (16 * valB c0 + valB c1) := by
          unfold pairB
          rw [← hmk.out, List.getD_eq_getElem?_getD, List.getD_eq_getElem?_getD, g0, g1]
          rfl
        have hm0 : c0 ∈ cs := List.mem_of_getElem? g0
        have hm2 : c1 ∈ cs := List.mem_of_getElem? g1
        obtain ⟨v0, hv0⟩ : ∃ v0, v0 = valB c0 := ⟨_, rfl⟩
        obtain ⟨v1, hv1⟩ : ∃ v1, v1 = valB c1 := ⟨_, rfl⟩
        rw [← hv0] at V0 hb0 hpair
        rw [← hv1] at V1 hb1 hpair
        have VV0 := Lib.hid V0
        have VV1 := Lib.hid V1
        have HV0 := Lib.hid hv0
        have HV1 := Lib.hid hv1
        have HT := Lib.hid htk
        have HP := Lib.hid hpair
        have HC0 := Lib.hid hc0
        have HC1 := Lib.hid hc1
        clear V0 V1 hv0 hv1 htk hpair g0 g1
        by_cases hn0 : v0 < 0
        · have hd0 : decide (v0 < 0) = true := decide_eq_true hn0
          have HBAD : Hid (¬ GoodHex cs) := Lib.hid (fun h => by have h1 := h.2 c0 hm0; have h2 := HV0.out; omega)
          go_wp2_with fail
          rw [← hc0]
          refine (VV0.out _).mono ?_
          rintro e w4 ⟨rfl, rfl⟩
          go_wp2
          go_ret2
          exact ⟨hbel, .inr ⟨HBAD.out, rfl⟩⟩
        · have hd0 : decide (v0 < 0) = false := decide_eq_false hn0
          by_cases hn1 : v1 < 0
          · have hd1 : decide (v1 < 0) = true := decide_eq_true hn1
            have HBAD : Hid (¬ GoodHex cs) := Lib.hid (fun h => by have h1 := h.2 c1 hm2; have h2 := HV1.out; omega)
            go_wp2_with fail
            rw [← hc0]
            refine (VV0.out _).mono ?_
            rintro e w4 ⟨rfl, rfl⟩
            go_wp2_with fail
            rw [← hc1]
            refine (VV1.out _).mono ?_
            rintro e w4 ⟨rfl, rfl⟩
            go_wp2
            go_ret2
            exact ⟨hbel, .inr ⟨HBAD.out, rfl⟩⟩
          · have hd1 : decide (v1 < 0) = false := decide_eq_false hn1
            go_wp2_with fail
            rw [← hc0]
            refine (VV0.out _).mono ?_
            rintro e w4 ⟨rfl, rfl⟩
            go_wp2_with fail
            rw [← hc1]
            refine (VV1.out _).mono ?_
            rintro e w4 ⟨rfl, rfl⟩
            go_wp2_with fail
            have hw1 : IntKind.i64.wrap (16 * v0) = 16 * v0 := IntWalk.i64_in _ (by omega)
            have hw2 : IntKind.i64.wrap (16 * v0 + v1) = 16 * v0 + v1 := IntWalk.i64_in _ (by omega)
            have hw3 : IntKind.u8.wrap (16 * v0 + v1) = 16 * v0 + v1 := by rw [IntKind.wrap_u8]; omega
            have hw4 : IntKind.i64.wrap ((m : Int) + 1) = (m : Int) + 1 := IntWalk.i64_in _ (by omega)
            have hw5 : (0 : Int) ≤ (m : Int) + 1 := by omega
            have hw6 : ((m : Int) + 1).toNat = m + 1 := by omega
            have hmade : Byt (wr.alloc (.cells #[.int .u8 (16 * v0 + v1)] 5)).drew (wr.heap.size + 1) (.slice (some ⟨wr.heap.size, 0, none⟩) 1 1) [b8 (16 * v0 + v1)] :=
              (Byt.made wr _ [_] [b8 (16 * v0 + v1)] (by rw [List.map_cons, List.map_nil, bv_b8_of (by omega) (by omega)]) (by unfold maxLen; simp)).keep (fun _ _ _ => rfl)
            have hod : (wr.alloc (.cells #[.int .u8 (16 * v0 + v1)] 5)).drew.ownsRow w.heap.size 5 1 (.slice As (outL cs k).length ca) (outL cs k).length ((outL cs k).map bv) := (hown.alloc _).drew
            have hol : (outL cs k).length ≤ 20000 := by rw [outL_length]; have := hmk.out; omega
            have hbs := hbel.size
            have HOD := Lib.hid hod
            have hsn : outL cs (k + 1) = outL cs k ++ [b8 (16 * v0 + v1)] := by rw [outL_succ, HP.out]
            have HSN := Lib.hid hsn
            clear hod hsn
            refine wp_region_held_drew (S := AnyW) (by kernel_rfl) ?_ (fun hHeld => ?_)
            · exact anyW _
            refine wpAnyH_take (i := 0) (oi := { dst := some 32, op := Go.Op.move (Go.Operand.tmp 4), type := 22, pos := "ref.go:36", after := #[], guard := none }) (v := ?av0) rfl (by kernel_rfl) (by kernel_rfl) (by kernel_rfl) (fun _ _ _ h => h) (Or.inl ⟨by rfl, ?ay0⟩) (by assumption) ?ar0
            case ay0 => (intro w hSw; (try dsimp only at hSw); go_simp; try (with_reducible rfl))
            case ar0 =>
            try simp only [Act.put, List.setIfInBounds_toArray, List.set_cons_zero, List.set_cons_succ]
            refine wpAnyH_take (i := 1) (oi := { dst := some 33, op := Go.Op.move (Go.Operand.tmp 0), type := 9, pos := "ref.go:36", after := #[], guard := none }) (v := ?av1) rfl (by kernel_rfl) (by kernel_rfl) (by kernel_rfl) (fun _ _ _ h => h) (Or.inl ⟨by rfl, ?ay1⟩) (by assumption) ?ar1
            case ay1 => (intro w hSw; (try dsimp only at hSw); go_simp; try (with_reducible rfl))
            case ar1 =>
            try simp only [Act.put, List.setIfInBounds_toArray, List.set_cons_zero, List.set_cons_succ]
            refine wpAnyH_take (i := 2) (oi := { dst := some 34, op := Go.Op.move (Go.Operand.tmp 5), type := 3, pos := "ref.go:36", after := #[], guard := none }) (v := ?av2) rfl (by kernel_rfl) (by kernel_rfl) (by kernel_rfl) (fun _ _ _ h => h) (Or.inl ⟨by rfl, ?ay2⟩) (by assumption) ?ar2
            case ay2 => (intro w hSw; (try dsimp only at hSw); go_simp; try (with_reducible rfl))
            case ar2 =>
            try simp only [Act.put, List.setIfInBounds_toArray, List.set_cons_zero, List.set_cons_succ]
            refine wpAnyH_take (i := 3) (oi := { dst := some 35, op := Go.Op.index 9 (Go.Operand.tmp 33) (Go.Operand.tmp 34), type := 5, pos := "ref.go:36", after := #[{ on := 1, ground := Go.Ground.data }, { on := 2, ground := Go.Ground.data }], guard := none }) (v := ?av3) rfl (by kernel_rfl) (by kernel_rfl) (by kernel_rfl) (fun _ _ _ h => h) (Or.inl ⟨by rfl, ?ay3⟩) (by assumption) ?ar3
            case ay3 => (intro w hSw; (try dsimp only at hSw); go_simp; try (with_reducible rfl))
            case ar3 =>
            try simp only [Act.put, List.setIfInBounds_toArray, List.set_cons_zero, List.set_cons_succ]
            refine wpAnyH_take (i := 6) (oi := { dst := some 38, op := Go.Op.move (Go.Operand.tmp 0), type := 9, pos := "ref.go:36", after := #[], guard := none }) (v := ?av6) rfl (by kernel_rfl) (by kernel_rfl) (by kernel_rfl) (fun _ _ _ h => h) (Or.inl ⟨by rfl, ?ay6⟩) (by assumption) ?ar6
            case ay6 => (intro w hSw; (try dsimp only at hSw); go_simp; try (with_reducible rfl))
            case ar6 =>
            try simp only [Act.put, List.setIfInBounds_toArray, List.set_cons_zero, List.set_cons_succ]
            refine wpAnyH_take (i := 7) (oi := { dst := some 39, op := Go.Op.move (Go.Operand.tmp 5), type := 3, pos := "ref.go:36", after := #[], guard := none }) (v := ?av7) rfl (by kernel_rfl) (by kernel_rfl) (by kernel_rfl) (fun _ _ _ h => h) (Or.inl ⟨by rfl, ?ay7⟩) (by assumption) ?ar7
            case ay7 => (intro w hSw; (try dsimp only at hSw); go_simp; try (with_reducible rfl))
            case ar7 =>
            try simp only [Act.put, List.setIfInBounds_toArray, List.set_cons_zero, List.set_cons_succ]
            refine wpAnyH_take (i := 8) (oi := { dst := some 40, op := Go.Op.binOp Go.BinOp.add 3 (Go.Operand.tmp 39) (Go.Operand.const (Go.Value.int Go.IntKind.i64 1)) 3, type := 3, pos := "ref.go:36", after := #[{ on := 7, ground := Go.Ground.data }], guard := none }) (v := ?av8) rfl (by kernel_rfl) (by kernel_rfl) (by kernel_rfl) (fun _ _ _ h => h) (Or.inl ⟨by rfl, ?ay8⟩) (by assumption) ?ar8
            case ay8 => (intro w hSw; (try dsimp only at hSw); go_simp; try (with_reducible rfl))
            case ar8 =>
            try simp only [Act.put, List.setIfInBounds_toArray, List.set_cons_zero, List.set_cons_succ]
            refine wpAnyH_take (i := 9) (oi := { dst := some 41, op := Go.Op.index 9 (Go.Operand.tmp 38) (Go.Operand.tmp 40), type := 5, pos := "ref.go:36", after := #[{ on := 6, ground := Go.Ground.data }, { on := 8, ground := Go.Ground.data }], guard := none }) (v := ?av9) rfl (by kernel_rfl) (by kernel_rfl) (by kernel_rfl) (fun _ _ _ h => h) (Or.inl ⟨by rfl, ?ay9⟩) (by assumption) ?ar9
            case ay9 => (intro w hSw; (try dsimp only at hSw); go_simp; try (with_reducible rfl))
            case ar9 =>
            try simp only [Act.put, List.setIfInBounds_toArray, List.set_cons_zero, List.set_cons_succ]
            refine wpAnyH_ready (rs := [4]) (by kernel_rfl) (by simp) ?_
            refine AllReadyH.cons (o := { dst := some 36, op := Go.Op.call { callee := Go.Callee.value (Go.Operand.func 24), args := #[Go.Operand.tmp 35], argTypes := #[5] }, type := 3, pos := "ref.go:36", after := #[{ on := 3, ground := Go.Ground.data }], guard := none }) rfl (fun K hK => ?_) AllReadyH.nil
            go_simp
            rw [← hc0]
            refine (VV0.out _).mono ?_
            rintro e w4 ⟨rfl, rfl⟩
            go_simp
            refine hK.out _ _ ?_ (fun hHeld => ?_)
            · exact anyW _
            clear hK K
            try simp only [Act.put, List.setIfInBounds_toArray, List.set_cons_zero, List.set_cons_succ]
            refine wpAnyH_take (i := 5) (oi := { dst := some 37, op := Go.Op.binOp Go.BinOp.mul 3 (Go.Operand.const (Go.Value.int Go.IntKind.i64 16)) (Go.Operand.tmp 36) 3, type := 3, pos := "ref.go:36", after := #[{ on := 4, ground := Go.Ground.data }], guard := none }) (v := ?av5) rfl (by kernel_rfl) (by kernel_rfl) (by kernel_rfl) (fun _ _ _ h => h) (Or.inl ⟨by rfl, ?ay5⟩) (by assumption) ?ar5
            case ay5 => (intro w hSw; (try dsimp only at hSw); go_simp; try (with_reducible rfl))
            case ar5 =>
            try simp only [Act.put, List.setIfInBounds_toArray, List.set_cons_zero, List.set_cons_succ]
            refine wpAnyH_ready (rs := [10]) (by kernel_rfl) (by simp) ?_
            refine AllReadyH.cons (o := { dst := some 42, op := Go.Op.call { callee := Go.Callee.value (Go.Operand.func 24), args := #[Go.Operand.tmp 41], argTypes := #[5] }, type := 3, pos := "ref.go:36", after := #[{ on := 9, ground := Go.Ground.data }, { on := 4, ground := Go.Ground.chain }], guard := none }) rfl (fun K hK => ?_) AllReadyH.nil
            go_simp
            rw [← hc1]
            refine (VV1.out _).mono ?_
            rintro e w4 ⟨rfl, rfl⟩
            go_simp
            refine hK.out _ _ ?_ (fun hHeld => ?_)
            · exact anyW _
            clear hK K
            try simp only [Act.put, List.setIfInBounds_toArray, List.set_cons_zero, List.set_cons_succ]
            refine wpAnyH_take (i := 11) (oi := { dst := some 43, op := Go.Op.binOp Go.BinOp.add 3 (Go.Operand.tmp 37) (Go.Operand.tmp 42) 3, type := 3, pos := "ref.go:36", after := #[{ on := 5, ground := Go.Ground.data }, { on := 10, ground := Go.Ground.data }], guard := none }) (v := ?av11) rfl (by kernel_rfl) (by kernel_rfl) (by kernel_rfl) (fun _ _ _ h => h) (Or.inl ⟨by rfl, ?ay11⟩) (by assumption) ?ar11
            case ay11 => (intro w hSw; (try dsimp only at hSw); go_simp; try (with_reducible rfl))
            case ar11 =>
            try simp only [Act.put, List.setIfInBounds_toArray, List.set_cons_zero, List.set_cons_succ]
            refine wpAnyH_take (i := 12) (oi := { dst := some 44, op := Go.Op.convert 3 5 (Go.Operand.tmp 43), type := 5, pos := "ref.go:36", after := #[{ on := 11, ground := Go.Ground.data }], guard := none }) (v := ?av12) rfl (by kernel_rfl) (by kernel_rfl) (by kernel_rfl) (fun _ _ _ h => h) (Or.inl ⟨by rfl, ?ay12⟩) (by assumption) ?ar12
            case ay12 => (intro w hSw; (try dsimp only at hSw); go_simp; try (with_reducible rfl))
            case ar12 =>
            try simp only [Act.put, List.setIfInBounds_toArray, List.set_cons_zero, List.set_cons_succ]
            refine wpAnyH_ready (rs := [13]) (by kernel_rfl) (by simp) ?_
            refine AllReadyH.cons (o := { dst := some 45, op := Go.Op.buildSlice 22 1 #[(0, Go.Operand.tmp 44)], type := 22, pos := "ref.go:36", after := #[{ on := 12, ground := Go.Ground.data }], guard := none }) rfl (fun K hK => ?_) AllReadyH.nil
            go_simp
            refine hK.out _ _ ?_ (fun hHeld => ?_)
            · exact anyW _
            clear hK K
            try simp only [Act.put, List.setIfInBounds_toArray, List.set_cons_zero, List.set_cons_succ]
            refine wpAnyH_ready (rs := [14]) (by kernel_rfl) (by simp) ?_
            refine AllReadyH.cons (o := { dst := some 46, op := Go.Op.call { callee := Go.Callee.builtin Go.Builtin.append, args := #[Go.Operand.tmp 32, Go.Operand.tmp 45], argTypes := #[22, 22] }, type := 22, pos := "ref.go:36", after := #[{ on := 0, ground := Go.Ground.data }, { on := 13, ground := Go.Ground.data }, { on := 10, ground := Go.Ground.chain }], guard := none }) rfl (fun K hK => ?_) AllReadyH.nil
            simp only [Region.wanted, if_true]
            refine op_append_bytes (.tmp 32) (.tmp 45) 22 rfl w.heap.size 5 i0 slice_u8 hi hz0 hz1 hz2 _ (outL cs k).length ((outL cs k).map bv) rfl HOD.out (wr.heap.size + 1) _ [b8 (16 * v0 + v1)] rfl hmade (by simp; omega) (by simp; omega) ?_
            intro v1' w1 hown1 hg1 hat1
            have hbw : Below w.heap.size w w1 := (((hbel.alloc hbs _).drew)).grown hg1 (by simp; omega) (fun j hj => (HOD.out.lt j hj).1)
            have HH := Lib.hid hown1
            clear hown1 hg1 hat1
            refine hK.out _ _ ?_ (fun hHeld => ?_)
            · exact anyW _
            clear hK K
            try simp only [Act.put, List.setIfInBounds_toArray, List.set_cons_zero, List.set_cons_succ]
            refine wpAnyH_take (i := 15) (oi := { dst := some 4, op := Go.Op.assign (Go.Operand.tmp 46), type := 22, pos := "ref.go:36", after := #[{ on := 14, ground := Go.Ground.data }, { on := 14, ground := Go.Ground.chain }, { on := 0, ground := Go.Ground.phase }, { on := 1, ground := Go.Ground.phase }, { on := 2, ground := Go.Ground.phase }, { on := 3, ground := Go.Ground.phase }, { on := 4, ground := Go.Ground.phase }, { on := 5, ground := Go.Ground.phase }, { on := 6, ground := Go.Ground.phase }, { on := 7, ground := Go.Ground.phase }, { on := 8, ground := Go.Ground.phase }, { on := 9, ground := Go.Ground.phase }, { on := 10, ground := Go.Ground.phase }, { on := 11, ground := Go.Ground.phase }, { on := 12, ground := Go.Ground.phase }, { on := 13, ground := Go.Ground.phase }, { on := 14, ground := Go.Ground.phase }], guard := none }) (v := ?av15) rfl (by kernel_rfl) (by kernel_rfl) (by kernel_rfl) (fun _ _ _ h => h) (Or.inl ⟨by rfl, ?ay15⟩) (by assumption) ?ar15
            case ay15 => (intro w hSw; (try dsimp only at hSw); go_simp; try (with_reducible rfl))
            case ar15 =>
            try simp only [Act.put, List.setIfInBounds_toArray, List.set_cons_zero, List.set_cons_succ]
            refine wpAnyH_done (by kernel_rfl) ?_ _
            go_wp2
            refine ⟨⟨m + 2, k + 1, Lib.hid (by have := hmk.out; omega), by omega, by go_num, ?_, hbw, Lib.hid ?_⟩, by simp [intOf]; omega⟩
            · rw [HSN.out, List.length_append, List.map_append]
              exact HH.out
            · intro c hc
              rw [HT.out] at hc
              rcases List.mem_append.1 hc with h | h
              · exact hall.out c h
              · have e0 := HV0.out
                have e1 := HV1.out
                simp only [List.mem_cons, List.not_mem_nil, or_false] at h
                rcases h with rfl | rfl
                · omega
                · omega
    · have hme : m = s.size := by omega
      have hgood : GoodHex cs := ⟨by have h2 := HL.out; have h3 := hmk.out; omega, by
        have h := hall.out
        rw [List.take_of_length_le (by have h2 := HL.out; omega)] at h
        exact h⟩
      have hke : k = cs.length / 2 := by have h2 := HL.out; have h3 := hmk.out; omega
      have HKE := Lib.hid hke
      have HG' := Lib.hid hgood
      have HO := Lib.hid hown
      clear hgood hown hke hme
      go_wp2
      go_ret2
      exact ⟨hbel, .inl ⟨HG'.out, _, rfl, by rw [← HKE.out]; exact HO.out⟩⟩
end Go.Proofs.YtginbfeimiihlaaDoor
