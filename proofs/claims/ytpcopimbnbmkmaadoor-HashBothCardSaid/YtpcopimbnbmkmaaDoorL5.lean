/-
  Texts joined: S5Sched, S5Step, Kind256. Conditions: those of each.
-/
import Derived.Test.YtpcopimbnbmkmaaDoorL4
import Derived.Test.YtpcopimbnbmkmaaDoorL1
import Derived.IntWalk
import Derived.StillTailTactics
import Derived.Laws.CopyRow
/-
  hash.schedule512, walked. Conditions: the block has 128 bytes.
-/
namespace Go.Proofs.YtpcopimbnbmkmaaDoor.S5
open Go.RowKit

theorem zero_80 (W : World) : (zeroValue 54).run Tryd.prog W = .ok (.agg ((List.replicate 80 (0 : Int)).map (Value.int .u64)).toArray) W := by kernel_rfl
theorem info_80 : (Tryd.prog.info? 54).map (·.size) = some 80 := by kernel_rfl
theorem wordAt_cells {bs : List UInt8} {t : Nat} (h : 8 * t + 8 ≤ bs.length) : ∃ q0 q1 q2 q3 q4 q5 q6 q7, bs[8 * t]? = some q0 ∧ bs[8 * t + 1]? = some q1 ∧ bs[8 * t + 2]? = some q2 ∧ bs[8 * t + 3]? = some q3 ∧
    bs[8 * t + 4]? = some q4 ∧ bs[8 * t + 5]? = some q5 ∧ bs[8 * t + 6]? = some q6 ∧ bs[8 * t + 7]? = some q7 ∧ wordAt bs t = be64 (be32 q0 q1 q2 q3) (be32 q4 q5 q6 q7) := by
  refine ⟨bs[8 * t]'(by omega), bs[8 * t + 1]'(by omega), bs[8 * t + 2]'(by omega), bs[8 * t + 3]'(by omega), bs[8 * t + 4]'(by omega), bs[8 * t + 5]'(by omega), bs[8 * t + 6]'(by omega), bs[8 * t + 7]'(by omega), List.getElem?_eq_getElem _, List.getElem?_eq_getElem _, List.getElem?_eq_getElem _, List.getElem?_eq_getElem _, List.getElem?_eq_getElem _, List.getElem?_eq_getElem _, List.getElem?_eq_getElem _, List.getElem?_eq_getElem _, ?_⟩
  unfold wordAt
  simp only [List.getD_eq_getElem?_getD]
  rw [List.getElem?_eq_getElem (show 8 * t < bs.length by omega), List.getElem?_eq_getElem (show 8 * t + 1 < bs.length by omega), List.getElem?_eq_getElem (show 8 * t + 2 < bs.length by omega), List.getElem?_eq_getElem (show 8 * t + 3 < bs.length by omega),
    List.getElem?_eq_getElem (show 8 * t + 4 < bs.length by omega), List.getElem?_eq_getElem (show 8 * t + 5 < bs.length by omega), List.getElem?_eq_getElem (show 8 * t + 6 < bs.length by omega), List.getElem?_eq_getElem (show 8 * t + 7 < bs.length by omega)]
  rfl
theorem or_64 {x y : Int} (hx : U32 x) (hy : U32 y) : bits .or .u64 (x * 4294967296) y = be64 x y := by
  obtain ⟨a0, a1⟩ := hx
  obtain ⟨b0, b1⟩ := hy
  unfold be64
  exact bits_join .u64 64 (by decide) wraps_u64 32 _ _ (by omega) (by omega) (by omega) (by omega) (by omega) (by omega)
def wordsN (bs : List UInt8) (t : Nat) : List Int := (List.range t).map (wordAt bs)
theorem wordsN_succ (bs : List UInt8) (t : Nat) : wordsN bs (t + 1) = wordsN bs t ++ [wordAt bs t] := by simp [wordsN, List.range_succ]
theorem wordsN_length (bs : List UInt8) (t : Nat) : (wordsN bs t).length = t := by simp [wordsN]

theorem nextW_u (ws : List Int) : U64 (nextW ws) := add64_u _ _
theorem sched_u (bs : List UInt8) : ∀ n, ∀ x ∈ schedN (words16 bs) n, U64 x
  | 0, x, hx => by
    unfold schedN words16 at hx
    obtain ⟨t, _, rfl⟩ := List.mem_map.1 hx
    exact be64_u (be32_u _ _ _ _) (be32_u _ _ _ _)
  | n + 1, x, hx => by
    rw [schedN] at hx
    rcases List.mem_append.1 hx with h | h
    · exact sched_u bs n x h
    · rw [List.mem_singleton.1 h]
      exact nextW_u _

set_option maxRecDepth 100000 in
set_option maxHeartbeats 6400000 in
theorem sched_any (b o c : Nat) (bs : List UInt8) (w : World) (hl : bs.length = 128) (hc : 128 ≤ c) (hcm : c ≤ 9223372036854775807) (hb : b < w.heap.size) (hcell : ∀ (j : Nat) (u : UInt8), bs[j]? = some u → w.cell? ⟨b, o + j, none⟩ = some (bv u)) :
    Calls Tryd.prog 44 #[.slice (some ⟨b, o, none⟩) 128 c] w fun e w' => e = .returned (.agg ((W80 bs).map (Value.int .u64)).toArray) ∧ Below w.heap.size w w' := by
  have HC := Lib.hid hcell
  have HL := Lib.hid hl
  clear hcell hl
  have hz80 := zero_80
  go_enter Tryd.func44, Tryd.ntmps44
  go_wp2_with fail
  have r1 := IRow.new w 54 .u64 (List.replicate 80 0)
  have r2 := IRow.new (w.alloc (.cells ((List.replicate 80 (0 : Int)).map (Value.int .u64)).toArray 54)) 54 .u64 (List.replicate 80 0)
  have hs1 : (w.alloc (.cells ((List.replicate 80 (0 : Int)).map (Value.int .u64)).toArray 54)).heap.size = w.heap.size + 1 := by simp
  rw [hs1] at r2
  have R1 := Lib.hid r1
  have R2 := Lib.hid r2
  have HU := Lib.hid u64_wrap
  clear r1 r2 hs1
  go_loopw [10] (fun j wr => ∃ t : Nat, t ≤ 16 ∧ j = .int .i64 t ∧ IRow wr (w.heap.size + 1) 54 .u64 (padZ 80 (wordsN bs t)) ∧ IRow wr w.heap.size 54 .u64 (List.replicate 80 0) ∧ Below w.heap.size w wr) (fun j _ => 16 - (intOf j).toNat)
  case atStart => exact ⟨0, by omega, rfl, R2.out, (Below.refl (w.heap.size + 1) _).alloc (by simp) _ |>.block _ (by simp) |>.trans R1.out, ((Below.refl _ w).alloc (Nat.le_refl _) _).alloc (by simp) _⟩
  case round =>
    obtain ⟨t, ht, rfl, hrow, hres, hbel⟩ := hrel
    by_cases h16 : t < 16
    · obtain ⟨q0, q1, q2, q3, q4, q5, q6, q7, g0, g1, g2, g3, g4, g5, g6, g7, hw⟩ := wordAt_cells (bs := bs) (t := t) (by have := HL.out; omega)
      have c0 := (hbel.cell (p := ⟨b, o + 8 * t, none⟩) hb).trans (HC.out _ _ g0)
      have c1 := (hbel.cell (p := ⟨b, o + (8 * t + 1), none⟩) hb).trans (HC.out _ _ g1)
      have c2 := (hbel.cell (p := ⟨b, o + (8 * t + 2), none⟩) hb).trans (HC.out _ _ g2)
      have c3 := (hbel.cell (p := ⟨b, o + (8 * t + 3), none⟩) hb).trans (HC.out _ _ g3)
      have c4 := (hbel.cell (p := ⟨b, o + (8 * t + 4), none⟩) hb).trans (HC.out _ _ g4)
      have c5 := (hbel.cell (p := ⟨b, o + (8 * t + 5), none⟩) hb).trans (HC.out _ _ g5)
      have c6 := (hbel.cell (p := ⟨b, o + (8 * t + 6), none⟩) hb).trans (HC.out _ _ g6)
      have c7 := (hbel.cell (p := ⟨b, o + (8 * t + 7), none⟩) hb).trans (HC.out _ _ g7)
      rw [← Nat.add_assoc] at c1 c2 c3
      rw [show o + (8 * t + 4) = o + (8 * t + 4) from rfl] at c4
      rw [show o + (8 * t + 5) = o + (8 * t + 4) + 1 by omega] at c5
      rw [show o + (8 * t + 6) = o + (8 * t + 4) + 2 by omega] at c6
      rw [show o + (8 * t + 7) = o + (8 * t + 4) + 3 by omega] at c7
      have hux := be32_u q0 q1 q2 q3
      have huy := be32_u q4 q5 q6 q7
      have G1 := Lib.hid (fun n => get32_any b (o + 8 * t) (128 - 8 * t) (c - 8 * t) q0 q1 q2 q3 (wr.drewN n) (by omega) c0 c1 c2 c3)
      obtain ⟨t8, ht8⟩ : ∃ t8, t8 = 8 * t + 4 := ⟨_, rfl⟩
      rw [← ht8] at c4 c5 c6 c7
      have G2 := Lib.hid (fun n => get32_any b (o + t8) (128 - t8) (c - t8) q4 q5 q6 q7 (wr.drewN n) (by omega) c4 c5 c6 c7)
      obtain ⟨X, hX⟩ : ∃ X, X = be32 q0 q1 q2 q3 := ⟨_, rfl⟩
      obtain ⟨Y, hY⟩ : ∃ Y, Y = be32 q4 q5 q6 q7 := ⟨_, rfl⟩
      rw [← hX] at hux G1 hw
      rw [← hY] at huy G2 hw
      have hor := or_64 hux huy
      rw [← hw] at hor
      obtain ⟨hx0, hx1⟩ := hux
      obtain ⟨hy0, hy1⟩ := huy
      have wx : IntKind.u64.wrap X = X := by rw [u64_wrap]; omega
      have wy : IntKind.u64.wrap Y = Y := by rw [u64_wrap]; omega
      have wxx : IntKind.u64.wrap (X * 4294967296) = X * 4294967296 := by rw [u64_wrap]; omega
      have hsn := wordsN_succ bs t
      have hll := wordsN_length bs t
      have hcz : wr.cell? ⟨w.heap.size + 1, t, none⟩ = some (.int .u64 0) := hrow.cell (by have := padZ_next (n := 80) (l := wordsN bs t) (by omega); rw [hll] at this; exact this)
      have hcf := hrow.free t
      have hset := fun z => hrow.set t z
      have hpz := fun z => padZ_set (n := 80) (l := wordsN bs t) (z := z) (by omega)
      rw [hll] at hpz
      simp only [hpz] at hset
      have hset2 := hset (wordAt bs t)
      rw [← hsn] at hset2
      have HSET := Lib.hid hset2
      have HRES := Lib.hid hres
      have e4 : ¬ (c = 8 * t) := by omega
      have e5 : 8 * t ≤ 128 := by omega
      have e6 : ¬ (c = t8) := by omega
      have e7 : t8 ≤ 128 := by omega
      have e8 : (8 : Int) * (t : Int) ≤ 128 := by omega
      have e9 : (t8 : Int) ≤ 128 := by omega
      have bt : (t : Int) < 80 := by omega
      have w8 : IntKind.i64.wrap (8 * (t : Int)) = 8 * (t : Int) := by rw [IntWalk.i64_in _ (by omega)]
      have w84 : IntKind.i64.wrap (8 * (t : Int) + 4) = 8 * (t : Int) + 4 := by rw [IntWalk.i64_in _ (by omega)]
      have z0 : (0 : Int) ≤ 8 * (t : Int) := by omega
      have z1 : (8 * (t : Int)).toNat = 8 * t := by omega
      have z2 : (0 : Int) ≤ 8 * (t : Int) + 4 := by omega
      have z3 : (8 * (t : Int) + 4).toNat = t8 := by omega
      have z4 : 8 * (t : Int) + 4 ≤ 128 := by omega
      clear g0 g1 g2 g3 g4 g5 g6 g7 hw c0 c1 c2 c3 c4 c5 c6 c7 hsn hll hset hpz hset2 hrow hres hX hY ht8
      go_wp2_with fail
      refine wp_region_held_drew (S := AnyW) (by kernel_rfl) ?_ (fun hHeld => ?_)
      · exact anyW _
      refine wpAnyH_take (i := 0) (oi := { dst := some 13, op := Go.Op.move (Go.Operand.tmp 4), type := 3, pos := "sha512.go:42", after := #[], guard := none }) (v := ?av0) rfl (by kernel_rfl) (by kernel_rfl) (by kernel_rfl) (fun _ _ _ h => h) (Or.inl ⟨by rfl, ?ay0⟩) (by assumption) ?ar0
      case ay0 => (intro w hSw; (try dsimp only at hSw); go_simp; try (with_reducible rfl))
      case ar0 =>
      try simp only [Act.put, List.setIfInBounds_toArray, List.set_cons_zero, List.set_cons_succ]
      refine wpAnyH_take (i := 1) (oi := { dst := some 14, op := Go.Op.move (Go.Operand.tmp 0), type := 22, pos := "sha512.go:42", after := #[], guard := none }) (v := ?av1) rfl (by kernel_rfl) (by kernel_rfl) (by kernel_rfl) (fun _ _ _ h => h) (Or.inl ⟨by rfl, ?ay1⟩) (by assumption) ?ar1
      case ay1 => (intro w hSw; (try dsimp only at hSw); go_simp; try (with_reducible rfl))
      case ar1 =>
      try simp only [Act.put, List.setIfInBounds_toArray, List.set_cons_zero, List.set_cons_succ]
      refine wpAnyH_take (i := 2) (oi := { dst := some 15, op := Go.Op.move (Go.Operand.tmp 4), type := 3, pos := "sha512.go:42", after := #[], guard := none }) (v := ?av2) rfl (by kernel_rfl) (by kernel_rfl) (by kernel_rfl) (fun _ _ _ h => h) (Or.inl ⟨by rfl, ?ay2⟩) (by assumption) ?ar2
      case ay2 => (intro w hSw; (try dsimp only at hSw); go_simp; try (with_reducible rfl))
      case ar2 =>
      try simp only [Act.put, List.setIfInBounds_toArray, List.set_cons_zero, List.set_cons_succ]
      refine wpAnyH_take (i := 3) (oi := { dst := some 16, op := Go.Op.binOp Go.BinOp.mul 3 (Go.Operand.const (Go.Value.int Go.IntKind.i64 8)) (Go.Operand.tmp 15) 3, type := 3, pos := "sha512.go:42", after := #[{ on := 2, ground := Go.Ground.data }], guard := none }) (v := ?av3) rfl (by kernel_rfl) (by kernel_rfl) (by kernel_rfl) (fun _ _ _ h => h) (Or.inl ⟨by rfl, ?ay3⟩) (by assumption) ?ar3
      case ay3 => (intro w hSw; (try dsimp only at hSw); go_simp; try (with_reducible rfl))
      case ar3 =>
      try simp only [Act.put, List.setIfInBounds_toArray, List.set_cons_zero, List.set_cons_succ]
      refine wpAnyH_take (i := 4) (oi := { dst := some 17, op := Go.Op.slice 22 (Go.Operand.tmp 14) (some (Go.Operand.tmp 16)) none none, type := 22, pos := "sha512.go:42", after := #[{ on := 1, ground := Go.Ground.data }, { on := 3, ground := Go.Ground.data }], guard := none }) (v := Value.slice (some ⟨b, o + 8 * t, none⟩) (128 - 8 * t) (c - 8 * t)) rfl (by kernel_rfl) (by kernel_rfl) (by kernel_rfl) (fun _ _ _ h => h) (Or.inl ⟨by rfl, ?ay4⟩) (by assumption) ?ar4
      case ay4 => (intro w hSw; (try dsimp only at hSw); go_simp; try (with_reducible rfl))
      case ar4 =>
      try simp only [Act.put, List.setIfInBounds_toArray, List.set_cons_zero, List.set_cons_succ]
      refine wpAnyH_take (i := 8) (oi := { dst := some 21, op := Go.Op.move (Go.Operand.tmp 0), type := 22, pos := "sha512.go:42", after := #[], guard := none }) (v := ?av8) rfl (by kernel_rfl) (by kernel_rfl) (by kernel_rfl) (fun _ _ _ h => h) (Or.inl ⟨by rfl, ?ay8⟩) (by assumption) ?ar8
      case ay8 => (intro w hSw; (try dsimp only at hSw); go_simp; try (with_reducible rfl))
      case ar8 =>
      try simp only [Act.put, List.setIfInBounds_toArray, List.set_cons_zero, List.set_cons_succ]
      refine wpAnyH_take (i := 9) (oi := { dst := some 22, op := Go.Op.move (Go.Operand.tmp 4), type := 3, pos := "sha512.go:42", after := #[], guard := none }) (v := ?av9) rfl (by kernel_rfl) (by kernel_rfl) (by kernel_rfl) (fun _ _ _ h => h) (Or.inl ⟨by rfl, ?ay9⟩) (by assumption) ?ar9
      case ay9 => (intro w hSw; (try dsimp only at hSw); go_simp; try (with_reducible rfl))
      case ar9 =>
      try simp only [Act.put, List.setIfInBounds_toArray, List.set_cons_zero, List.set_cons_succ]
      refine wpAnyH_take (i := 10) (oi := { dst := some 23, op := Go.Op.binOp Go.BinOp.mul 3 (Go.Operand.const (Go.Value.int Go.IntKind.i64 8)) (Go.Operand.tmp 22) 3, type := 3, pos := "sha512.go:42", after := #[{ on := 9, ground := Go.Ground.data }], guard := none }) (v := ?av10) rfl (by kernel_rfl) (by kernel_rfl) (by kernel_rfl) (fun _ _ _ h => h) (Or.inl ⟨by rfl, ?ay10⟩) (by assumption) ?ar10
      case ay10 => (intro w hSw; (try dsimp only at hSw); go_simp; try (with_reducible rfl))
      case ar10 =>
      try simp only [Act.put, List.setIfInBounds_toArray, List.set_cons_zero, List.set_cons_succ]
      refine wpAnyH_take (i := 11) (oi := { dst := some 24, op := Go.Op.binOp Go.BinOp.add 3 (Go.Operand.tmp 23) (Go.Operand.const (Go.Value.int Go.IntKind.i64 4)) 3, type := 3, pos := "sha512.go:42", after := #[{ on := 10, ground := Go.Ground.data }], guard := none }) (v := ?av11) rfl (by kernel_rfl) (by kernel_rfl) (by kernel_rfl) (fun _ _ _ h => h) (Or.inl ⟨by rfl, ?ay11⟩) (by assumption) ?ar11
      case ay11 => (intro w hSw; (try dsimp only at hSw); go_simp; try (with_reducible rfl))
      case ar11 =>
      try simp only [Act.put, List.setIfInBounds_toArray, List.set_cons_zero, List.set_cons_succ]
      refine wpAnyH_take (i := 12) (oi := { dst := some 25, op := Go.Op.slice 22 (Go.Operand.tmp 21) (some (Go.Operand.tmp 24)) none none, type := 22, pos := "sha512.go:42", after := #[{ on := 8, ground := Go.Ground.data }, { on := 11, ground := Go.Ground.data }], guard := none }) (v := Value.slice (some ⟨b, o + t8, none⟩) (128 - t8) (c - t8)) rfl (by kernel_rfl) (by kernel_rfl) (by kernel_rfl) (fun _ _ _ h => h) (Or.inl ⟨by rfl, ?ay12⟩) (by assumption) ?ar12
      case ay12 => (intro w hSw; (try dsimp only at hSw); go_simp; try (with_reducible rfl))
      case ar12 =>
      try simp only [Act.put, List.setIfInBounds_toArray, List.set_cons_zero, List.set_cons_succ]
      refine wpAnyH_ready (rs := [5]) (by kernel_rfl) (by simp) ?_
      refine AllReadyH.cons (o := { dst := some 18, op := Go.Op.call { callee := Go.Callee.value (Go.Operand.func 40), args := #[Go.Operand.tmp 17], argTypes := #[22] }, type := 39, pos := "sha512.go:42", after := #[{ on := 4, ground := Go.Ground.data }], guard := none }) rfl (fun K hK => ?_) (AllReadyH.nil)
      go_simp
      refine (G1.out 1).mono ?_
      rintro e w5 ⟨rfl, k5, rfl⟩
      go_simp
      refine hK.out _ _ ?_ (fun hHeld => ?_)
      · exact anyW _
      clear hK K
      try simp only [Act.put, List.setIfInBounds_toArray, List.set_cons_zero, List.set_cons_succ]
      refine wpAnyH_take (i := 6) (oi := { dst := some 19, op := Go.Op.convert 39 42 (Go.Operand.tmp 18), type := 42, pos := "sha512.go:42", after := #[{ on := 5, ground := Go.Ground.data }], guard := none }) (v := ?a_5v6) rfl (by kernel_rfl) (by kernel_rfl) (by kernel_rfl) (fun _ _ _ h => h) (Or.inl ⟨by rfl, ?a_5y6⟩) (by assumption) ?a_5r6
      case a_5y6 => (intro w hSw; (try dsimp only at hSw); go_simp; try (with_reducible rfl))
      case a_5r6 =>
      try simp only [Act.put, List.setIfInBounds_toArray, List.set_cons_zero, List.set_cons_succ]
      refine wpAnyH_take (i := 7) (oi := { dst := some 20, op := Go.Op.binOp Go.BinOp.shl 42 (Go.Operand.tmp 19) (Go.Operand.const (Go.Value.int Go.IntKind.u64 32)) 52, type := 42, pos := "sha512.go:42", after := #[{ on := 6, ground := Go.Ground.data }], guard := none }) (v := ?a_5v7) rfl (by kernel_rfl) (by kernel_rfl) (by kernel_rfl) (fun _ _ _ h => h) (Or.inl ⟨by rfl, ?a_5y7⟩) (by assumption) ?a_5r7
      case a_5y7 => (intro w hSw; (try dsimp only at hSw); go_simp; try (with_reducible rfl))
      case a_5r7 =>
      try simp only [Act.put, List.setIfInBounds_toArray, List.set_cons_zero, List.set_cons_succ]
      refine wpAnyH_ready (rs := [13]) (by kernel_rfl) (by simp) ?_
      refine AllReadyH.cons (o := { dst := some 26, op := Go.Op.call { callee := Go.Callee.value (Go.Operand.func 40), args := #[Go.Operand.tmp 25], argTypes := #[22] }, type := 39, pos := "sha512.go:42", after := #[{ on := 12, ground := Go.Ground.data }, { on := 5, ground := Go.Ground.chain }], guard := none }) rfl (fun K hK => ?_) (AllReadyH.nil)
      go_simp
      refine (G2.out _).mono ?_
      rintro e w6 ⟨rfl, k6, rfl⟩
      go_simp
      refine hK.out _ _ ?_ (fun hHeld => ?_)
      · exact anyW _
      clear hK K
      try simp only [Act.put, List.setIfInBounds_toArray, List.set_cons_zero, List.set_cons_succ]
      refine wpAnyH_take (i := 14) (oi := { dst := some 27, op := Go.Op.convert 39 42 (Go.Operand.tmp 26), type := 42, pos := "sha512.go:42", after := #[{ on := 13, ground := Go.Ground.data }], guard := none }) (v := ?a_5_13v14) rfl (by kernel_rfl) (by kernel_rfl) (by kernel_rfl) (fun _ _ _ h => h) (Or.inl ⟨by rfl, ?a_5_13y14⟩) (by assumption) ?a_5_13r14
      case a_5_13y14 => (intro w hSw; (try dsimp only at hSw); go_simp; try (with_reducible rfl))
      case a_5_13r14 =>
      try simp only [Act.put, List.setIfInBounds_toArray, List.set_cons_zero, List.set_cons_succ]
      refine wpAnyH_take (i := 15) (oi := { dst := some 28, op := Go.Op.binOp Go.BinOp.or 42 (Go.Operand.tmp 20) (Go.Operand.tmp 27) 42, type := 42, pos := "sha512.go:42", after := #[{ on := 7, ground := Go.Ground.data }, { on := 14, ground := Go.Ground.data }], guard := none }) (v := ?a_5_13v15) rfl (by kernel_rfl) (by kernel_rfl) (by kernel_rfl) (fun _ _ _ h => h) (Or.inl ⟨by rfl, ?a_5_13y15⟩) (by assumption) ?a_5_13r15
      case a_5_13y15 => (intro w hSw; (try dsimp only at hSw); go_simp; try (with_reducible rfl))
      case a_5_13r15 =>
      try simp only [Act.put, List.setIfInBounds_toArray, List.set_cons_zero, List.set_cons_succ]
      refine wpAnyH_take (i := 16) (oi := { dst := some 29, op := Go.Op.indexAddr 54 (Go.Operand.tmp 3) (Go.Operand.tmp 13), type := 0, pos := "sha512.go:42", after := #[{ on := 0, ground := Go.Ground.data }, { on := 0, ground := Go.Ground.phase }, { on := 1, ground := Go.Ground.phase }, { on := 2, ground := Go.Ground.phase }, { on := 3, ground := Go.Ground.phase }, { on := 4, ground := Go.Ground.phase }, { on := 5, ground := Go.Ground.phase }, { on := 6, ground := Go.Ground.phase }, { on := 7, ground := Go.Ground.phase }, { on := 8, ground := Go.Ground.phase }, { on := 9, ground := Go.Ground.phase }, { on := 10, ground := Go.Ground.phase }, { on := 11, ground := Go.Ground.phase }, { on := 12, ground := Go.Ground.phase }, { on := 13, ground := Go.Ground.phase }, { on := 14, ground := Go.Ground.phase }, { on := 15, ground := Go.Ground.phase }], guard := none }) (v := ?a_5_13v16) rfl (by kernel_rfl) (by kernel_rfl) (by kernel_rfl) (fun _ _ _ h => h) (Or.inl ⟨by rfl, ?a_5_13y16⟩) (by assumption) ?a_5_13r16
      case a_5_13y16 => (intro w hSw; (try dsimp only at hSw); go_simp; try (with_reducible rfl))
      case a_5_13r16 =>
      try simp only [Act.put, List.setIfInBounds_toArray, List.set_cons_zero, List.set_cons_succ]
      refine wpAnyH_ready (rs := [17]) (by kernel_rfl) (by simp) ?_
      refine AllReadyH.cons (o := { dst := none, op := Go.Op.store 42 (Go.Operand.tmp 29) (Go.Operand.tmp 28), type := 0, pos := "sha512.go:42", after := #[{ on := 16, ground := Go.Ground.data }, { on := 15, ground := Go.Ground.data }, { on := 13, ground := Go.Ground.chain }, { on := 0, ground := Go.Ground.phase }, { on := 1, ground := Go.Ground.phase }, { on := 2, ground := Go.Ground.phase }, { on := 3, ground := Go.Ground.phase }, { on := 4, ground := Go.Ground.phase }, { on := 5, ground := Go.Ground.phase }, { on := 6, ground := Go.Ground.phase }, { on := 7, ground := Go.Ground.phase }, { on := 8, ground := Go.Ground.phase }, { on := 9, ground := Go.Ground.phase }, { on := 10, ground := Go.Ground.phase }, { on := 11, ground := Go.Ground.phase }, { on := 12, ground := Go.Ground.phase }, { on := 13, ground := Go.Ground.phase }, { on := 14, ground := Go.Ground.phase }, { on := 15, ground := Go.Ground.phase }], guard := none }) rfl (fun K hK => ?_) (AllReadyH.nil)
      go_simp
      refine hK.out _ _ ?_ (fun hHeld => ?_)
      · exact anyW _
      clear hK K
      try simp only [Act.put]
      refine wpAnyH_done (by kernel_rfl) ?_ _
      go_wp2_with fail
      refine ⟨⟨t + 1, by omega, by go_num, HSET.out, ?_, ?_⟩, by simp [intOf]; omega⟩
      · exact (Below.heap_setCell wr _ _ _ (by intro h; first | (have h' : w.heap.size = w.heap.size + 1 := h; omega) | (have h' : w.heap.size + 1 = w.heap.size := h; omega))).trans HRES.out
      · have h := hbel.setCell (p := ⟨w.heap.size + 1, t, none⟩) (by show w.heap.size ≤ w.heap.size + 1; omega) (.int .u64 (wordAt bs t))
        exact ⟨h.os, h.tape, h.output, h.size, h.block⟩
    · obtain rfl : t = 16 := by omega
      have h16' : ((16 : Nat) : Int) = 16 := rfl
      rw [h16']
      clear h16'
      have HROW := Lib.hid hrow
      clear hrow
      go_wp2_with fail
      go_loopw [5] (fun j wr => ∃ n t : Nat, n ≤ 64 ∧ Hid (t = 16 + n) ∧ 16 ≤ t ∧ t ≤ 80 ∧ j = .int .i64 t ∧ IRow wr (w.heap.size + 1) 54 .u64 (padZ 80 (schedN (words16 bs) n)) ∧ IRow wr w.heap.size 54 .u64 (List.replicate 80 0) ∧ Below w.heap.size w wr) (fun j _ => 80 - (intOf j).toNat)
      case atStart => exact ⟨0, 16, by omega, Lib.hid rfl, by omega, by omega, rfl, HROW.out, hres, hbel⟩
      case round =>
        obtain ⟨n, t, hn, ht2, hg16, hle64, rfl, hrow, hres, hbel⟩ := hrel
        obtain ⟨ws, hws⟩ : ∃ ws, ws = schedN (words16 bs) n := ⟨_, rfl⟩
        have hwl : ws.length = t := by rw [hws, schedN_length, ht2.out]; rfl
        rw [← hws] at hrow
        by_cases h64 : t < 80
        · obtain ⟨i1, hi1⟩ : ∃ i, i = t - 15 := ⟨_, rfl⟩
          obtain ⟨i2, hi2⟩ : ∃ i, i = t - 2 := ⟨_, rfl⟩
          obtain ⟨i3, hi3⟩ : ∃ i, i = t - 7 := ⟨_, rfl⟩
          obtain ⟨i4, hi4⟩ : ∃ i, i = t - 16 := ⟨_, rfl⟩
          have w1 : IntKind.i64.wrap ((t : Int) - 15) = (i1 : Int) := by rw [IntWalk.i64_in _ (by omega)]; omega
          have w2 : IntKind.i64.wrap ((t : Int) - 2) = (i2 : Int) := by rw [IntWalk.i64_in _ (by omega)]; omega
          have w3 : IntKind.i64.wrap ((t : Int) - 7) = (i3 : Int) := by rw [IntWalk.i64_in _ (by omega)]; omega
          have w4 : IntKind.i64.wrap ((t : Int) - 16) = (i4 : Int) := by rw [IntWalk.i64_in _ (by omega)]; omega
          have b1 : (i1 : Int) < 80 := by omega
          have b2 : (i2 : Int) < 80 := by omega
          have b3 : (i3 : Int) < 80 := by omega
          have b4 : (i4 : Int) < 80 := by omega
          have bt : (t : Int) < 80 := by omega
          obtain ⟨x, hx⟩ : ∃ x, ws[i1]? = some x := ⟨_, List.getElem?_eq_getElem (by omega)⟩
          obtain ⟨y, hy⟩ : ∃ y, ws[i2]? = some y := ⟨_, List.getElem?_eq_getElem (by omega)⟩
          obtain ⟨u, hu⟩ : ∃ u, ws[i3]? = some u := ⟨_, List.getElem?_eq_getElem (by omega)⟩
          obtain ⟨v, hv⟩ : ∃ v, ws[i4]? = some v := ⟨_, List.getElem?_eq_getElem (by omega)⟩
          have k1 := hrow.cell (padZ_low (n := 80) hx)
          have k2 := hrow.cell (padZ_low (n := 80) hy)
          have k3 := hrow.cell (padZ_low (n := 80) hu)
          have k4 := hrow.cell (padZ_low (n := 80) hv)
          have k5 : wr.cell? ⟨w.heap.size + 1, t, none⟩ = some (.int .u64 0) := hrow.cell (by have := padZ_next (n := 80) (l := ws) (by omega); rw [hwl] at this; exact this)
          have kf := hrow.free t
          have hnw : nextW ws = (small1 y + u + small0 x + v) % 18446744073709551616 := by
            unfold nextW
            rw [hwl, ← hi1, ← hi2, ← hi3, ← hi4]
            simp only [List.getD_eq_getElem?_getD, hx, hy, hu, hv, Option.getD_some]
            unfold add64
            omega
          have hsn : schedN (words16 bs) (n + 1) = ws ++ [nextW ws] := by rw [schedN, ← hws]
          have hset := hrow.set t (nextW ws)
          have hpz := padZ_set (n := 80) (l := ws) (z := nextW ws) (by omega)
          rw [hwl] at hpz
          rw [hpz, ← hsn] at hset
          rw [hnw] at hset
          have HSET := Lib.hid hset
          have HRES := Lib.hid hres
          have hux : U64 x := sched_u bs n x (by rw [← hws]; exact List.mem_of_getElem? hx)
          have huy : U64 y := sched_u bs n y (by rw [← hws]; exact List.mem_of_getElem? hy)
          have C1 := Lib.hid (fun W => rotl_any x (-1) 18446744073709551615 63 W hux (by decide) (by decide) (by decide))
          have C2 := Lib.hid (fun W => rotl_any x (-8) 18446744073709551608 56 W hux (by decide) (by decide) (by decide))
          have C3 := Lib.hid (fun W => rotl_any y (-19) 18446744073709551597 45 W huy (by decide) (by decide) (by decide))
          have C4 := Lib.hid (fun W => rotl_any y (-61) 18446744073709551555 3 W huy (by decide) (by decide) (by decide))
          clear hset hnw hsn hpz hrow hres hx hy hu hv hws hwl hi1 hi2 hi3 hi4
          go_wp2_with fail
          go_quiet (fail)
          go_wp2_with fail
          refine (C1.out _).mono ?_
          rintro e w5 ⟨rfl, rfl⟩
          go_wp2_with fail
          refine (C2.out _).mono ?_
          rintro e w5 ⟨rfl, rfl⟩
          go_wp2_with fail
          refine (C3.out _).mono ?_
          rintro e w5 ⟨rfl, rfl⟩
          go_wp2_with fail
          refine (C4.out _).mono ?_
          rintro e w5 ⟨rfl, rfl⟩
          go_wp2_with fail
          have hu2 := HU.out
          have m3 : ((wr.drewN nq).drew).cell? ⟨w.heap.size + 1, i3, none⟩ = some (.int .u64 u) := k3
          have m4 : ((wr.drewN nq).drew).cell? ⟨w.heap.size + 1, i4, none⟩ = some (.int .u64 v) := k4
          refine wp_region_still_tail 15 (by kernel_rfl) (by kernel_rfl) ?_
          simp only [List.take_succ_cons, List.take_zero, List.drop_succ_cons, List.drop_zero]
          change wpStill _ _ ((wr.drewN nq).drew) _ _ _
          repeat still_step
          refine wpStill_nil ?_
          change wpList _ _ _ _ _ ((wr.drewN nq).drew)
          go_wp2_with fail
          refine ⟨⟨n + 1, t + 1, by have := ht2.out; omega, Lib.hid (by have := ht2.out; omega), by omega, by omega, by go_num, HSET.out, ?_, ?_⟩, by simp [intOf]; omega⟩
          · exact (Below.heap_setCell wr _ _ _ (by intro h; first | (have h' : w.heap.size = w.heap.size + 1 := h; omega) | (have h' : w.heap.size + 1 = w.heap.size := h; omega))).trans HRES.out
          · have h := hbel.setCell (p := ⟨w.heap.size + 1, t, none⟩) (by show w.heap.size ≤ w.heap.size + 1; omega) (.int .u64 ((small1 y + u + small0 x + v) % 18446744073709551616))
            exact ⟨h.os, h.tape, h.output, h.size, h.block⟩
        · obtain rfl : t = 80 := by omega
          have hn48 : n = 64 := by have := ht2.out; omega
          have hW : ws = W80 bs := by rw [hws, hn48]; unfold W80; with_reducible rfl
          rw [padZ_full hwl, hW] at hrow
          have hrow2 : IRow wr (w.heap.size + 1) 54 .u64 (W80 bs) := by with_reducible exact hrow
          have hl64 := W80_length bs
          have hfin := setRow_irow (ys := W80 bs) hres
          have hbf := below_setRow hbel (Nat.le_refl _) ((W80 bs).map (Value.int .u64)).toArray
          have HB := Lib.hid hbf
          have HFIN := Lib.hid hfin
          have HROW2 := Lib.hid hrow2
          have HRES := Lib.hid hres
          have HL64 := Lib.hid hl64
          clear hW hws hwl hrow hrow2 hres hfin hbf hn48 ht2 hl64
          go_wp2_with (first
            | (refine wpList_load_irow rfl 54 (.tmp 3) rfl (g := w.heap.size + 1) (t := 54) (k := .u64) (xs := W80 bs) rfl HROW2.out Tryd.underlying54 (by rw [HL64.out]; exact info_80) ?_)
            | (refine wpList_store_irow rfl 54 (.tmp 2) (.tmp 74) rfl (g := w.heap.size) (t := 54) (k := .u64) (xs := List.replicate 80 0) (ys := W80 bs) rfl rfl HRES.out (by rw [HL64.out]; exact info_80) (by rw [HL64.out]; rfl) ?_))
          refine bodyPost_ret (v := .agg ((W80 bs).map (Value.int .u64)).toArray) ?_ rfl ⟨rfl, HB.out⟩
          obtain ⟨fr, hrw⟩ : ∃ fr, ((wr.setRow (w.heap.size) ((W80 bs).map (Value.int .u64)).toArray)).heap[w.heap.size]? = some (.cells ((W80 bs).map (Value.int .u64)).toArray 54 fr) := ⟨_, HFIN.out⟩
          exact results_cell_row Tryd.results44 _ _ w.heap.size 54 ((W80 bs).map (Value.int .u64)).toArray fr _ rfl hrw Tryd.underlying54 rfl (by rw [List.size_toArray, List.length_map, HL64.out]; exact info_80)
end Go.Proofs.YtpcopimbnbmkmaaDoor.S5

/-
  hash.step512, walked. Conditions: the block has 128 bytes; the words are of 64 bits; the roots are laid.
-/
namespace Go.Proofs.YtpcopimbnbmkmaaDoor.S5
open Go.RowKit

theorem k512_at {t : Nat} (h : t < 80) : ∃ k, k512[t]? = some k ∧ k512.getD t 0 = k := by
  have hl : k512.length = 80 := rfl
  refine ⟨k512[t]'(by omega), List.getElem?_eq_getElem _, ?_⟩
  rw [List.getD_eq_getElem?_getD, List.getElem?_eq_getElem (by omega)]
  rfl
theorem info_8 : (Tryd.prog.info? 55).map (·.size) = some 8 := by kernel_rfl

/-- The first i words with what a block gives them. -/
def mix (l v : List Int) (i : Nat) : List Int := (List.range 8).map fun k => if k < i then add64 (l.getD k 0) (v.getD k 0) else l.getD k 0
theorem idx8 (a b c d e f g h : Int) {i : Nat} (hi : i < 8) : ∃ v, [a, b, c, d, e, f, g, h][i]? = some v ∧ ∀ w, (Instr.index 55 (.agg #[.int .u64 a, .int .u64 b, .int .u64 c, .int .u64 d, .int .u64 e, .int .u64 f, .int .u64 g, .int .u64 h]) (.int .i64 i)).run Tryd.prog w = .ok (.int .u64 v) w := by
  obtain rfl | rfl | rfl | rfl | rfl | rfl | rfl | rfl : i = 0 ∨ i = 1 ∨ i = 2 ∨ i = 3 ∨ i = 4 ∨ i = 5 ∨ i = 6 ∨ i = 7 := by omega
  · exact ⟨_, rfl, fun w => by kernel_rfl⟩
  · exact ⟨_, rfl, fun w => by kernel_rfl⟩
  · exact ⟨_, rfl, fun w => by kernel_rfl⟩
  · exact ⟨_, rfl, fun w => by kernel_rfl⟩
  · exact ⟨_, rfl, fun w => by kernel_rfl⟩
  · exact ⟨_, rfl, fun w => by kernel_rfl⟩
  · exact ⟨_, rfl, fun w => by kernel_rfl⟩
  · exact ⟨_, rfl, fun w => by kernel_rfl⟩
theorem mix_at (l v : List Int) {i : Nat} (hi : i < 8) : (mix l v i)[i]? = some (l.getD i 0) := by
  obtain rfl | rfl | rfl | rfl | rfl | rfl | rfl | rfl : i = 0 ∨ i = 1 ∨ i = 2 ∨ i = 3 ∨ i = 4 ∨ i = 5 ∨ i = 6 ∨ i = 7 := by omega
  all_goals rfl
theorem mix_next (l v : List Int) {i : Nat} (hi : i < 8) : (mix l v i).set i (add64 (l.getD i 0) (v.getD i 0)) = mix l v (i + 1) := by
  obtain rfl | rfl | rfl | rfl | rfl | rfl | rfl | rfl : i = 0 ∨ i = 1 ∨ i = 2 ∨ i = 3 ∨ i = 4 ∨ i = 5 ∨ i = 6 ∨ i = 7 := by omega
  all_goals rfl
set_option maxRecDepth 100000 in
set_option maxHeartbeats 6400000 in
theorem step512_any (b o c : Nat) (s0 : S8) (bs : List UInt8) (w : World) (hs : s0.Ok) (hl : bs.length = 128) (hc : 128 ≤ c) (hcm : c ≤ 9223372036854775807) (hb : b < w.heap.size) (hcell : ∀ (j : Nat) (u : UInt8), bs[j]? = some u → w.cell? ⟨b, o + j, none⟩ = some (bv u)) (hcube : CubeIs w) :
    Calls Tryd.prog 38 #[.agg (s0.list.map (Value.int .u64)).toArray, .slice (some ⟨b, o, none⟩) 128 c] w fun e w' => e = .returned (.agg ((comp512 s0 bs).list.map (Value.int .u64)).toArray) ∧ Below w.heap.size w w' := by
  have HC := Lib.hid hcell
  have HL := Lib.hid hl
  have HK := Lib.hid hcube
  have HS := Lib.hid hs
  clear hcell hl hcube hs
  have hz80 := zero_80
  go_enter Tryd.func38, Tryd.ntmps38
  go_wp2_with fail
  have rA := IRow.new w 55 .u64 s0.list
  have bA : Below w.heap.size w (w.alloc (.cells (s0.list.map (Value.int .u64)).toArray 55)) := (Below.refl _ w).alloc (Nat.le_refl _) _
  have sA : (w.alloc (.cells (s0.list.map (Value.int .u64)).toArray 55)).heap.size = w.heap.size + 1 := by simp
  generalize w.alloc (.cells (s0.list.map (Value.int .u64)).toArray 55) = wA at *
  have rB := IRow.new wA 55 .u64 (List.replicate 8 0)
  have bB : Below (w.heap.size + 1) wA (wA.alloc (.cells ((List.replicate 8 (0 : Int)).map (Value.int .u64)).toArray 55)) := (Below.refl _ wA).alloc (by omega) _
  have sB : (wA.alloc (.cells ((List.replicate 8 (0 : Int)).map (Value.int .u64)).toArray 55)).heap.size = w.heap.size + 2 := by simp; omega
  rw [sA] at rB
  obtain ⟨wB, hwB⟩ : ∃ x, x = wA.alloc (.cells ((List.replicate 8 (0 : Int)).map (Value.int .u64)).toArray 55) := ⟨_, rfl⟩
  rw [← hwB] at rB bB sB
  change Calls _ _ _ (wA.alloc (.cells ((List.replicate 8 (0 : Int)).map (Value.int .u64)).toArray 55)) _
  rw [← hwB]
  clear hwB
  have rA2 := rA.below bB (Nat.lt_succ_self _)
  have hB0 : Below w.heap.size w wB := bA.trans (bB.mono (by omega))
  refine (sched_any b o c bs wB HL.out hc hcm (by omega) (fun j u hu => (hB0.cell (p := ⟨b, o + j, none⟩) hb).trans (HC.out j u hu))).mono ?_
  rintro e w3 ⟨rfl, hb3⟩
  rw [sB] at hb3
  have rA3 := rA2.below hb3 (by omega)
  have rB3 := rB.below hb3 (by omega)
  have s3 : w.heap.size + 2 ≤ w3.heap.size := by have := hb3.size; omega
  have rW := IRow.new w3 54 .u64 (List.replicate 80 0)
  have HRW := Lib.hid rW
  clear rW rA rA2 rB
  go_wp2_with (first
    | (refine wpList_store_irow rfl 54 (.tmp 5) (.tmp 22) rfl (g := w3.heap.size) (t := 54) (k := .u64) (xs := List.replicate 80 0) (ys := W80 bs) rfl rfl HRW.out (by rw [W80_length]; exact info_80) (by rw [W80_length]; rfl) ?_))
  have rW4 : IRow ((w3.alloc (.cells ((List.replicate 80 (0 : Int)).map (Value.int .u64)).toArray 54)).setRow w3.heap.size ((W80 bs).map (Value.int .u64)).toArray) w3.heap.size 54 .u64 (W80 bs) := setRow_irow HRW.out
  have b4 : Below w3.heap.size w3 ((w3.alloc (.cells ((List.replicate 80 (0 : Int)).map (Value.int .u64)).toArray 54)).setRow w3.heap.size ((W80 bs).map (Value.int .u64)).toArray) := below_setRow ((Below.refl _ w3).alloc (Nat.le_refl _) _) (Nat.le_refl _) _
  change Code.wp _ _ _ _ ((w3.alloc (.cells ((List.replicate 80 (0 : Int)).map (Value.int .u64)).toArray 54)).setRow w3.heap.size ((W80 bs).map (Value.int .u64)).toArray)
  obtain ⟨w4, hw4⟩ : ∃ x, x = (w3.alloc (.cells ((List.replicate 80 (0 : Int)).map (Value.int .u64)).toArray 54)).setRow w3.heap.size ((W80 bs).map (Value.int .u64)).toArray := ⟨_, rfl⟩
  rw [← hw4] at rW4 b4 ⊢
  clear hw4 HRW
  have rA4 := rA3.below b4 (by omega)
  have rB4 := rB3.below b4 (by omega)
  have hB4 : Below w.heap.size w w4 := hB0.trans ((hb3.mono (by omega)).trans (b4.mono (by omega)))
  have m0 := rA4.cell (i := 0) rfl
  have m1 := rA4.cell (i := 1) rfl
  have m2 := rA4.cell (i := 2) rfl
  have m3 := rA4.cell (i := 3) rfl
  have m4 := rA4.cell (i := 4) rfl
  have m5 := rA4.cell (i := 5) rfl
  have m6 := rA4.cell (i := 6) rfl
  have m7 := rA4.cell (i := 7) rfl
  have HA4 := Lib.hid rA4
  have HB4 := Lib.hid rB4
  have HW4 := Lib.hid rW4
  have HL4 := Lib.hid hB4
  have S4 := Lib.hid (⟨sA, sB, s3, b4.size⟩ : wA.heap.size = w.heap.size + 1 ∧ wB.heap.size = w.heap.size + 2 ∧ w.heap.size + 2 ≤ w3.heap.size ∧ w3.heap.size ≤ w4.heap.size)
  clear rA3 rB3 rA4 rB4 rW4 hB4 hB0 bA bB hb3 sA sB s3 b4
  go_quiet (fail)
  go_wp2_with fail
  clear m0 m1 m2 m3 m4 m5 m6 m7
  go_loopw [39, 6, 7, 8, 9, 10, 11, 12, 13] (fun j va vb vc vd ve vf vg vh wr => ∃ (t : Nat) (s : S8), t ≤ 80 ∧ Hid (s = rounds k512 (W80 bs) t s0) ∧ j = .int .i64 t ∧ va = .int .u64 s.a ∧ vb = .int .u64 s.b ∧ vc = .int .u64 s.c ∧ vd = .int .u64 s.d ∧ ve = .int .u64 s.e ∧ vf = .int .u64 s.f ∧ vg = .int .u64 s.g ∧ vh = .int .u64 s.h ∧
      IRow wr w.heap.size 55 .u64 s0.list ∧ IRow wr (w.heap.size + 1) 55 .u64 (List.replicate 8 0) ∧ IRow wr w3.heap.size 54 .u64 (W80 bs) ∧ Below w.heap.size w wr ∧ w3.heap.size ≤ wr.heap.size) (fun j _ _ _ _ _ _ _ _ _ => 80 - (intOf j).toNat)
  case atStart => exact ⟨0, s0, by omega, Lib.hid rfl, rfl, rfl, rfl, rfl, rfl, rfl, rfl, rfl, rfl, HA4.out, HB4.out, HW4.out, ⟨HL4.out.os, HL4.out.tape, HL4.out.output, HL4.out.size, HL4.out.block⟩, S4.out.2.2.2⟩
  case round =>
    obtain ⟨t, s, ht, hst, rfl, rfl, rfl, rfl, rfl, rfl, rfl, rfl, rfl, hra, hrb, hrw, hbel, hsz⟩ := hrel
    by_cases h64 : t < 80
    · obtain ⟨kk, hk, hk2⟩ := k512_at h64
      have kc := (HK.out.below hbel HK.out.1).2 t kk hk
      obtain ⟨x, hx⟩ : ∃ x, (W80 bs)[t]? = some x := ⟨_, List.getElem?_eq_getElem (by rw [W80_length]; omega)⟩
      have wc := hrw.cell hx
      have bt : (t : Int) < 80 := by omega
      have hok : s.Ok := by rw [hst.out]; exact rounds_ok _ _ _ HS.out
      have C1 := Lib.hid (fun W => rotl_any s.e (-14) 18446744073709551602 50 W hok.e (by decide) (by decide) (by decide))
      have C2 := Lib.hid (fun W => rotl_any s.e (-18) 18446744073709551598 46 W hok.e (by decide) (by decide) (by decide))
      have C3 := Lib.hid (fun W => rotl_any s.e (-41) 18446744073709551575 23 W hok.e (by decide) (by decide) (by decide))
      have C4 := Lib.hid (fun W => rotl_any s.a (-28) 18446744073709551588 36 W hok.a (by decide) (by decide) (by decide))
      have C5 := Lib.hid (fun W => rotl_any s.a (-34) 18446744073709551582 30 W hok.a (by decide) (by decide) (by decide))
      have C6 := Lib.hid (fun W => rotl_any s.a (-39) 18446744073709551577 25 W hok.a (by decide) (by decide) (by decide))
      have HX := Lib.hid hx
      have HK2 := Lib.hid hk2
      have HRA := Lib.hid hra
      have HRB := Lib.hid hrb
      have HRW := Lib.hid hrw
      have HBEL := Lib.hid hbel
      have HSZ := Lib.hid hsz
      have HU := Lib.hid u64_wrap
      clear hx hk2 hra hrb hrw hbel hsz hk hok
      go_wp2_with fail
      refine (C1.out _).mono ?_
      rintro e w5 ⟨rfl, rfl⟩
      go_wp2_with fail
      refine (C2.out _).mono ?_
      rintro e w5 ⟨rfl, rfl⟩
      go_wp2_with fail
      refine (C3.out _).mono ?_
      rintro e w5 ⟨rfl, rfl⟩
      go_wp2_with fail
      obtain ⟨S1, hS1⟩ : ∃ z, z = bits .xor .u64 (bits .xor .u64 (rot64 50 s.e) (rot64 46 s.e)) (rot64 23 s.e) := ⟨_, rfl⟩
      rw [← hS1]
      have HS1 := Lib.hid hS1
      clear hS1
      refine wp_region_still_lit (by kernel_rfl) (by kernel_rfl) ?_
      iterate 12 still_step
      obtain ⟨CH, hCH⟩ : ∃ z, z = bits .xor .u64 (bits .and .u64 s.e s.f) (bits .and .u64 (bits .xor .u64 (if IntKind.u64.signed = true then -1 else IntKind.u64.max) s.e) s.g) := ⟨_, rfl⟩
      obtain ⟨A1, hA1⟩ : ∃ z, z = IntKind.u64.wrap (s.h + S1) := ⟨_, rfl⟩
      obtain ⟨A2, hA2⟩ : ∃ z, z = IntKind.u64.wrap (A1 + CH) := ⟨_, rfl⟩
      rw [← hCH, ← hA1, ← hA2]
      have HCH := Lib.hid hCH
      have HA1 := Lib.hid hA1
      have HA2 := Lib.hid hA2
      clear hCH hA1 hA2
      iterate 4 still_step
      obtain ⟨A3, hA3⟩ : ∃ z, z = IntKind.u64.wrap (A2 + kk) := ⟨_, rfl⟩
      rw [← hA3]
      have HA3 := Lib.hid hA3
      clear hA3
      iterate 4 still_step
      obtain ⟨T1, hT1⟩ : ∃ z, z = IntKind.u64.wrap (A3 + x) := ⟨_, rfl⟩
      rw [← hT1]
      have HT0 := Lib.hid hT1
      clear hT1
      still_step
      refine wpStill_nil ?_
      have HT1 := Lib.hid (show T1 = add64 (add64 (add64 (add64 s.h (big1 s.e)) (ch64 s.e s.f s.g)) kk) x by
        rw [HT0.out, HA3.out, HA2.out, HA1.out, HCH.out, HS1.out]
        simp only [u64_wrap]
        rfl)
      clear HT0 HA3 HA2 HA1 HCH HS1
      change Exit.then _ _ Exit.normal _ wr.drew
      obtain ⟨wd, hwd⟩ : ∃ x, x = wr.drew := ⟨_, rfl⟩
      rw [← hwd]
      have HRA2 : Hid (IRow wd w.heap.size 55 .u64 s0.list) := Lib.hid (by rw [hwd]; exact HRA.out)
      have HRB2 : Hid (IRow wd (w.heap.size + 1) 55 .u64 (List.replicate 8 0)) := Lib.hid (by rw [hwd]; exact HRB.out)
      have HRW2 : Hid (IRow wd w3.heap.size 54 .u64 (W80 bs)) := Lib.hid (by rw [hwd]; exact HRW.out)
      have HBEL2 : Hid (Below w.heap.size w wd) := Lib.hid (by rw [hwd]; exact HBEL.out.drew)
      have HSZ2 : Hid (w3.heap.size ≤ wd.heap.size) := Lib.hid (by rw [hwd]; exact HSZ.out)
      clear hwd HRA HRB HRW HBEL HSZ kc wc
      generalize bits BinOp.xor IntKind.u64 (if IntKind.u64.signed = true then -1 else IntKind.u64.max) s.e = NE
      generalize bits BinOp.and IntKind.u64 NE s.g = NG
      go_wp2_with fail
      refine (C4.out _).mono ?_
      rintro e w5 ⟨rfl, rfl⟩
      go_wp2_with fail
      refine (C5.out _).mono ?_
      rintro e w5 ⟨rfl, rfl⟩
      go_wp2_with fail
      refine (C6.out _).mono ?_
      rintro e w5 ⟨rfl, rfl⟩
      go_wp2_with fail
      have HR := Lib.hid (show rnd kk x s = ⟨add64 T1 (add64 (big0 s.a) (maj64 s.a s.b s.c)), s.a, s.b, s.c, add64 s.d T1, s.e, s.f, s.g⟩ by rw [HT1.out]; rfl)
      refine ⟨⟨t + 1, rnd kk x s, by omega, Lib.hid ?_, by go_num, ?_, ?_, ?_, ?_, ?_, ?_, ?_, ?_, HRA2.out, HRB2.out, HRW2.out, HBEL2.out, HSZ2.out⟩, by simp [intOf]; omega⟩
      · rw [rounds, ← hst.out, HK2.out, List.getD_eq_getElem?_getD, HX.out]
        rfl
      all_goals (rw [HR.out]; try rfl)
    · obtain rfl : t = 80 := by omega
      have h64' : ((80 : Nat) : Int) = 80 := rfl
      rw [h64']
      have HRA := Lib.hid hra
      have HRB := Lib.hid hrb
      have HBEL := Lib.hid hbel
      have HST := Lib.hid hst.out
      clear h64' hra hrb hrw hbel hst hsz ht h64
      go_wp2_with fail
      go_loopw [113] (fun j wr => ∃ i : Nat, i ≤ 8 ∧ j = .int .i64 i ∧ IRow wr w.heap.size 55 .u64 (mix s0.list s.list i) ∧ IRow wr (w.heap.size + 1) 55 .u64 (List.replicate 8 0) ∧ Below w.heap.size w wr) (fun j _ => 8 - (intOf j).toNat)
      case atStart => exact ⟨0, by omega, rfl, HRA.out, HRB.out, HBEL.out⟩
      case round =>
        obtain ⟨i, hi, rfl, hra, hrb, hbel⟩ := hrel
        by_cases h8 : i < 8
        · obtain ⟨v, hv, hix⟩ := idx8 s.a s.b s.c s.d s.e s.f s.g s.h h8
          obtain ⟨l, hl⟩ : ∃ l, l = s0.list.getD i 0 := ⟨_, rfl⟩
          have hat := hra.cell (mix_at s0.list s.list h8)
          rw [← hl] at hat
          have hvd : s.list.getD i 0 = v := by rw [List.getD_eq_getElem?_getD]; exact congrArg (·.getD 0) hv
          have hset := hra.set i (add64 (s0.list.getD i 0) (s.list.getD i 0))
          rw [mix_next _ _ h8, hvd, ← hl] at hset
          have hfr := hra.free i
          have b8 : (i : Int) < 8 := by omega
          have HSET := Lib.hid hset
          have HRB2 := Lib.hid hrb
          have HBEL2 := Lib.hid hbel
          have HU := Lib.hid u64_wrap
          clear hv hvd hl hset hra hrb hbel
          go_wp2_with fail
          refine ⟨⟨i + 1, by omega, by go_num, HSET.out, ?_, ?_⟩, by simp [intOf]; omega⟩
          · exact (Below.heap_setCell wr _ _ _ (by intro h; have h' : w.heap.size + 1 = w.heap.size := h; omega)).trans HRB2.out
          · have h := HBEL2.out.setCell (p := ⟨w.heap.size, i, none⟩) (Nat.le_refl _) (.int .u64 (add64 l v))
            exact ⟨h.os, h.tape, h.output, h.size, h.block⟩
        · obtain rfl : i = 8 := by omega
          have h8' : ((8 : Nat) : Int) = 8 := rfl
          rw [h8']
          have e8 : mix s0.list s.list 8 = (comp512 s0 bs).list := by
            unfold comp512
            rw [← HST.out]
            rfl
          rw [e8] at hra
          have HRA3 := Lib.hid hra
          have HRB3 := Lib.hid hrb
          have HFIN := Lib.hid (setRow_irow (ys := (comp512 s0 bs).list) hrb)
          have HBF := Lib.hid (below_setRow hbel (Nat.le_succ _) ((comp512 s0 bs).list.map (Value.int .u64)).toArray)
          clear h8' e8 hra hrb hbel hi h8
          go_wp2_with (first
            | (refine wpList_load_irow rfl 55 (.tmp 2) rfl (g := w.heap.size) (t := 55) (k := .u64) (xs := (comp512 s0 bs).list) rfl HRA3.out Tryd.underlying55 info_8 ?_)
            | (refine wpList_store_irow rfl 55 (.tmp 4) (.tmp 124) rfl (g := w.heap.size + 1) (t := 55) (k := .u64) (xs := List.replicate 8 0) (ys := (comp512 s0 bs).list) rfl rfl HRB3.out info_8 rfl ?_))
          refine bodyPost_ret (v := .agg ((comp512 s0 bs).list.map (Value.int .u64)).toArray) ?_ rfl ⟨rfl, HBF.out⟩
          obtain ⟨fr, hrw⟩ : ∃ fr, ((wr.setRow (w.heap.size + 1) ((comp512 s0 bs).list.map (Value.int .u64)).toArray)).heap[w.heap.size + 1]? = some (.cells ((comp512 s0 bs).list.map (Value.int .u64)).toArray 55 fr) := ⟨_, HFIN.out⟩
          exact results_cell_row Tryd.results38 _ _ (w.heap.size + 1) 55 ((comp512 s0 bs).list.map (Value.int .u64)).toArray fr _ rfl hrw Tryd.underlying55 rfl info_8
end Go.Proofs.YtpcopimbnbmkmaaDoor.S5

/-
  hash.kind256, walked. Conditions: the roots are laid.
-/
namespace Go.Proofs.YtpcopimbnbmkmaaDoor
open Go.RowKit

/-- Block g holds these values, and may be written. -/
def VRow (w : World) (g : Nat) (t : TypeId) (vs : List Value) : Prop := w.heap[g]? = some (.cells vs.toArray t (0, 0))
section
variable {w w' : World} {g : Nat} {t : TypeId} {vs : List Value}
theorem VRow.lt (h : VRow w g t vs) : g < w.heap.size := (Array.getElem?_eq_some_iff.1 h).1
theorem VRow.cell (h : VRow w g t vs) {i : Nat} {z : Value} (hi : vs[i]? = some z) : w.cell? ⟨g, i, none⟩ = some z := by
  rw [cell_of_row w g i _ _ _ h]
  simp [hi]
theorem VRow.free (h : VRow w g t vs) (i : Nat) : w.frozen? ⟨g, i, none⟩ = false := by
  unfold VRow at h
  simp [World.frozen?, h]
theorem VRow.set (h : VRow w g t vs) (i : Nat) (z : Value) : VRow (w.setCell ⟨g, i, none⟩ z) g t (vs.set i z) := by
  unfold VRow at h ⊢
  simp [World.setCell, Array.getElem?_modify, h]
theorem VRow.below {B : Nat} (h : VRow w g t vs) (hb : Below B w w') (hg : g < B) : VRow w' g t vs := (hb.block g hg).trans h
theorem VRow.new (w : World) (t : TypeId) (vs : List Value) : VRow (w.alloc (.cells vs.toArray t)) w.heap.size t vs := heap_alloc_new w _
theorem VRow.setRow (h : VRow w g t vs) (us : List Value) : VRow (w.setRow g us.toArray) g t us := by
  unfold VRow at h ⊢
  simp [World.setRow, Array.getElem?_modify, h]
end
theorem wpList_load_vrow {ops : Array Oper} {rest : List Oper} {op : Oper} {a : Act} {w : World} {Q : Exit → Act → World → Prop} (hgd : op.guard = none) (ty : TypeId) (x : Operand) (ho : op.op = .load ty x)
    {g : Nat} {t : TypeId} {vs : List Value} {fs : Array Field} (hx : a.eval x = .pointer (some ⟨g, 0, none⟩)) (h : VRow w g t vs) (hu : Tryd.prog.underlying ty = some (.struct fs)) (hi : (Tryd.prog.info? ty).map (·.size) = some vs.length)
    (hn : wpList Tryd.prog ops Q rest (a.put op.dst (.agg vs.toArray)) w) : wpList Tryd.prog ops Q (op :: rest) a w :=
  wpList_load_row hgd ty x ho g hx t vs.toArray (0, 0) (.struct fs) h hu rfl (by rw [hi, List.size_toArray]) hn
theorem wpList_store_vrow {ops : Array Oper} {rest : List Oper} {op : Oper} {a : Act} {w : World} {Q : Exit → Act → World → Prop} (hgd : op.guard = none) (ty : TypeId) (x y : Operand) (ho : op.op = .store ty x y)
    {g : Nat} {t : TypeId} {vs us : List Value} (hx : a.eval x = .pointer (some ⟨g, 0, none⟩)) (hy : a.eval y = .agg us.toArray) (h : VRow w g t vs) (hi : (Tryd.prog.info? ty).map (·.size) = some us.length) (hl : vs.length = us.length) (h1 : us.toArray.all (·.oneCell') = true)
    (hn : wpList Tryd.prog ops Q rest (a.put op.dst undef) (w.setRow g us.toArray)) : wpList Tryd.prog ops Q (op :: rest) a w :=
  wpList_plain hgd fun K hK => by
    unfold Oper.wp execOp
    have hst : (Instr.storeAt ty (.pointer (some ⟨g, 0, none⟩)) (.agg us.toArray)).run Tryd.prog w = .ok () (w.setRow g us.toArray) := by
      simp only [Instr.storeAt, Instr.sureAddr, Sem.run_bind, Sem.run_pure, Result.andThen_ok]
      exact run_storeVar_row w g t ty _ _ h (by rw [hi]; simp) (by simp [hl]) h1
    simp only [ho, hx, hy, hst, Sem.run_bind, Sem.run_pure, Result.andThen_ok]
    exact hK _ _ hn

def s512 : List Int := [0x6a09e667f3bcc908, 0xbb67ae8584caa73b, 0x3c6ef372fe94f82b, 0xa54ff53a5f1d36f1, 0x510e527fade682d1, 0x9b05688c2b3e6c1f, 0x1f83d9abfb41bd6b, 0x5be0cd19137e2179]
/-- The square roots lie in the program's memory. -/
def RootIs (w : World) : Prop := 0 < w.heap.size ∧ ∀ (t : Nat) (k : Int), s512[t]? = some k → w.cell? ⟨0, t, none⟩ = some (.int .u64 k)
theorem RootIs.below {w w' : World} {B : Nat} (h : RootIs w) (hb : Below B w w') (hB : 0 < B) : RootIs w' := by
  refine ⟨Nat.lt_of_lt_of_le h.1 hb.size, fun t k hk => ?_⟩
  exact (hb.cell (p := ⟨0, t, none⟩) hB).trans (h.2 t k hk)

theorem info_kind : (Tryd.prog.info? 76).map (·.size) = some 10 := by kernel_rfl
/-- What kind256 gives, when i words are in. -/
def kRow (i : Nat) : List Value := .int .i64 64 :: ((List.range 8).map (fun k => .int .u32 (if k < i then h256.getD k 0 else 0)) ++ [.func (.func 43) #[] #[]])
def zRow : List Value := [.int .i64 0, .int .u32 0, .int .u32 0, .int .u32 0, .int .u32 0, .int .u32 0, .int .u32 0, .int .u32 0, .int .u32 0, .nilFunc]
def k0Row : List Value := [.int .i64 64, .int .u32 0, .int .u32 0, .int .u32 0, .int .u32 0, .int .u32 0, .int .u32 0, .int .u32 0, .int .u32 0, .func (.func 43) #[] #[]]
theorem k0Row_is : k0Row = kRow 0 := rfl
theorem k0Row_one : k0Row.toArray.all (·.oneCell') = true := by simp [k0Row, Value.oneCell']
theorem kRow_one : (kRow 8).toArray.all (·.oneCell') = true := by simp [kRow, Value.oneCell', List.range_succ]
theorem kRow_next {i : Nat} (hi : i < 8) : (kRow i).set (1 + i) (.int .u32 (h256.getD i 0)) = kRow (i + 1) := by
  obtain rfl | rfl | rfl | rfl | rfl | rfl | rfl | rfl : i = 0 ∨ i = 1 ∨ i = 2 ∨ i = 3 ∨ i = 4 ∨ i = 5 ∨ i = 6 ∨ i = 7 := by omega
  all_goals rfl
theorem kRow_at {i : Nat} (hi : i < 8) : (kRow i)[1 + i]? = some (.int .u32 0) := by
  obtain rfl | rfl | rfl | rfl | rfl | rfl | rfl | rfl : i = 0 ∨ i = 1 ∨ i = 2 ∨ i = 3 ∨ i = 4 ∨ i = 5 ∨ i = 6 ∨ i = 7 := by omega
  all_goals rfl
theorem root8 {i : Nat} (hi : i < 8) : ∃ v, v / 4294967296 = h256.getD i 0 ∧ 0 ≤ v / 4294967296 ∧ v / 4294967296 < 4294967296 ∧ ∀ w, (Instr.index 55 (.agg #[.int .u64 0x6a09e667f3bcc908, .int .u64 0xbb67ae8584caa73b, .int .u64 0x3c6ef372fe94f82b, .int .u64 0xa54ff53a5f1d36f1, .int .u64 0x510e527fade682d1, .int .u64 0x9b05688c2b3e6c1f, .int .u64 0x1f83d9abfb41bd6b, .int .u64 0x5be0cd19137e2179]) (.int .i64 i)).run Tryd.prog w = .ok (.int .u64 v) w := by
  obtain rfl | rfl | rfl | rfl | rfl | rfl | rfl | rfl : i = 0 ∨ i = 1 ∨ i = 2 ∨ i = 3 ∨ i = 4 ∨ i = 5 ∨ i = 6 ∨ i = 7 := by omega
  · exact ⟨0x6a09e667f3bcc908, rfl, by decide, by decide, fun w => by kernel_rfl⟩
  · exact ⟨0xbb67ae8584caa73b, rfl, by decide, by decide, fun w => by kernel_rfl⟩
  · exact ⟨0x3c6ef372fe94f82b, rfl, by decide, by decide, fun w => by kernel_rfl⟩
  · exact ⟨0xa54ff53a5f1d36f1, rfl, by decide, by decide, fun w => by kernel_rfl⟩
  · exact ⟨0x510e527fade682d1, rfl, by decide, by decide, fun w => by kernel_rfl⟩
  · exact ⟨0x9b05688c2b3e6c1f, rfl, by decide, by decide, fun w => by kernel_rfl⟩
  · exact ⟨0x1f83d9abfb41bd6b, rfl, by decide, by decide, fun w => by kernel_rfl⟩
  · exact ⟨0x5be0cd19137e2179, rfl, by decide, by decide, fun w => by kernel_rfl⟩
set_option maxRecDepth 100000 in
set_option maxHeartbeats 3200000 in
theorem kind256_any (w : World) (hroot : RootIs w) :
    Calls Tryd.prog 37 #[] w fun e w' => e = .returned (.agg (kRow 8).toArray) ∧ Below w.heap.size w w' := by
  have k0 := hroot.2 0 _ rfl
  have k1 := hroot.2 1 _ rfl
  have k2 := hroot.2 2 _ rfl
  have k3 := hroot.2 3 _ rfl
  have k4 := hroot.2 4 _ rfl
  have k5 := hroot.2 5 _ rfl
  have k6 := hroot.2 6 _ rfl
  have k7 := hroot.2 7 _ rfl
  have hg := hroot.1
  have HR := Lib.hid hroot
  clear hroot
  go_enter Tryd.func37, Tryd.ntmps37
  have r0 := VRow.new w 76 zRow
  have r1 := VRow.new (w.alloc (.cells zRow.toArray 76)) 76 zRow
  have hs1 : (w.alloc (.cells zRow.toArray 76)).heap.size = w.heap.size + 1 := by simp
  rw [hs1] at r1
  have R0 := Lib.hid r0
  have R1 := Lib.hid r1
  clear r0 r1 hs1
  have rk := R1.out.setRow k0Row
  rw [k0Row_is] at rk
  have b1 : Below w.heap.size w (((w.alloc (.cells zRow.toArray 76)).alloc (.cells zRow.toArray 76)).setRow (w.heap.size + 1) k0Row.toArray) := below_setRow (((Below.refl _ w).alloc (Nat.le_refl _) _).alloc (by simp) _) (Nat.le_succ _) _
  have rz : VRow (((w.alloc (.cells zRow.toArray 76)).alloc (.cells zRow.toArray 76)).setRow (w.heap.size + 1) k0Row.toArray) w.heap.size 76 zRow := R0.out.below (below_setRow ((Below.refl (w.heap.size + 1) _).alloc (by simp) _) (Nat.le_refl _) _) (Nat.lt_succ_self _)
  have hr2 := HR.out.below b1 hg
  have m0 : (((w.alloc (.cells #[.int .i64 0, .int .u32 0, .int .u32 0, .int .u32 0, .int .u32 0, .int .u32 0, .int .u32 0, .int .u32 0, .int .u32 0, .nilFunc] 76)).alloc (.cells #[.int .i64 0, .int .u32 0, .int .u32 0, .int .u32 0, .int .u32 0, .int .u32 0, .int .u32 0, .int .u32 0, .int .u32 0, .nilFunc] 76)).setRow (w.heap.size + 1) k0Row.toArray).cell? ⟨0, 0, none⟩ = some (.int .u64 0x6a09e667f3bcc908) := hr2.2 0 _ rfl
  have m1 : (((w.alloc (.cells #[.int .i64 0, .int .u32 0, .int .u32 0, .int .u32 0, .int .u32 0, .int .u32 0, .int .u32 0, .int .u32 0, .int .u32 0, .nilFunc] 76)).alloc (.cells #[.int .i64 0, .int .u32 0, .int .u32 0, .int .u32 0, .int .u32 0, .int .u32 0, .int .u32 0, .int .u32 0, .int .u32 0, .nilFunc] 76)).setRow (w.heap.size + 1) k0Row.toArray).cell? ⟨0, 1, none⟩ = some (.int .u64 0xbb67ae8584caa73b) := hr2.2 1 _ rfl
  have m2 : (((w.alloc (.cells #[.int .i64 0, .int .u32 0, .int .u32 0, .int .u32 0, .int .u32 0, .int .u32 0, .int .u32 0, .int .u32 0, .int .u32 0, .nilFunc] 76)).alloc (.cells #[.int .i64 0, .int .u32 0, .int .u32 0, .int .u32 0, .int .u32 0, .int .u32 0, .int .u32 0, .int .u32 0, .int .u32 0, .nilFunc] 76)).setRow (w.heap.size + 1) k0Row.toArray).cell? ⟨0, 2, none⟩ = some (.int .u64 0x3c6ef372fe94f82b) := hr2.2 2 _ rfl
  have m3 : (((w.alloc (.cells #[.int .i64 0, .int .u32 0, .int .u32 0, .int .u32 0, .int .u32 0, .int .u32 0, .int .u32 0, .int .u32 0, .int .u32 0, .nilFunc] 76)).alloc (.cells #[.int .i64 0, .int .u32 0, .int .u32 0, .int .u32 0, .int .u32 0, .int .u32 0, .int .u32 0, .int .u32 0, .int .u32 0, .nilFunc] 76)).setRow (w.heap.size + 1) k0Row.toArray).cell? ⟨0, 3, none⟩ = some (.int .u64 0xa54ff53a5f1d36f1) := hr2.2 3 _ rfl
  have m4 : (((w.alloc (.cells #[.int .i64 0, .int .u32 0, .int .u32 0, .int .u32 0, .int .u32 0, .int .u32 0, .int .u32 0, .int .u32 0, .int .u32 0, .nilFunc] 76)).alloc (.cells #[.int .i64 0, .int .u32 0, .int .u32 0, .int .u32 0, .int .u32 0, .int .u32 0, .int .u32 0, .int .u32 0, .int .u32 0, .nilFunc] 76)).setRow (w.heap.size + 1) k0Row.toArray).cell? ⟨0, 4, none⟩ = some (.int .u64 0x510e527fade682d1) := hr2.2 4 _ rfl
  have m5 : (((w.alloc (.cells #[.int .i64 0, .int .u32 0, .int .u32 0, .int .u32 0, .int .u32 0, .int .u32 0, .int .u32 0, .int .u32 0, .int .u32 0, .nilFunc] 76)).alloc (.cells #[.int .i64 0, .int .u32 0, .int .u32 0, .int .u32 0, .int .u32 0, .int .u32 0, .int .u32 0, .int .u32 0, .int .u32 0, .nilFunc] 76)).setRow (w.heap.size + 1) k0Row.toArray).cell? ⟨0, 5, none⟩ = some (.int .u64 0x9b05688c2b3e6c1f) := hr2.2 5 _ rfl
  have m6 : (((w.alloc (.cells #[.int .i64 0, .int .u32 0, .int .u32 0, .int .u32 0, .int .u32 0, .int .u32 0, .int .u32 0, .int .u32 0, .int .u32 0, .nilFunc] 76)).alloc (.cells #[.int .i64 0, .int .u32 0, .int .u32 0, .int .u32 0, .int .u32 0, .int .u32 0, .int .u32 0, .int .u32 0, .int .u32 0, .nilFunc] 76)).setRow (w.heap.size + 1) k0Row.toArray).cell? ⟨0, 6, none⟩ = some (.int .u64 0x1f83d9abfb41bd6b) := hr2.2 6 _ rfl
  have m7 : (((w.alloc (.cells #[.int .i64 0, .int .u32 0, .int .u32 0, .int .u32 0, .int .u32 0, .int .u32 0, .int .u32 0, .int .u32 0, .int .u32 0, .nilFunc] 76)).alloc (.cells #[.int .i64 0, .int .u32 0, .int .u32 0, .int .u32 0, .int .u32 0, .int .u32 0, .int .u32 0, .int .u32 0, .int .u32 0, .nilFunc] 76)).setRow (w.heap.size + 1) k0Row.toArray).cell? ⟨0, 7, none⟩ = some (.int .u64 0x5be0cd19137e2179) := hr2.2 7 _ rfl
  have HRK := Lib.hid rk
  have HB1 := Lib.hid b1
  have HRZ := Lib.hid rz
  clear hr2 rk b1 rz
  go_wp2_with (first
    | (refine wpList_store_vrow rfl 76 (.tmp 1) (.tmp 4) rfl (g := w.heap.size + 1) (t := 76) (vs := zRow) (us := k0Row) rfl rfl R1.out info_kind rfl k0Row_one ?_))
  clear k0 k1 k2 k3 k4 k5 k6 k7 m0 m1 m2 m3 m4 m5 m6 m7
  go_loopw [6] (fun j wr => ∃ i : Nat, i ≤ 8 ∧ j = .int .i64 i ∧ VRow wr (w.heap.size + 1) 76 (kRow i) ∧ VRow wr w.heap.size 76 zRow ∧ Below w.heap.size w wr) (fun j _ => 8 - (intOf j).toNat)
  case atStart => exact ⟨0, by omega, rfl, HRK.out, HRZ.out, HB1.out⟩
  case round =>
    obtain ⟨i, hi, rfl, hra, hrb, hbel⟩ := hrel
    by_cases h8 : i < 8
    · obtain ⟨v, hv, hv0, hv1, hix⟩ := root8 h8
      have hat := hra.cell (kRow_at h8)
      have hset := hra.set (1 + i) (.int .u32 (h256.getD i 0))
      rw [kRow_next h8, ← hv] at hset
      have hfr := hra.free (1 + i)
      have b8 : (i : Int) < 8 := by omega
      have hm : v / 4294967296 % 4294967296 = v / 4294967296 := Int.emod_eq_of_lt hv0 hv1
      have HSET := Lib.hid hset
      have HRB2 := Lib.hid hrb
      have HBEL2 := Lib.hid hbel
      clear hv hset hra hrb hbel
      go_wp2_with fail
      refine ⟨⟨i + 1, by omega, by go_num, HSET.out, ?_, ?_⟩, by simp [intOf]; omega⟩
      · exact (Below.heap_setCell wr _ _ _ (by intro h; have h' : w.heap.size = w.heap.size + 1 := h; omega)).trans HRB2.out
      · have h := HBEL2.out.setCell (p := ⟨w.heap.size + 1, 1 + i, none⟩) (Nat.le_succ _) (.int .u32 (v / 4294967296))
        exact ⟨h.os, h.tape, h.output, h.size, h.block⟩
    · obtain rfl : i = 8 := by omega
      have h8' : ((8 : Nat) : Int) = 8 := rfl
      rw [h8']
      have HRA3 := Lib.hid hra
      have HRB3 := Lib.hid hrb
      have HFIN := Lib.hid (hrb.setRow (kRow 8))
      have HBF := Lib.hid (below_setRow hbel (Nat.le_refl _) (kRow 8).toArray)
      clear h8' hra hrb hbel hi h8
      go_wp2_with (first
        | (refine wpList_load_vrow rfl 76 (.tmp 1) rfl (g := w.heap.size + 1) (t := 76) (vs := kRow 8) rfl HRA3.out Tryd.underlying76 info_kind ?_)
        | (refine wpList_store_vrow rfl 76 (.tmp 0) (.tmp 17) rfl (g := w.heap.size) (t := 76) (vs := zRow) (us := kRow 8) rfl rfl HRB3.out info_kind rfl kRow_one ?_))
      refine bodyPost_ret (v := .agg (kRow 8).toArray) ?_ rfl ⟨rfl, HBF.out⟩
      obtain ⟨fr, hrw⟩ : ∃ fr, (wr.setRow w.heap.size (kRow 8).toArray).heap[w.heap.size]? = some (.cells (kRow 8).toArray 76 fr) := ⟨_, HFIN.out⟩
      exact results_cell_row Tryd.results37 _ _ w.heap.size 76 (kRow 8).toArray fr _ rfl hrw Tryd.underlying76 rfl info_kind
end Go.Proofs.YtpcopimbnbmkmaaDoor
