/-
  WireWrites: for every list of acts the writer has written what the reference says, behind each act. Conditions: the list's bounds that the reading gives.
-/
import Derived.Test.YtelbcmcffjpdoaaWrite
import Derived.Deep.RegionHeld3
import Derived.Deep.RegionWith
import Derived.Deep.DeepCutAuto
namespace Go.Proofs.Ytelbcmcffjpdoaa
open Go.RowKit

/-- An act, as it lies in memory. -/
structure Ac where
  kd : Int
  n : Int
  b : Value
  bs : List UInt8

/-- The acts that lie from an address on, below block B. -/
def Acts (w : World) (B b off : Nat) (al : List Ac) : Prop :=
  b < B ∧ ∀ i (h : i < al.length), w.cell? ⟨b, off + i * 3, none⟩ = some (.int .i64 al[i].kd) ∧ w.cell? ⟨b, off + i * 3 + 1, none⟩ = some (.int .u64 al[i].n) ∧ w.cell? ⟨b, off + i * 3 + 2, none⟩ = some al[i].b ∧
    0 ≤ al[i].n ∧ al[i].n < 18446744073709551616 ∧ Byt w B al[i].b al[i].bs

theorem Acts.below {w w' : World} {B b off : Nat} {al : List Ac} (h : Acts w B b off al) (hb : Below B w w') : Acts w' B b off al := by
  obtain ⟨h1, h2⟩ := h
  refine ⟨h1, fun i hi => ?_⟩
  obtain ⟨a1, a2, a3, a4, a5, a6⟩ := h2 i hi
  exact ⟨(hb.cell (p := ⟨b, _, none⟩) h1).trans a1, (hb.cell (p := ⟨b, _, none⟩) h1).trans a2, (hb.cell (p := ⟨b, _, none⟩) h1).trans a3, a4, a5, a6.below hb⟩

theorem Wr.drew {w : World} {g base : Nat} {v : Value} {xs : List UInt8} (h : Wr w g base v xs) : Wr w.drew g base v xs := h
theorem Byt.drew {w : World} {B : Nat} {v : Value} {xs : List UInt8} (h : Byt w B v xs) : Byt w.drew B v xs := h

/-- Both have written zs behind an act. -/
def Wrote1 (w : World) (g base : Nat) (zs : List UInt8) (e : Ending) (w' : World) : Prop :=
  ∃ v' A c, e = .returned (.slice A zs.length c) ∧ Two w' g base v' (.slice A zs.length c) zs zs ∧ Turns (fun k => k = g ∨ base ≤ k) w w'

/-- Behind j acts both have written the same. -/
def WRel (w : World) (g base j : Nat) (o : Value) (wr : World) : Prop :=
  ∃ v xs, xs.length ≤ 309 * j ∧ Two wr g base v o xs xs ∧ Below w.heap.size w wr ∧ base ≤ wr.heap.size

theorem Two.below {w w' : World} {g base : Nat} {v o : Value} {xs zs : List UInt8} (h : Two w g base v o xs zs) (hb : Below w.heap.size w w') : Two w' g base v o xs zs :=
  ⟨h.1.turns (Turns.of_below (S := fun _ => False) hb) (fun h => h) (fun _ _ h => h), own_turns h.2.1 (Turns.of_below (S := fun _ => False) hb) (fun _ _ h => h), h.2.2⟩

theorem wrel_next {w w2 w3 : World} {g base j : Nat} {v o : Value} {zs : List UInt8} (hz : zs.length ≤ 309 * j + 309) (htwo : Two w2 g base v o zs zs) (hbel : Below w.heap.size w w2) (hb : Below w2.heap.size w2 w3) (hbase : base ≤ w2.heap.size) :
    WRel w g base (j + 1) o w3 :=
  ⟨v, zs, by omega, htwo.below hb, hbel.trans (hb.mono hbel.size), Nat.le_trans hbase hb.size⟩

set_option maxRecDepth 100000 in
set_option maxHeartbeats 1600000 in
theorem writes_some (b off len cap : Nat) (al : List Ac) (w : World) (hl : al.length = len) (_hm : len ≤ 9223372036854775807) (ha : Acts w w.heap.size b off al) :
    Calls Try.prog 3 #[.slice (some ⟨b, off, none⟩) len cap] w fun e w' => e = .returned (.bool true) ∧ Below w.heap.size w w' := by
  have HL := Lib.hid hl
  clear hl
  go_enter Try.func3, Try.ntmps3
  go_wp2_with fail
  refine (awake_any w).mono ?_
  rintro e w1 ⟨rfl, hb1⟩
  have hs1 := hb1.size
  go_wp2_with fail
  go_loopw [4, 5] (fun o x wr => ∃ j : Nat, j ≤ len ∧ j ≤ 40 ∧ x = .int .i64 j ∧ WRel w w1.heap.size (w1.heap.size + 1) j o wr) (fun _ x _ => len - (intOf x).toNat)
  case atStart =>
    refine ⟨0, Nat.zero_le _, by omega, rfl, .slice none 0 0, [], by simp, ⟨wr_new w1, World.ownsRow_nil _ _ _ _, fun k hk => by cases hk⟩, hb1.alloc hs1 _, by simp⟩
  case round =>
    obtain ⟨j, hj, hj40, rfl, v, xs, hxl, htwo, hbel, hbase⟩ := hrel
    by_cases hlt : j < len
    · by_cases h40 : j < 40
      · obtain ⟨a, hav⟩ : ∃ a, a = al[j]'(by have := HL.out; omega) := ⟨_, rfl⟩
        obtain ⟨a1, a2, a3, a4, a5, a6⟩ := (ha.below hbel).2 j (by have := HL.out; omega)
        rw [← hav] at a1 a2 a3 a4 a5 a6
        obtain ⟨kd, n, bv', bs⟩ := a
        simp only at a1 a2 a3 a4 a5 a6
        clear hav
        obtain ⟨A0, c0, rfl⟩ := a6.form
        have hbw := hbel.size
        obtain ⟨Ao, co, rfl⟩ := own_form htwo.2.1
        have hwr := write_any w1.heap.size (w1.heap.size + 1) w.heap.size v _ _ kd n xs xs bs wr a4 a5 htwo (by omega) (by omega) a6 hbw hs1 (by omega) hbase
        have hwr1 : Calls Try.prog 8 #[.pointer (some ⟨w1.heap.size, 0, none⟩), .slice Ao xs.length co, .agg #[.int .i64 kd, .int .u64 n, .slice A0 bs.length c0]] wr (Wrote1 wr w1.heap.size (w1.heap.size + 1) (xs ++ actB kd n bs)) := hwr
        have hul := actB_le kd n bs
        obtain ⟨zs, hzs⟩ : ∃ zs, zs = xs ++ actB kd n bs := ⟨_, rfl⟩
        have hzl : zs.length ≤ 309 * j + 309 := by rw [hzs, List.length_append]; omega
        rw [← hzs] at hwr1
        have HW := Lib.hid hwr1
        clear hwr hwr1 hzs hul htwo a6 hxl
        go_wp2_with fail
        refine HW.out.mono ?_
        rintro e w2 ⟨v2, A2, c2, rfl, htwo2, ht2⟩
        have hbel2 : Below w.heap.size w w2 := hbel.trans (ht2.below_of hbw (fun i hi h => by rcases h with h | h <;> omega))
        have hby2 := Byt.of_own htwo2.2.1
        have HT := Lib.hid htwo2
        clear htwo2 a3
        have hB := Lib.hid hby2
        clear hby2
        have b1 : w2.cell? ⟨b, off + j * 3, none⟩ = some (.int .i64 kd) := (hbel2.cell (p := ⟨b, _, none⟩) ha.1).trans ((hbel.cell (p := ⟨b, _, none⟩) ha.1).symm.trans a1)
        have b2 : w2.cell? ⟨b, off + j * 3 + 1, none⟩ = some (.int .u64 n) := (hbel2.cell (p := ⟨b, _, none⟩) ha.1).trans ((hbel.cell (p := ⟨b, _, none⟩) ha.1).symm.trans a2)
        have hbz : w1.heap.size + 1 ≤ w2.heap.size := Nat.le_trans hbase ht2.size
        have hb2 : Below w2.heap.size w2 w2.drew := (Below.refl _ _).drew
        by_cases h5 : kd = 5
        · subst h5
          obtain ⟨ts, hts⟩ : ∃ ts, ts = sizeB n := ⟨_, rfl⟩
          have hlen := length_eq n (ts.length : Int) (by rw [hts, sizeB_length])
          have hsize : ∀ W, Calls Try.prog 12 #[.int .u64 n] W (Fresh W ts) := fun W => by rw [hts]; exact rsize_any n W a4 a5
          have HLen := Lib.hid hlen
          have HSz := Lib.hid hsize
          clear hts hlen hsize
          go_wp2_with fail
          refine wp_region_held_drew (S := (fun w' => w'.cell? ⟨b, off + j * 3, none⟩ = some (.int .i64 5) ∧ w'.cell? ⟨b, off + j * 3 + 1, none⟩ = some (.int .u64 n))) (by kernel_rfl) ?_ (fun hHeld => ?_)
          · exact ⟨b1, b2⟩
          refine wpAnyH_take (i := 1) (oi := { dst := some 25, op := Go.Op.move (Go.Operand.tmp 4), type := 24, pos := "law.go:99", after := #[], guard := none }) (v := ?pv1) rfl (by kernel_rfl) (by kernel_rfl) (by kernel_rfl) (fun _ _ _ h => h) (Or.inl ⟨by rfl, ?py1⟩) (by assumption) ?pr1
          case py1 => (intro w hSw; (try dsimp only at hSw); go_simp; try (with_reducible rfl))
          case pr1 =>
          try simp only [Act.put, List.setIfInBounds_toArray, List.set_cons_zero, List.set_cons_succ]
          refine wpAnyH_ready (rs := [0]) (by kernel_rfl) (by simp) ?_
          refine AllReadyH.cons (o := { dst := some 24, op := Go.Op.call { callee := Go.Callee.value (Go.Operand.func 10), args := #[Go.Operand.tmp 3], argTypes := #[26] }, type := 24, pos := "law.go:99", after := #[], guard := none }) rfl (fun K hK => ?_) AllReadyH.nil
          go_simp
          refine (out_any _ _ _ _ _ HT.out.1.drew (by omega)).mono ?_
          rintro e w3 ⟨A3, c3, rfl, hown3, hb3⟩
          have b1' := cell_later (w := w2.drew) hb3 b1
          have b2' := cell_later (w := w2.drew) hb3 b2
          go_simp
          refine hK.out _ _ ?_ (fun hHeld => ?_)
          · exact ⟨b1', b2'⟩
          clear hK K
          try simp only [Act.put, List.setIfInBounds_toArray, List.set_cons_zero, List.set_cons_succ]
          refine wpAnyH_ready (rs := [2]) (by kernel_rfl) (by simp) ?_
          refine AllReadyH.cons (o := { dst := some 26, op := Go.Op.call { callee := Go.Callee.value (Go.Operand.func 9), args := #[Go.Operand.tmp 24, Go.Operand.tmp 25], argTypes := #[24, 24] }, type := 4, pos := "law.go:99", after := #[{ on := 0, ground := Go.Ground.data }, { on := 1, ground := Go.Ground.data }, { on := 0, ground := Go.Ground.chain }], guard := none }) rfl (fun K hK => ?_) AllReadyH.nil
          go_simp
          refine (equal_yes _ _ _ _ zs zs _ (Byt.of_own hown3) (hB.out.drew.below hb3) rfl).mono ?_
          rintro e w4 ⟨rfl, rfl⟩
          go_simp
          refine hK.out _ _ ?_ (fun hHeld => ?_)
          · exact ⟨b1', b2'⟩
          clear hK K
          try simp only [Act.put, List.setIfInBounds_toArray, List.set_cons_zero, List.set_cons_succ]
          refine wpAnyH_take (i := 3) (oi := { dst := some 27, op := Go.Op.unOp Go.UnOp.not 4 (Go.Operand.tmp 26), type := 4, pos := "law.go:99", after := #[{ on := 2, ground := Go.Ground.data }], guard := none }) (v := ?pv3) rfl (by kernel_rfl) (by kernel_rfl) (by kernel_rfl) (fun _ _ _ h => h) (Or.inl ⟨by rfl, ?py3⟩) (by assumption) ?pr3
          case py3 => (intro w hSw; (try dsimp only at hSw); go_simp; try (with_reducible rfl))
          case pr3 =>
          try simp only [Act.put, List.setIfInBounds_toArray, List.set_cons_zero, List.set_cons_succ]
          refine wpAnyH_take (i := 4) (oi := { dst := some 28, op := Go.Op.move (Go.Operand.tmp 27), type := 4, pos := "law.go:99", after := #[{ on := 3, ground := Go.Ground.data }, { on := 2, ground := Go.Ground.chain }], guard := none }) (v := ?pv4) rfl (by kernel_rfl) (by kernel_rfl) (by kernel_rfl) (fun _ _ _ h => h) (Or.inl ⟨by rfl, ?py4⟩) (by assumption) ?pr4
          case py4 => (intro w hSw; (try dsimp only at hSw); go_simp; try (with_reducible rfl))
          case pr4 =>
          try simp only [Act.put, List.setIfInBounds_toArray, List.set_cons_zero, List.set_cons_succ]
          refine wpAnyH_take (i := 5) (oi := { dst := some 29, op := Go.Op.move (Go.Operand.tmp 0), type := 22, pos := "law.go:99", after := #[{ on := 4, ground := Go.Ground.guard }], guard := some (4, false) }) (v := ?pv5) rfl (by kernel_rfl) (by kernel_rfl) (by kernel_rfl) (fun _ _ _ h => h) (Or.inl ⟨by rfl, ?py5⟩) (by assumption) ?pr5
          case py5 => (intro w hSw; (try dsimp only at hSw); go_simp; try (with_reducible rfl))
          case pr5 =>
          try simp only [Act.put, List.setIfInBounds_toArray, List.set_cons_zero, List.set_cons_succ]
          refine wpAnyH_take (i := 6) (oi := { dst := some 30, op := Go.Op.move (Go.Operand.tmp 5), type := 3, pos := "law.go:99", after := #[{ on := 4, ground := Go.Ground.guard }], guard := some (4, false) }) (v := ?pv6) rfl (by kernel_rfl) (by kernel_rfl) (by kernel_rfl) (fun _ _ _ h => h) (Or.inl ⟨by rfl, ?py6⟩) (by assumption) ?pr6
          case py6 => (intro w hSw; (try dsimp only at hSw); go_simp; try (with_reducible rfl))
          case pr6 =>
          try simp only [Act.put, List.setIfInBounds_toArray, List.set_cons_zero, List.set_cons_succ]
          refine wpAnyH_take (i := 7) (oi := { dst := some 31, op := Go.Op.indexAddr 22 (Go.Operand.tmp 29) (Go.Operand.tmp 30), type := 0, pos := "law.go:99", after := #[{ on := 5, ground := Go.Ground.data }, { on := 6, ground := Go.Ground.data }, { on := 4, ground := Go.Ground.guard }], guard := some (4, false) }) (v := ?pv7) rfl (by kernel_rfl) (by kernel_rfl) (by kernel_rfl) (fun _ _ _ h => h) (Or.inl ⟨by rfl, ?py7⟩) (by assumption) ?pr7
          case py7 => (intro w hSw; (try dsimp only at hSw); go_simp; try (with_reducible rfl))
          case pr7 =>
          try simp only [Act.put, List.setIfInBounds_toArray, List.set_cons_zero, List.set_cons_succ]
          refine wpAnyH_take (i := 8) (oi := { dst := some 32, op := Go.Op.fieldAddr 31 (Go.Operand.tmp 31) 0, type := 0, pos := "law.go:99", after := #[{ on := 7, ground := Go.Ground.data }, { on := 4, ground := Go.Ground.guard }], guard := some (4, false) }) (v := ?pv8) rfl (by kernel_rfl) (by kernel_rfl) (by kernel_rfl) (fun _ _ _ h => h) (Or.inl ⟨by rfl, ?py8⟩) (by assumption) ?pr8
          case py8 => (intro w hSw; (try dsimp only at hSw); go_simp; try (with_reducible rfl))
          case pr8 =>
          try simp only [Act.put, List.setIfInBounds_toArray, List.set_cons_zero, List.set_cons_succ]
          refine wpAnyH_take (i := 9) (oi := { dst := some 33, op := Go.Op.load 3 (Go.Operand.tmp 32), type := 3, pos := "law.go:99", after := #[{ on := 8, ground := Go.Ground.data }, { on := 4, ground := Go.Ground.guard }], guard := some (4, false) }) (v := ?pv9) rfl (by kernel_rfl) (by kernel_rfl) (by kernel_rfl) (fun _ _ _ h => h) (Or.inl ⟨by rfl, ?py9⟩) (by assumption) ?pr9
          case py9 => (intro w hSw; (try dsimp only at hSw); go_simp; try (with_reducible rfl))
          case pr9 =>
          try simp only [Act.put, List.setIfInBounds_toArray, List.set_cons_zero, List.set_cons_succ]
          refine wpAnyH_take (i := 10) (oi := { dst := some 34, op := Go.Op.binOp Go.BinOp.eql 3 (Go.Operand.tmp 33) (Go.Operand.const (Go.Value.int Go.IntKind.i64 5)) 3, type := 4, pos := "law.go:99", after := #[{ on := 9, ground := Go.Ground.data }, { on := 4, ground := Go.Ground.guard }], guard := some (4, false) }) (v := ?pv10) rfl (by kernel_rfl) (by kernel_rfl) (by kernel_rfl) (fun _ _ _ h => h) (Or.inl ⟨by rfl, ?py10⟩) (by assumption) ?pr10
          case py10 => (intro w hSw; (try dsimp only at hSw); go_simp; try (with_reducible rfl))
          case pr10 =>
          try simp only [Act.put, List.setIfInBounds_toArray, List.set_cons_zero, List.set_cons_succ]
          refine wpAnyH_take (i := 11) (oi := { dst := some 35, op := Go.Op.move (Go.Operand.tmp 34), type := 4, pos := "law.go:99", after := #[{ on := 10, ground := Go.Ground.data }, { on := 4, ground := Go.Ground.chain }, { on := 4, ground := Go.Ground.guard }], guard := some (4, false) }) (v := ?pv11) rfl (by kernel_rfl) (by kernel_rfl) (by kernel_rfl) (fun _ _ _ h => h) (Or.inl ⟨by rfl, ?py11⟩) (by assumption) ?pr11
          case py11 => (intro w hSw; (try dsimp only at hSw); go_simp; try (with_reducible rfl))
          case pr11 =>
          try simp only [Act.put, List.setIfInBounds_toArray, List.set_cons_zero, List.set_cons_succ]
          refine wpAnyH_take (i := 12) (oi := { dst := some 36, op := Go.Op.move (Go.Operand.tmp 0), type := 22, pos := "law.go:99", after := #[{ on := 11, ground := Go.Ground.guard }], guard := some (11, true) }) (v := ?pv12) rfl (by kernel_rfl) (by kernel_rfl) (by kernel_rfl) (fun _ _ _ h => h) (Or.inl ⟨by rfl, ?py12⟩) (by assumption) ?pr12
          case py12 => (intro w hSw; (try dsimp only at hSw); go_simp; try (with_reducible rfl))
          case pr12 =>
          try simp only [Act.put, List.setIfInBounds_toArray, List.set_cons_zero, List.set_cons_succ]
          refine wpAnyH_take (i := 13) (oi := { dst := some 37, op := Go.Op.move (Go.Operand.tmp 5), type := 3, pos := "law.go:99", after := #[{ on := 11, ground := Go.Ground.guard }], guard := some (11, true) }) (v := ?pv13) rfl (by kernel_rfl) (by kernel_rfl) (by kernel_rfl) (fun _ _ _ h => h) (Or.inl ⟨by rfl, ?py13⟩) (by assumption) ?pr13
          case py13 => (intro w hSw; (try dsimp only at hSw); go_simp; try (with_reducible rfl))
          case pr13 =>
          try simp only [Act.put, List.setIfInBounds_toArray, List.set_cons_zero, List.set_cons_succ]
          refine wpAnyH_take (i := 14) (oi := { dst := some 38, op := Go.Op.indexAddr 22 (Go.Operand.tmp 36) (Go.Operand.tmp 37), type := 0, pos := "law.go:99", after := #[{ on := 12, ground := Go.Ground.data }, { on := 13, ground := Go.Ground.data }, { on := 11, ground := Go.Ground.guard }], guard := some (11, true) }) (v := ?pv14) rfl (by kernel_rfl) (by kernel_rfl) (by kernel_rfl) (fun _ _ _ h => h) (Or.inl ⟨by rfl, ?py14⟩) (by assumption) ?pr14
          case py14 => (intro w hSw; (try dsimp only at hSw); go_simp; try (with_reducible rfl))
          case pr14 =>
          try simp only [Act.put, List.setIfInBounds_toArray, List.set_cons_zero, List.set_cons_succ]
          refine wpAnyH_take (i := 15) (oi := { dst := some 39, op := Go.Op.fieldAddr 31 (Go.Operand.tmp 38) 1, type := 0, pos := "law.go:99", after := #[{ on := 14, ground := Go.Ground.data }, { on := 11, ground := Go.Ground.guard }], guard := some (11, true) }) (v := ?pv15) rfl (by kernel_rfl) (by kernel_rfl) (by kernel_rfl) (fun _ _ _ h => h) (Or.inl ⟨by rfl, ?py15⟩) (by assumption) ?pr15
          case py15 => (intro w hSw; (try dsimp only at hSw); go_simp; try (with_reducible rfl))
          case pr15 =>
          try simp only [Act.put, List.setIfInBounds_toArray, List.set_cons_zero, List.set_cons_succ]
          refine wpAnyH_take (i := 16) (oi := { dst := some 40, op := Go.Op.load 29 (Go.Operand.tmp 39), type := 29, pos := "law.go:99", after := #[{ on := 15, ground := Go.Ground.data }, { on := 11, ground := Go.Ground.guard }], guard := some (11, true) }) (v := ?pv16) rfl (by kernel_rfl) (by kernel_rfl) (by kernel_rfl) (fun _ _ _ h => h) (Or.inl ⟨by rfl, ?py16⟩) (by assumption) ?pr16
          case py16 => (intro w hSw; (try dsimp only at hSw); go_simp; try (with_reducible rfl))
          case pr16 =>
          try simp only [Act.put, List.setIfInBounds_toArray, List.set_cons_zero, List.set_cons_succ]
          refine wpAnyH_take (i := 18) (oi := { dst := some 42, op := Go.Op.move (Go.Operand.tmp 0), type := 22, pos := "law.go:99", after := #[{ on := 11, ground := Go.Ground.guard }], guard := some (11, true) }) (v := ?pv18) rfl (by kernel_rfl) (by kernel_rfl) (by kernel_rfl) (fun _ _ _ h => h) (Or.inl ⟨by rfl, ?py18⟩) (by assumption) ?pr18
          case py18 => (intro w hSw; (try dsimp only at hSw); go_simp; try (with_reducible rfl))
          case pr18 =>
          try simp only [Act.put, List.setIfInBounds_toArray, List.set_cons_zero, List.set_cons_succ]
          refine wpAnyH_take (i := 19) (oi := { dst := some 43, op := Go.Op.move (Go.Operand.tmp 5), type := 3, pos := "law.go:99", after := #[{ on := 11, ground := Go.Ground.guard }], guard := some (11, true) }) (v := ?pv19) rfl (by kernel_rfl) (by kernel_rfl) (by kernel_rfl) (fun _ _ _ h => h) (Or.inl ⟨by rfl, ?py19⟩) (by assumption) ?pr19
          case py19 => (intro w hSw; (try dsimp only at hSw); go_simp; try (with_reducible rfl))
          case pr19 =>
          try simp only [Act.put, List.setIfInBounds_toArray, List.set_cons_zero, List.set_cons_succ]
          refine wpAnyH_take (i := 20) (oi := { dst := some 44, op := Go.Op.indexAddr 22 (Go.Operand.tmp 42) (Go.Operand.tmp 43), type := 0, pos := "law.go:99", after := #[{ on := 18, ground := Go.Ground.data }, { on := 19, ground := Go.Ground.data }, { on := 11, ground := Go.Ground.guard }], guard := some (11, true) }) (v := ?pv20) rfl (by kernel_rfl) (by kernel_rfl) (by kernel_rfl) (fun _ _ _ h => h) (Or.inl ⟨by rfl, ?py20⟩) (by assumption) ?pr20
          case py20 => (intro w hSw; (try dsimp only at hSw); go_simp; try (with_reducible rfl))
          case pr20 =>
          try simp only [Act.put, List.setIfInBounds_toArray, List.set_cons_zero, List.set_cons_succ]
          refine wpAnyH_take (i := 21) (oi := { dst := some 45, op := Go.Op.fieldAddr 31 (Go.Operand.tmp 44) 1, type := 0, pos := "law.go:99", after := #[{ on := 20, ground := Go.Ground.data }, { on := 11, ground := Go.Ground.guard }], guard := some (11, true) }) (v := ?pv21) rfl (by kernel_rfl) (by kernel_rfl) (by kernel_rfl) (fun _ _ _ h => h) (Or.inl ⟨by rfl, ?py21⟩) (by assumption) ?pr21
          case py21 => (intro w hSw; (try dsimp only at hSw); go_simp; try (with_reducible rfl))
          case pr21 =>
          try simp only [Act.put, List.setIfInBounds_toArray, List.set_cons_zero, List.set_cons_succ]
          refine wpAnyH_take (i := 22) (oi := { dst := some 46, op := Go.Op.load 29 (Go.Operand.tmp 45), type := 29, pos := "law.go:99", after := #[{ on := 21, ground := Go.Ground.data }, { on := 11, ground := Go.Ground.guard }], guard := some (11, true) }) (v := ?pv22) rfl (by kernel_rfl) (by kernel_rfl) (by kernel_rfl) (fun _ _ _ h => h) (Or.inl ⟨by rfl, ?py22⟩) (by assumption) ?pr22
          case py22 => (intro w hSw; (try dsimp only at hSw); go_simp; try (with_reducible rfl))
          case pr22 =>
          try simp only [Act.put, List.setIfInBounds_toArray, List.set_cons_zero, List.set_cons_succ]
          refine wpAnyH_ready (rs := [17]) (by kernel_rfl) (by simp) ?_
          refine AllReadyH.cons (o := { dst := some 41, op := Go.Op.call { callee := Go.Callee.value (Go.Operand.func 11), args := #[Go.Operand.tmp 40], argTypes := #[29] }, type := 3, pos := "law.go:99", after := #[{ on := 16, ground := Go.Ground.data }, { on := 11, ground := Go.Ground.chain }, { on := 11, ground := Go.Ground.guard }], guard := some (11, true) }) rfl (fun K hK => ?_) AllReadyH.nil
          go_simp
          refine (HLen.out _).mono ?_
          rintro e w4 ⟨rfl, rfl⟩
          go_simp
          refine hK.out _ _ ?_ (fun hHeld => ?_)
          · exact ⟨b1', b2'⟩
          clear hK K
          try simp only [Act.put, List.setIfInBounds_toArray, List.set_cons_zero, List.set_cons_succ]
          refine wpAnyH_ready (rs := [23]) (by kernel_rfl) (by simp) ?_
          refine AllReadyH.cons (o := { dst := some 47, op := Go.Op.call { callee := Go.Callee.value (Go.Operand.func 12), args := #[Go.Operand.tmp 46], argTypes := #[29] }, type := 24, pos := "law.go:99", after := #[{ on := 22, ground := Go.Ground.data }, { on := 17, ground := Go.Ground.chain }, { on := 11, ground := Go.Ground.guard }], guard := some (11, true) }) rfl (fun K hK => ?_) AllReadyH.nil
          go_simp
          refine (HSz.out _).mono ?_
          rintro e w5 ⟨A5, c5, rfl, hown5, hb5⟩
          have b1'' := cell_later hb5 b1'
          have b2'' := cell_later hb5 b2'
          go_simp
          refine hK.out _ _ ?_ (fun hHeld => ?_)
          · exact ⟨b1'', b2''⟩
          clear hK K
          try simp only [Act.put, List.setIfInBounds_toArray, List.set_cons_zero, List.set_cons_succ]
          refine wpAnyH_take (i := 24) (oi := { dst := some 48, op := Go.Op.call { callee := Go.Callee.builtin Go.Builtin.len, args := #[Go.Operand.tmp 47], argTypes := #[24] }, type := 3, pos := "law.go:99", after := #[{ on := 23, ground := Go.Ground.data }, { on := 11, ground := Go.Ground.guard }], guard := some (11, true) }) (v := ?pv24) rfl (by kernel_rfl) (by kernel_rfl) (by kernel_rfl) (fun _ _ _ h => h) (Or.inl ⟨by rfl, ?py24⟩) (by assumption) ?pr24
          case py24 => (intro w hSw; (try dsimp only at hSw); go_simp; try (with_reducible rfl))
          case pr24 =>
          try simp only [Act.put, List.setIfInBounds_toArray, List.set_cons_zero, List.set_cons_succ]
          refine wpAnyH_take (i := 25) (oi := { dst := some 49, op := Go.Op.binOp Go.BinOp.neq 3 (Go.Operand.tmp 41) (Go.Operand.tmp 48) 3, type := 4, pos := "law.go:99", after := #[{ on := 17, ground := Go.Ground.data }, { on := 24, ground := Go.Ground.data }, { on := 11, ground := Go.Ground.guard }], guard := some (11, true) }) (v := ?pv25) rfl (by kernel_rfl) (by kernel_rfl) (by kernel_rfl) (fun _ _ _ h => h) (Or.inl ⟨by rfl, ?py25⟩) (by assumption) ?pr25
          case py25 => (intro w hSw; (try dsimp only at hSw); go_simp; try (with_reducible rfl))
          case pr25 =>
          try simp only [Act.put, List.setIfInBounds_toArray, List.set_cons_zero, List.set_cons_succ]
          refine wpAnyH_take (i := 26) (oi := { dst := some 50, op := Go.Op.pick (Go.Operand.tmp 35) (Go.Operand.tmp 49) (Go.Operand.const (Go.Value.bool false)), type := 4, pos := "law.go:99", after := #[{ on := 11, ground := Go.Ground.data }, { on := 25, ground := Go.Ground.data }, { on := 4, ground := Go.Ground.guard }], guard := some (4, false) }) (v := ?pv26) rfl (by kernel_rfl) (by kernel_rfl) (by kernel_rfl) (fun _ _ _ h => h) (Or.inl ⟨by rfl, ?py26⟩) (by assumption) ?pr26
          case py26 => (intro w hSw; (try dsimp only at hSw); go_simp; try (with_reducible rfl))
          case pr26 =>
          try simp only [Act.put, List.setIfInBounds_toArray, List.set_cons_zero, List.set_cons_succ]
          refine wpAnyH_take (i := 27) (oi := { dst := some 51, op := Go.Op.pick (Go.Operand.tmp 28) (Go.Operand.const (Go.Value.bool true)) (Go.Operand.tmp 50), type := 4, pos := "law.go:99", after := #[{ on := 4, ground := Go.Ground.data }, { on := 26, ground := Go.Ground.data }], guard := none }) (v := ?pv27) rfl (by kernel_rfl) (by kernel_rfl) (by kernel_rfl) (fun _ _ _ h => h) (Or.inl ⟨by rfl, ?py27⟩) (by assumption) ?pr27
          case py27 => (intro w hSw; (try dsimp only at hSw); go_simp; try (with_reducible rfl))
          case pr27 =>
          try simp only [Act.put, List.setIfInBounds_toArray, List.set_cons_zero, List.set_cons_succ]
          refine wpAnyH_done (by kernel_rfl) ?_ _
          go_wp2
          refine ⟨⟨j + 1, by omega, by omega, by go_num, ?_⟩, by simp [intOf]; omega⟩
          exact wrel_next hzl HT.out hbel2 ((hb2.trans (hb3.mono (Nat.le_refl _))).trans (hb5.mono hb3.size)) hbz
        · have q5 : (kd == 5) = false := by simpa using h5
          clear h5
          go_wp2_with fail
          refine wp_region_held_drew (S := (fun w' => w'.cell? ⟨b, off + j * 3, none⟩ = some (.int .i64 kd) ∧ w'.cell? ⟨b, off + j * 3 + 1, none⟩ = some (.int .u64 n))) (by kernel_rfl) ?_ (fun hHeld => ?_)
          · exact ⟨b1, b2⟩
          refine wpAnyH_take (i := 1) (oi := { dst := some 25, op := Go.Op.move (Go.Operand.tmp 4), type := 24, pos := "law.go:99", after := #[], guard := none }) (v := ?qv1) rfl (by kernel_rfl) (by kernel_rfl) (by kernel_rfl) (fun _ _ _ h => h) (Or.inl ⟨by rfl, ?qy1⟩) (by assumption) ?qr1
          case qy1 => (intro w hSw; (try dsimp only at hSw); go_simp; try (with_reducible rfl))
          case qr1 =>
          try simp only [Act.put, List.setIfInBounds_toArray, List.set_cons_zero, List.set_cons_succ]
          refine wpAnyH_ready (rs := [0]) (by kernel_rfl) (by simp) ?_
          refine AllReadyH.cons (o := { dst := some 24, op := Go.Op.call { callee := Go.Callee.value (Go.Operand.func 10), args := #[Go.Operand.tmp 3], argTypes := #[26] }, type := 24, pos := "law.go:99", after := #[], guard := none }) rfl (fun K hK => ?_) AllReadyH.nil
          go_simp
          refine (out_any _ _ _ _ _ HT.out.1.drew (by omega)).mono ?_
          rintro e w3 ⟨A3, c3, rfl, hown3, hb3⟩
          have b1' := cell_later (w := w2.drew) hb3 b1
          have b2' := cell_later (w := w2.drew) hb3 b2
          go_simp
          refine hK.out _ _ ?_ (fun hHeld => ?_)
          · exact ⟨b1', b2'⟩
          clear hK K
          try simp only [Act.put, List.setIfInBounds_toArray, List.set_cons_zero, List.set_cons_succ]
          refine wpAnyH_ready (rs := [2]) (by kernel_rfl) (by simp) ?_
          refine AllReadyH.cons (o := { dst := some 26, op := Go.Op.call { callee := Go.Callee.value (Go.Operand.func 9), args := #[Go.Operand.tmp 24, Go.Operand.tmp 25], argTypes := #[24, 24] }, type := 4, pos := "law.go:99", after := #[{ on := 0, ground := Go.Ground.data }, { on := 1, ground := Go.Ground.data }, { on := 0, ground := Go.Ground.chain }], guard := none }) rfl (fun K hK => ?_) AllReadyH.nil
          go_simp
          refine (equal_yes _ _ _ _ zs zs _ (Byt.of_own hown3) (hB.out.drew.below hb3) rfl).mono ?_
          rintro e w4 ⟨rfl, rfl⟩
          go_simp
          refine hK.out _ _ ?_ (fun hHeld => ?_)
          · exact ⟨b1', b2'⟩
          clear hK K
          try simp only [Act.put, List.setIfInBounds_toArray, List.set_cons_zero, List.set_cons_succ]
          refine wpAnyH_take (i := 3) (oi := { dst := some 27, op := Go.Op.unOp Go.UnOp.not 4 (Go.Operand.tmp 26), type := 4, pos := "law.go:99", after := #[{ on := 2, ground := Go.Ground.data }], guard := none }) (v := ?qv3) rfl (by kernel_rfl) (by kernel_rfl) (by kernel_rfl) (fun _ _ _ h => h) (Or.inl ⟨by rfl, ?qy3⟩) (by assumption) ?qr3
          case qy3 => (intro w hSw; (try dsimp only at hSw); go_simp; try (with_reducible rfl))
          case qr3 =>
          try simp only [Act.put, List.setIfInBounds_toArray, List.set_cons_zero, List.set_cons_succ]
          refine wpAnyH_take (i := 4) (oi := { dst := some 28, op := Go.Op.move (Go.Operand.tmp 27), type := 4, pos := "law.go:99", after := #[{ on := 3, ground := Go.Ground.data }, { on := 2, ground := Go.Ground.chain }], guard := none }) (v := ?qv4) rfl (by kernel_rfl) (by kernel_rfl) (by kernel_rfl) (fun _ _ _ h => h) (Or.inl ⟨by rfl, ?qy4⟩) (by assumption) ?qr4
          case qy4 => (intro w hSw; (try dsimp only at hSw); go_simp; try (with_reducible rfl))
          case qr4 =>
          try simp only [Act.put, List.setIfInBounds_toArray, List.set_cons_zero, List.set_cons_succ]
          refine wpAnyH_take (i := 5) (oi := { dst := some 29, op := Go.Op.move (Go.Operand.tmp 0), type := 22, pos := "law.go:99", after := #[{ on := 4, ground := Go.Ground.guard }], guard := some (4, false) }) (v := ?qv5) rfl (by kernel_rfl) (by kernel_rfl) (by kernel_rfl) (fun _ _ _ h => h) (Or.inl ⟨by rfl, ?qy5⟩) (by assumption) ?qr5
          case qy5 => (intro w hSw; (try dsimp only at hSw); go_simp; try (with_reducible rfl))
          case qr5 =>
          try simp only [Act.put, List.setIfInBounds_toArray, List.set_cons_zero, List.set_cons_succ]
          refine wpAnyH_take (i := 6) (oi := { dst := some 30, op := Go.Op.move (Go.Operand.tmp 5), type := 3, pos := "law.go:99", after := #[{ on := 4, ground := Go.Ground.guard }], guard := some (4, false) }) (v := ?qv6) rfl (by kernel_rfl) (by kernel_rfl) (by kernel_rfl) (fun _ _ _ h => h) (Or.inl ⟨by rfl, ?qy6⟩) (by assumption) ?qr6
          case qy6 => (intro w hSw; (try dsimp only at hSw); go_simp; try (with_reducible rfl))
          case qr6 =>
          try simp only [Act.put, List.setIfInBounds_toArray, List.set_cons_zero, List.set_cons_succ]
          refine wpAnyH_take (i := 7) (oi := { dst := some 31, op := Go.Op.indexAddr 22 (Go.Operand.tmp 29) (Go.Operand.tmp 30), type := 0, pos := "law.go:99", after := #[{ on := 5, ground := Go.Ground.data }, { on := 6, ground := Go.Ground.data }, { on := 4, ground := Go.Ground.guard }], guard := some (4, false) }) (v := ?qv7) rfl (by kernel_rfl) (by kernel_rfl) (by kernel_rfl) (fun _ _ _ h => h) (Or.inl ⟨by rfl, ?qy7⟩) (by assumption) ?qr7
          case qy7 => (intro w hSw; (try dsimp only at hSw); go_simp; try (with_reducible rfl))
          case qr7 =>
          try simp only [Act.put, List.setIfInBounds_toArray, List.set_cons_zero, List.set_cons_succ]
          refine wpAnyH_take (i := 8) (oi := { dst := some 32, op := Go.Op.fieldAddr 31 (Go.Operand.tmp 31) 0, type := 0, pos := "law.go:99", after := #[{ on := 7, ground := Go.Ground.data }, { on := 4, ground := Go.Ground.guard }], guard := some (4, false) }) (v := ?qv8) rfl (by kernel_rfl) (by kernel_rfl) (by kernel_rfl) (fun _ _ _ h => h) (Or.inl ⟨by rfl, ?qy8⟩) (by assumption) ?qr8
          case qy8 => (intro w hSw; (try dsimp only at hSw); go_simp; try (with_reducible rfl))
          case qr8 =>
          try simp only [Act.put, List.setIfInBounds_toArray, List.set_cons_zero, List.set_cons_succ]
          refine wpAnyH_take (i := 9) (oi := { dst := some 33, op := Go.Op.load 3 (Go.Operand.tmp 32), type := 3, pos := "law.go:99", after := #[{ on := 8, ground := Go.Ground.data }, { on := 4, ground := Go.Ground.guard }], guard := some (4, false) }) (v := ?qv9) rfl (by kernel_rfl) (by kernel_rfl) (by kernel_rfl) (fun _ _ _ h => h) (Or.inl ⟨by rfl, ?qy9⟩) (by assumption) ?qr9
          case qy9 => (intro w hSw; (try dsimp only at hSw); go_simp; try (with_reducible rfl))
          case qr9 =>
          try simp only [Act.put, List.setIfInBounds_toArray, List.set_cons_zero, List.set_cons_succ]
          refine wpAnyH_take (i := 10) (oi := { dst := some 34, op := Go.Op.binOp Go.BinOp.eql 3 (Go.Operand.tmp 33) (Go.Operand.const (Go.Value.int Go.IntKind.i64 5)) 3, type := 4, pos := "law.go:99", after := #[{ on := 9, ground := Go.Ground.data }, { on := 4, ground := Go.Ground.guard }], guard := some (4, false) }) (v := ?qv10) rfl (by kernel_rfl) (by kernel_rfl) (by kernel_rfl) (fun _ _ _ h => h) (Or.inl ⟨by rfl, ?qy10⟩) (by assumption) ?qr10
          case qy10 => (intro w hSw; (try dsimp only at hSw); go_simp; try (with_reducible rfl))
          case qr10 =>
          try simp only [Act.put, List.setIfInBounds_toArray, List.set_cons_zero, List.set_cons_succ]
          refine wpAnyH_take (i := 11) (oi := { dst := some 35, op := Go.Op.move (Go.Operand.tmp 34), type := 4, pos := "law.go:99", after := #[{ on := 10, ground := Go.Ground.data }, { on := 4, ground := Go.Ground.chain }, { on := 4, ground := Go.Ground.guard }], guard := some (4, false) }) (v := ?qv11) rfl (by kernel_rfl) (by kernel_rfl) (by kernel_rfl) (fun _ _ _ h => h) (Or.inl ⟨by rfl, ?qy11⟩) (by assumption) ?qr11
          case qy11 => (intro w hSw; (try dsimp only at hSw); go_simp; try (with_reducible rfl))
          case qr11 =>
          try simp only [Act.put, List.setIfInBounds_toArray, List.set_cons_zero, List.set_cons_succ]
          refine wpAnyH_take (i := 12) (oi := { dst := some 36, op := Go.Op.move (Go.Operand.tmp 0), type := 22, pos := "law.go:99", after := #[{ on := 11, ground := Go.Ground.guard }], guard := some (11, true) }) (v := undef) rfl (by kernel_rfl) (by kernel_rfl) (by kernel_rfl) (fun _ _ _ h => h) (Or.inr ⟨by rfl, rfl⟩) (by assumption) ?_
          try simp only [Act.put, List.setIfInBounds_toArray, List.set_cons_zero, List.set_cons_succ]
          refine wpAnyH_take (i := 13) (oi := { dst := some 37, op := Go.Op.move (Go.Operand.tmp 5), type := 3, pos := "law.go:99", after := #[{ on := 11, ground := Go.Ground.guard }], guard := some (11, true) }) (v := undef) rfl (by kernel_rfl) (by kernel_rfl) (by kernel_rfl) (fun _ _ _ h => h) (Or.inr ⟨by rfl, rfl⟩) (by assumption) ?_
          try simp only [Act.put, List.setIfInBounds_toArray, List.set_cons_zero, List.set_cons_succ]
          refine wpAnyH_take (i := 14) (oi := { dst := some 38, op := Go.Op.indexAddr 22 (Go.Operand.tmp 36) (Go.Operand.tmp 37), type := 0, pos := "law.go:99", after := #[{ on := 12, ground := Go.Ground.data }, { on := 13, ground := Go.Ground.data }, { on := 11, ground := Go.Ground.guard }], guard := some (11, true) }) (v := undef) rfl (by kernel_rfl) (by kernel_rfl) (by kernel_rfl) (fun _ _ _ h => h) (Or.inr ⟨by rfl, rfl⟩) (by assumption) ?_
          try simp only [Act.put, List.setIfInBounds_toArray, List.set_cons_zero, List.set_cons_succ]
          refine wpAnyH_take (i := 15) (oi := { dst := some 39, op := Go.Op.fieldAddr 31 (Go.Operand.tmp 38) 1, type := 0, pos := "law.go:99", after := #[{ on := 14, ground := Go.Ground.data }, { on := 11, ground := Go.Ground.guard }], guard := some (11, true) }) (v := undef) rfl (by kernel_rfl) (by kernel_rfl) (by kernel_rfl) (fun _ _ _ h => h) (Or.inr ⟨by rfl, rfl⟩) (by assumption) ?_
          try simp only [Act.put, List.setIfInBounds_toArray, List.set_cons_zero, List.set_cons_succ]
          refine wpAnyH_take (i := 16) (oi := { dst := some 40, op := Go.Op.load 29 (Go.Operand.tmp 39), type := 29, pos := "law.go:99", after := #[{ on := 15, ground := Go.Ground.data }, { on := 11, ground := Go.Ground.guard }], guard := some (11, true) }) (v := undef) rfl (by kernel_rfl) (by kernel_rfl) (by kernel_rfl) (fun _ _ _ h => h) (Or.inr ⟨by rfl, rfl⟩) (by assumption) ?_
          try simp only [Act.put, List.setIfInBounds_toArray, List.set_cons_zero, List.set_cons_succ]
          refine wpAnyH_take (i := 17) (oi := { dst := some 41, op := Go.Op.call { callee := Go.Callee.value (Go.Operand.func 11), args := #[Go.Operand.tmp 40], argTypes := #[29] }, type := 3, pos := "law.go:99", after := #[{ on := 16, ground := Go.Ground.data }, { on := 11, ground := Go.Ground.chain }, { on := 11, ground := Go.Ground.guard }], guard := some (11, true) }) (v := undef) rfl (by kernel_rfl) (by kernel_rfl) (by kernel_rfl) (fun _ _ _ h => h) (Or.inr ⟨by rfl, rfl⟩) (by assumption) ?_
          try simp only [Act.put, List.setIfInBounds_toArray, List.set_cons_zero, List.set_cons_succ]
          refine wpAnyH_take (i := 18) (oi := { dst := some 42, op := Go.Op.move (Go.Operand.tmp 0), type := 22, pos := "law.go:99", after := #[{ on := 11, ground := Go.Ground.guard }], guard := some (11, true) }) (v := undef) rfl (by kernel_rfl) (by kernel_rfl) (by kernel_rfl) (fun _ _ _ h => h) (Or.inr ⟨by rfl, rfl⟩) (by assumption) ?_
          try simp only [Act.put, List.setIfInBounds_toArray, List.set_cons_zero, List.set_cons_succ]
          refine wpAnyH_take (i := 19) (oi := { dst := some 43, op := Go.Op.move (Go.Operand.tmp 5), type := 3, pos := "law.go:99", after := #[{ on := 11, ground := Go.Ground.guard }], guard := some (11, true) }) (v := undef) rfl (by kernel_rfl) (by kernel_rfl) (by kernel_rfl) (fun _ _ _ h => h) (Or.inr ⟨by rfl, rfl⟩) (by assumption) ?_
          try simp only [Act.put, List.setIfInBounds_toArray, List.set_cons_zero, List.set_cons_succ]
          refine wpAnyH_take (i := 20) (oi := { dst := some 44, op := Go.Op.indexAddr 22 (Go.Operand.tmp 42) (Go.Operand.tmp 43), type := 0, pos := "law.go:99", after := #[{ on := 18, ground := Go.Ground.data }, { on := 19, ground := Go.Ground.data }, { on := 11, ground := Go.Ground.guard }], guard := some (11, true) }) (v := undef) rfl (by kernel_rfl) (by kernel_rfl) (by kernel_rfl) (fun _ _ _ h => h) (Or.inr ⟨by rfl, rfl⟩) (by assumption) ?_
          try simp only [Act.put, List.setIfInBounds_toArray, List.set_cons_zero, List.set_cons_succ]
          refine wpAnyH_take (i := 21) (oi := { dst := some 45, op := Go.Op.fieldAddr 31 (Go.Operand.tmp 44) 1, type := 0, pos := "law.go:99", after := #[{ on := 20, ground := Go.Ground.data }, { on := 11, ground := Go.Ground.guard }], guard := some (11, true) }) (v := undef) rfl (by kernel_rfl) (by kernel_rfl) (by kernel_rfl) (fun _ _ _ h => h) (Or.inr ⟨by rfl, rfl⟩) (by assumption) ?_
          try simp only [Act.put, List.setIfInBounds_toArray, List.set_cons_zero, List.set_cons_succ]
          refine wpAnyH_take (i := 22) (oi := { dst := some 46, op := Go.Op.load 29 (Go.Operand.tmp 45), type := 29, pos := "law.go:99", after := #[{ on := 21, ground := Go.Ground.data }, { on := 11, ground := Go.Ground.guard }], guard := some (11, true) }) (v := undef) rfl (by kernel_rfl) (by kernel_rfl) (by kernel_rfl) (fun _ _ _ h => h) (Or.inr ⟨by rfl, rfl⟩) (by assumption) ?_
          try simp only [Act.put, List.setIfInBounds_toArray, List.set_cons_zero, List.set_cons_succ]
          refine wpAnyH_take (i := 23) (oi := { dst := some 47, op := Go.Op.call { callee := Go.Callee.value (Go.Operand.func 12), args := #[Go.Operand.tmp 46], argTypes := #[29] }, type := 24, pos := "law.go:99", after := #[{ on := 22, ground := Go.Ground.data }, { on := 17, ground := Go.Ground.chain }, { on := 11, ground := Go.Ground.guard }], guard := some (11, true) }) (v := undef) rfl (by kernel_rfl) (by kernel_rfl) (by kernel_rfl) (fun _ _ _ h => h) (Or.inr ⟨by rfl, rfl⟩) (by assumption) ?_
          try simp only [Act.put, List.setIfInBounds_toArray, List.set_cons_zero, List.set_cons_succ]
          refine wpAnyH_take (i := 24) (oi := { dst := some 48, op := Go.Op.call { callee := Go.Callee.builtin Go.Builtin.len, args := #[Go.Operand.tmp 47], argTypes := #[24] }, type := 3, pos := "law.go:99", after := #[{ on := 23, ground := Go.Ground.data }, { on := 11, ground := Go.Ground.guard }], guard := some (11, true) }) (v := undef) rfl (by kernel_rfl) (by kernel_rfl) (by kernel_rfl) (fun _ _ _ h => h) (Or.inr ⟨by rfl, rfl⟩) (by assumption) ?_
          try simp only [Act.put, List.setIfInBounds_toArray, List.set_cons_zero, List.set_cons_succ]
          refine wpAnyH_take (i := 25) (oi := { dst := some 49, op := Go.Op.binOp Go.BinOp.neq 3 (Go.Operand.tmp 41) (Go.Operand.tmp 48) 3, type := 4, pos := "law.go:99", after := #[{ on := 17, ground := Go.Ground.data }, { on := 24, ground := Go.Ground.data }, { on := 11, ground := Go.Ground.guard }], guard := some (11, true) }) (v := undef) rfl (by kernel_rfl) (by kernel_rfl) (by kernel_rfl) (fun _ _ _ h => h) (Or.inr ⟨by rfl, rfl⟩) (by assumption) ?_
          try simp only [Act.put, List.setIfInBounds_toArray, List.set_cons_zero, List.set_cons_succ]
          refine wpAnyH_take (i := 26) (oi := { dst := some 50, op := Go.Op.pick (Go.Operand.tmp 35) (Go.Operand.tmp 49) (Go.Operand.const (Go.Value.bool false)), type := 4, pos := "law.go:99", after := #[{ on := 11, ground := Go.Ground.data }, { on := 25, ground := Go.Ground.data }, { on := 4, ground := Go.Ground.guard }], guard := some (4, false) }) (v := ?qv26) rfl (by kernel_rfl) (by kernel_rfl) (by kernel_rfl) (fun _ _ _ h => h) (Or.inl ⟨by rfl, ?qy26⟩) (by assumption) ?qr26
          case qy26 => (intro w hSw; (try dsimp only at hSw); go_simp; try (with_reducible rfl))
          case qr26 =>
          try simp only [Act.put, List.setIfInBounds_toArray, List.set_cons_zero, List.set_cons_succ]
          refine wpAnyH_take (i := 27) (oi := { dst := some 51, op := Go.Op.pick (Go.Operand.tmp 28) (Go.Operand.const (Go.Value.bool true)) (Go.Operand.tmp 50), type := 4, pos := "law.go:99", after := #[{ on := 4, ground := Go.Ground.data }, { on := 26, ground := Go.Ground.data }], guard := none }) (v := ?qv27) rfl (by kernel_rfl) (by kernel_rfl) (by kernel_rfl) (fun _ _ _ h => h) (Or.inl ⟨by rfl, ?qy27⟩) (by assumption) ?qr27
          case qy27 => (intro w hSw; (try dsimp only at hSw); go_simp; try (with_reducible rfl))
          case qr27 =>
          try simp only [Act.put, List.setIfInBounds_toArray, List.set_cons_zero, List.set_cons_succ]
          refine wpAnyH_done (by kernel_rfl) ?_ _
          go_wp2
          refine ⟨⟨j + 1, by omega, by omega, by go_num, ?_⟩, by simp [intOf]; omega⟩
          exact wrel_next hzl HT.out hbel2 (hb2.trans (hb3.mono (Nat.le_refl _))) hbz
      · have hd : decide ((j : Int) < 40) = false := decide_eq_false (by omega)
        go_wp2
        go_ret
        exact ⟨rfl, hbel⟩
    · go_wp2
      go_ret
      exact ⟨rfl, hbel⟩

set_option maxHeartbeats 400000 in
theorem writes_none (A : Option Addr) (cap : Nat) (w : World) :
    Calls Try.prog 3 #[.slice A 0 cap] w fun e w' => e = .returned (.bool true) ∧ Below w.heap.size w w' := by
  go_enter Try.func3, Try.ntmps3
  go_wp2_with fail
  refine (awake_any w).mono ?_
  rintro e w1 ⟨rfl, hb1⟩
  have hs1 := hb1.size
  go_wp2_with fail
  refine wp_loop_rounds 1 ?_
  rw [rounds_succ]
  go_wp2
  go_ret
  exact ⟨rfl, hb1.alloc hs1 _⟩

end Go.Proofs.Ytelbcmcffjpdoaa
