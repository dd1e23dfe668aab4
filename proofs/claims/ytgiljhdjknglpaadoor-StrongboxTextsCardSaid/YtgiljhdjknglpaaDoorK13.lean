/-
  Texts joined: FromHex, FromHex2, B58. Conditions: those of each.
-/
import Derived.Test.YtgiljhdjknglpaaDoorK12
import Derived.Test.YtgiljhdjknglpaaDoorK9
import Derived.Test.YtgiljhdjknglpaaDoorK4
/-
  text.FromHex, and the reference's. Conditions: sizes within the reach.
-/
namespace Go.Proofs.YtgiljhdjknglpaaDoor
open Go.RowKit

def pairB (cs : List UInt8) (k : Nat) : UInt8 := b8 (16 * valB (cs.getD (2 * k) 0) + valB (cs.getD (2 * k + 1) 0))
def outL (cs : List UInt8) (n : Nat) : List UInt8 := (List.range n).map (pairB cs)
def GoodHex (cs : List UInt8) : Prop := cs.length % 2 = 0 ∧ ∀ c ∈ cs, 0 ≤ valB c
theorem outL_length (cs : List UInt8) (n : Nat) : (outL cs n).length = n := by simp [outL]
theorem outL_succ (cs : List UInt8) (n : Nat) : outL cs (n + 1) = outL cs n ++ [pairB cs n] := by simp [outL, List.range_succ]
theorem outL_take (cs : List UInt8) {k n : Nat} (h : k ≤ n) : (outL cs n).take k = outL cs k := by
  unfold outL
  rw [← List.map_take, List.take_range, Nat.min_eq_left h]
theorem outL_at (cs : List UInt8) {k n : Nat} (h : k < n) : (outL cs n)[k]? = some (pairB cs k) := by
  unfold outL
  rw [List.getElem?_map, List.getElem?_range h]
  rfl

/-- What the reference's FromHex answers. -/
def RefFromPost (w : World) (cs : List UInt8) (e : Ending) (w' : World) : Prop :=
  Below w.heap.size w w' ∧ (GoodHex cs ∧ (∃ v, e = .returned (.tuple #[v, .bool true]) ∧ w'.ownsRow w.heap.size 5 1 v (outL cs (cs.length / 2)).length ((outL cs (cs.length / 2)).map bv)) ∨
    ¬ GoodHex cs ∧ e = .returned (.tuple #[.slice none 0 0, .bool false]))

end Go.Proofs.YtgiljhdjknglpaaDoor

/-
  text.FromHex. Conditions: sizes within the reach.
-/
namespace Go.Proofs.YtgiljhdjknglpaaDoor
open Go.RowKit

/-- What FromHex answers. -/
def FromPost (w : World) (cs : List UInt8) (e : Ending) (w' : World) : Prop :=
  Below w.heap.size w w' ∧ (GoodHex cs ∧ (∃ g n, n = cs.length / 2 ∧ e = .returned (.tuple #[.slice (some ⟨g, 0, none⟩) n n, .int .i64 0]) ∧ Row w' g (outL cs n)) ∨
    ¬ GoodHex cs ∧ e = .returned (.tuple #[.slice none 0 0, .int .i64 3]))

theorem val_pos {c : UInt8} : 0 ≤ valB c ↔ 0 ≤ posB hexD c := by
  have hge := Lib.indexByte_ge hexD.data.toList c
  have e : posB hexD c = Lib.indexByte hexD.data.toList c := rfl
  unfold valB
  simp only
  split
  · omega
  · split <;> omega
theorem pos_lt (c : UInt8) : posB hexD c < 22 := by
  have hge := Lib.indexByte_ge hexD.data.toList c
  by_cases h : posB hexD c < 0
  · omega
  · obtain ⟨o, ho⟩ : ∃ o : Nat, posB hexD c = o := ⟨(posB hexD c).toNat, by omega⟩
    have := (List.getElem?_eq_some_iff.1 (Lib.indexByte_some (l := hexD.data.toList) (by exact ho)).1).1
    have h2 : hexD.data.toList.length = 22 := by decide
    omega
theorem hexValue_pos (c : UInt8) (w : World) (h : 0 ≤ posB hexD c) :
    Calls Tryd.prog 32 #[.int .u8 (posB hexD c)] w fun e w' => e = .returned (.int .u8 (valB c)) ∧ w = w' := by
  have hl := pos_lt c
  have e : valB c = if 15 < posB hexD c then posB hexD c - 6 else posB hexD c := by
    unfold valB
    simp only
    rw [if_neg (by omega)]
  rw [e]
  exact hexValue_any _ w h (by omega)

set_option maxRecDepth 100000 in
set_option maxHeartbeats 3200000 in
theorem fromHex_any (s : ByteArray) (w : World) (hl : s.size ≤ 20000) :
    Calls Tryd.prog 13 #[.string s] w (FromPost w s.data.toList) := by
  have hmk0 := fun W n (h : n ≤ 20000) => make_bytes W n (n : Int) rfl (by omega)
  obtain ⟨cs, hcs⟩ : ∃ cs, cs = s.data.toList := ⟨_, rfl⟩
  have hlen : cs.length = s.size := by rw [hcs]; rfl
  have hP := places_any s hexD w (by omega) (by decide)
  rw [← hcs] at hP
  rw [← hcs]
  have HP := Lib.hid hP
  have HL := Lib.hid hlen
  have hl2 : cs.length ≤ 20000 := by omega
  have HM := Lib.hid hmk0
  clear hcs hlen hP hmk0
  go_enter Tryd.func13, Tryd.ntmps13
  go_wp2_with fail
  refine HP.out.mono ?_
  rintro e w1 ⟨hb1, ⟨hall, rfl, hrow⟩ | ⟨hno, rfl⟩⟩
  · have HA := Lib.hid hall
    have HR := Lib.hid hrow
    clear hall hrow
    by_cases hev : cs.length % 2 = 0
    · have hd : ((cs.length : Int) % 2 != 0) = false := by simp; omega
      obtain ⟨n, hn⟩ : ∃ n, n = cs.length / 2 := ⟨_, rfl⟩
      have hq : (cs.length : Int) / 2 = (n : Int) := by omega
      have hmk := fun W => HM.out W n (by omega)
      have hN : cs.length = 2 * n := by omega
      have HN := Lib.hid hn
      have HE := Lib.hid hev
      have HNN := Lib.hid hN
      have hn1 : n ≤ 10000 := by omega
      clear hn hev hN
      go_wp2_with fail
      clear hmk hq
      go_loopw [27] (fun j wr => ∃ k : Nat, k ≤ n ∧ j = .int .i64 k ∧ FillB w1 w1.heap.size k (outL cs n) wr) (fun j _ => n - (intOf j).toNat)
      case atStart => exact ⟨0, Nat.zero_le _, rfl, _, rfl, by simpa [outL_length] using row_new w1 n, (Below.refl _ _).alloc (Nat.le_refl _) _⟩
      case round =>
        obtain ⟨k, hk, rfl, hfill⟩ := hrel
        by_cases hlt : k < n
        · obtain ⟨zs, hz, hrow, hbel⟩ := hfill
          have hcell : wr.cell? ⟨w1.heap.size, k, none⟩ = some (.int .u8 0) := hrow.cell (fillB_zero (by rw [outL_length]; exact hlt) hz)
          have hfree := hrow.free k
          have hk2 : 2 * k + 1 < cs.length := by have := HNN.out; omega
          obtain ⟨c0, hc0⟩ : ∃ c0, cs[2 * k]? = some c0 := ⟨_, List.getElem?_eq_getElem (by omega)⟩
          obtain ⟨c1, hc1⟩ : ∃ c1, cs[2 * k + 1]? = some c1 := ⟨_, List.getElem?_eq_getElem (by omega)⟩
          have hp0 := HA.out c0 (List.mem_of_getElem? hc0)
          have hp1 := HA.out c1 (List.mem_of_getElem? hc1)
          have hp0' := pos_lt c0
          have hp1' := pos_lt c1
          have hb0 := val_bd c0
          have hb1' := val_bd c1
          have hv0 := val_pos.2 hp0
          have hv1 := val_pos.2 hp1
          have C0 := fun W => hexValue_pos c0 W hp0
          have C1 := fun W => hexValue_pos c1 W hp1
          have hpair : pairB cs k = b8 (16 * valB c0 + valB c1) := by
            unfold pairB
            rw [List.getD_eq_getElem?_getD, List.getD_eq_getElem?_getD, hc0, hc1]
            rfl
          have hr0 : (placesB hexD cs)[2 * k]? = some (b8 (posB hexD c0)) := by unfold placesB; rw [List.getElem?_map, hc0]; rfl
          have hr1 : (placesB hexD cs)[2 * k + 1]? = some (b8 (posB hexD c1)) := by unfold placesB; rw [List.getElem?_map, hc1]; rfl
          have k0 := HR.out.cell hr0
          have k1 := HR.out.cell hr1
          rw [bv_b8_of (by omega) (by omega)] at k0 k1
          obtain ⟨v0, hv0e⟩ : ∃ v0, v0 = valB c0 := ⟨_, rfl⟩
          obtain ⟨v1, hv1e⟩ : ∃ v1, v1 = valB c1 := ⟨_, rfl⟩
          obtain ⟨p0, hp0e⟩ : ∃ p0, p0 = posB hexD c0 := ⟨_, rfl⟩
          obtain ⟨p1, hp1e⟩ : ∃ p1, p1 = posB hexD c1 := ⟨_, rfl⟩
          rw [← hv0e] at hb0 hv0 C0 hpair
          rw [← hv1e] at hb1' hv1 C1 hpair
          rw [← hp0e] at hp0 hp0' C0 k0
          rw [← hp1e] at hp1 hp1' C1 k1
          have hgl : w.heap.size < w1.heap.size := HR.out.lt
          have l0 : wr.cell? ⟨w.heap.size, 2 * k, none⟩ = some (.int .u8 p0) := (hbel.cell (p := ⟨w.heap.size, 2 * k, none⟩) hgl).trans k0
          have l1 : wr.cell? ⟨w.heap.size, 2 * k + 1, none⟩ = some (.int .u8 p1) := (hbel.cell (p := ⟨w.heap.size, 2 * k + 1, none⟩) hgl).trans k1
          have hat := outL_at cs hlt
          rw [hpair] at hat
          have ho : bits .or .u8 (v0 * 16) v1 = 16 * v0 + v1 := by
            have h := bits_join .u8 8 (by decide) (fun n h0 h1 => by rw [IntKind.wrap_u8]; omega) 4 (v0 * 16) v1 (by omega) (by omega) (by omega) (by omega) (by omega) (by omega)
            rw [h]; omega
          have HZ := Lib.hid hz
          have HRW := Lib.hid hrow
          have HAT := Lib.hid hat
          have HC0 := Lib.hid C0
          have HC1 := Lib.hid C1
          clear hz hrow hat C0 C1 hpair hr0 hr1 k0 k1 hv0e hv1e hp0e hp1e hc0 hc1
          go_wp2_with fail
          have s1 : IntKind.i64.wrap (2 * (k : Int)) = 2 * (k : Int) := IntWalk.i64_in _ (by omega)
          have s2 : IntKind.i64.wrap (2 * (k : Int) + 1) = 2 * (k : Int) + 1 := IntWalk.i64_in _ (by omega)
          have s3 : (0 : Int) ≤ 2 * (k : Int) := by omega
          have s4 : (0 : Int) ≤ 2 * (k : Int) + 1 := by omega
          have s5 : (2 * (k : Int)).toNat = 2 * k := by omega
          have s6 : (2 * (k : Int) + 1).toNat = 2 * k + 1 := by omega
          have s7 : IntKind.u8.wrap (v0 * 16) = v0 * 16 := by rw [IntKind.wrap_u8]; omega
          have s8 : 2 * (k : Int) < (cs.length : Int) := by omega
          have s9 : 2 * (k : Int) + 1 < (cs.length : Int) := by omega
          refine wp_region_held_drew (S := (fun w' => w'.cell? ⟨w.heap.size, 2 * k, none⟩ = some (.int .u8 p0) ∧ w'.cell? ⟨w.heap.size, 2 * k + 1, none⟩ = some (.int .u8 p1))) (by kernel_rfl) ?_ (fun hHeld => ?_)
          · exact ⟨l0, l1⟩
          refine wpAnyH_take (i := 0) (oi := { dst := some 30, op := Go.Op.move (Go.Operand.tmp 6), type := 23, pos := "hex.go:25", after := #[], guard := none }) (v := ?av0) rfl (by kernel_rfl) (by kernel_rfl) (by kernel_rfl) (fun _ _ _ h => h) (Or.inl ⟨by rfl, ?ay0⟩) (by assumption) ?ar0
          case ay0 => (intro w hSw; (try dsimp only at hSw); go_simp; try (with_reducible rfl))
          case ar0 =>
          try simp only [Act.put, List.setIfInBounds_toArray, List.set_cons_zero, List.set_cons_succ]
          refine wpAnyH_take (i := 1) (oi := { dst := some 31, op := Go.Op.move (Go.Operand.tmp 7), type := 3, pos := "hex.go:25", after := #[], guard := none }) (v := ?av1) rfl (by kernel_rfl) (by kernel_rfl) (by kernel_rfl) (fun _ _ _ h => h) (Or.inl ⟨by rfl, ?ay1⟩) (by assumption) ?ar1
          case ay1 => (intro w hSw; (try dsimp only at hSw); go_simp; try (with_reducible rfl))
          case ar1 =>
          try simp only [Act.put, List.setIfInBounds_toArray, List.set_cons_zero, List.set_cons_succ]
          refine wpAnyH_take (i := 2) (oi := { dst := some 32, op := Go.Op.move (Go.Operand.tmp 4), type := 23, pos := "hex.go:25", after := #[], guard := none }) (v := ?av2) rfl (by kernel_rfl) (by kernel_rfl) (by kernel_rfl) (fun _ _ _ h => h) (Or.inl ⟨by rfl, ?ay2⟩) (by assumption) ?ar2
          case ay2 => (intro w hSw; (try dsimp only at hSw); go_simp; try (with_reducible rfl))
          case ar2 =>
          try simp only [Act.put, List.setIfInBounds_toArray, List.set_cons_zero, List.set_cons_succ]
          refine wpAnyH_take (i := 3) (oi := { dst := some 33, op := Go.Op.move (Go.Operand.tmp 7), type := 3, pos := "hex.go:25", after := #[], guard := none }) (v := ?av3) rfl (by kernel_rfl) (by kernel_rfl) (by kernel_rfl) (fun _ _ _ h => h) (Or.inl ⟨by rfl, ?ay3⟩) (by assumption) ?ar3
          case ay3 => (intro w hSw; (try dsimp only at hSw); go_simp; try (with_reducible rfl))
          case ar3 =>
          try simp only [Act.put, List.setIfInBounds_toArray, List.set_cons_zero, List.set_cons_succ]
          refine wpAnyH_take (i := 4) (oi := { dst := some 34, op := Go.Op.binOp Go.BinOp.mul 3 (Go.Operand.const (Go.Value.int Go.IntKind.i64 2)) (Go.Operand.tmp 33) 3, type := 3, pos := "hex.go:25", after := #[{ on := 3, ground := Go.Ground.data }], guard := none }) (v := ?av4) rfl (by kernel_rfl) (by kernel_rfl) (by kernel_rfl) (fun _ _ _ h => h) (Or.inl ⟨by rfl, ?ay4⟩) (by assumption) ?ar4
          case ay4 => (intro w hSw; (try dsimp only at hSw); go_simp; try (with_reducible rfl))
          case ar4 =>
          try simp only [Act.put, List.setIfInBounds_toArray, List.set_cons_zero, List.set_cons_succ]
          refine wpAnyH_take (i := 5) (oi := { dst := some 35, op := Go.Op.indexAddr 23 (Go.Operand.tmp 32) (Go.Operand.tmp 34), type := 0, pos := "hex.go:25", after := #[{ on := 2, ground := Go.Ground.data }, { on := 4, ground := Go.Ground.data }], guard := none }) (v := ?av5) rfl (by kernel_rfl) (by kernel_rfl) (by kernel_rfl) (fun _ _ _ h => h) (Or.inl ⟨by rfl, ?ay5⟩) (by assumption) ?ar5
          case ay5 => (intro w hSw; (try dsimp only at hSw); go_simp; try (with_reducible rfl))
          case ar5 =>
          try simp only [Act.put, List.setIfInBounds_toArray, List.set_cons_zero, List.set_cons_succ]
          refine wpAnyH_take (i := 6) (oi := { dst := some 36, op := Go.Op.load 5 (Go.Operand.tmp 35), type := 5, pos := "hex.go:25", after := #[{ on := 5, ground := Go.Ground.data }], guard := none }) (v := ?av6) rfl (by kernel_rfl) (by kernel_rfl) (by kernel_rfl) (fun _ _ _ h => h) (Or.inl ⟨by rfl, ?ay6⟩) (by assumption) ?ar6
          case ay6 => (intro w hSw; (try dsimp only at hSw); go_simp; try (with_reducible rfl))
          case ar6 =>
          try simp only [Act.put, List.setIfInBounds_toArray, List.set_cons_zero, List.set_cons_succ]
          refine wpAnyH_take (i := 9) (oi := { dst := some 39, op := Go.Op.move (Go.Operand.tmp 4), type := 23, pos := "hex.go:25", after := #[], guard := none }) (v := ?av9) rfl (by kernel_rfl) (by kernel_rfl) (by kernel_rfl) (fun _ _ _ h => h) (Or.inl ⟨by rfl, ?ay9⟩) (by assumption) ?ar9
          case ay9 => (intro w hSw; (try dsimp only at hSw); go_simp; try (with_reducible rfl))
          case ar9 =>
          try simp only [Act.put, List.setIfInBounds_toArray, List.set_cons_zero, List.set_cons_succ]
          refine wpAnyH_take (i := 10) (oi := { dst := some 40, op := Go.Op.move (Go.Operand.tmp 7), type := 3, pos := "hex.go:25", after := #[], guard := none }) (v := ?av10) rfl (by kernel_rfl) (by kernel_rfl) (by kernel_rfl) (fun _ _ _ h => h) (Or.inl ⟨by rfl, ?ay10⟩) (by assumption) ?ar10
          case ay10 => (intro w hSw; (try dsimp only at hSw); go_simp; try (with_reducible rfl))
          case ar10 =>
          try simp only [Act.put, List.setIfInBounds_toArray, List.set_cons_zero, List.set_cons_succ]
          refine wpAnyH_take (i := 11) (oi := { dst := some 41, op := Go.Op.binOp Go.BinOp.mul 3 (Go.Operand.const (Go.Value.int Go.IntKind.i64 2)) (Go.Operand.tmp 40) 3, type := 3, pos := "hex.go:25", after := #[{ on := 10, ground := Go.Ground.data }], guard := none }) (v := ?av11) rfl (by kernel_rfl) (by kernel_rfl) (by kernel_rfl) (fun _ _ _ h => h) (Or.inl ⟨by rfl, ?ay11⟩) (by assumption) ?ar11
          case ay11 => (intro w hSw; (try dsimp only at hSw); go_simp; try (with_reducible rfl))
          case ar11 =>
          try simp only [Act.put, List.setIfInBounds_toArray, List.set_cons_zero, List.set_cons_succ]
          refine wpAnyH_take (i := 12) (oi := { dst := some 42, op := Go.Op.binOp Go.BinOp.add 3 (Go.Operand.tmp 41) (Go.Operand.const (Go.Value.int Go.IntKind.i64 1)) 3, type := 3, pos := "hex.go:25", after := #[{ on := 11, ground := Go.Ground.data }], guard := none }) (v := ?av12) rfl (by kernel_rfl) (by kernel_rfl) (by kernel_rfl) (fun _ _ _ h => h) (Or.inl ⟨by rfl, ?ay12⟩) (by assumption) ?ar12
          case ay12 => (intro w hSw; (try dsimp only at hSw); go_simp; try (with_reducible rfl))
          case ar12 =>
          try simp only [Act.put, List.setIfInBounds_toArray, List.set_cons_zero, List.set_cons_succ]
          refine wpAnyH_take (i := 13) (oi := { dst := some 43, op := Go.Op.indexAddr 23 (Go.Operand.tmp 39) (Go.Operand.tmp 42), type := 0, pos := "hex.go:25", after := #[{ on := 9, ground := Go.Ground.data }, { on := 12, ground := Go.Ground.data }], guard := none }) (v := ?av13) rfl (by kernel_rfl) (by kernel_rfl) (by kernel_rfl) (fun _ _ _ h => h) (Or.inl ⟨by rfl, ?ay13⟩) (by assumption) ?ar13
          case ay13 => (intro w hSw; (try dsimp only at hSw); go_simp; try (with_reducible rfl))
          case ar13 =>
          try simp only [Act.put, List.setIfInBounds_toArray, List.set_cons_zero, List.set_cons_succ]
          refine wpAnyH_take (i := 14) (oi := { dst := some 44, op := Go.Op.load 5 (Go.Operand.tmp 43), type := 5, pos := "hex.go:25", after := #[{ on := 13, ground := Go.Ground.data }], guard := none }) (v := ?av14) rfl (by kernel_rfl) (by kernel_rfl) (by kernel_rfl) (fun _ _ _ h => h) (Or.inl ⟨by rfl, ?ay14⟩) (by assumption) ?ar14
          case ay14 => (intro w hSw; (try dsimp only at hSw); go_simp; try (with_reducible rfl))
          case ar14 =>
          try simp only [Act.put, List.setIfInBounds_toArray, List.set_cons_zero, List.set_cons_succ]
          refine wpAnyH_ready (rs := [7]) (by kernel_rfl) (by simp) ?_
          refine AllReadyH.cons (o := { dst := some 37, op := Go.Op.call { callee := Go.Callee.value (Go.Operand.func 32), args := #[Go.Operand.tmp 36], argTypes := #[5] }, type := 5, pos := "hex.go:25", after := #[{ on := 6, ground := Go.Ground.data }], guard := none }) rfl (fun K hK => ?_) (AllReadyH.nil)
          go_simp
          refine (HC0.out _).mono ?_
          rintro e w4 ⟨rfl, rfl⟩
          go_simp
          refine hK.out _ _ ?_ (fun hHeld => ?_)
          · exact hHeld
          clear hK K
          try simp only [Act.put, List.setIfInBounds_toArray, List.set_cons_zero, List.set_cons_succ]
          refine wpAnyH_take (i := 8) (oi := { dst := some 38, op := Go.Op.binOp Go.BinOp.shl 5 (Go.Operand.tmp 37) (Go.Operand.const (Go.Value.int Go.IntKind.u64 4)) 58, type := 5, pos := "hex.go:25", after := #[{ on := 7, ground := Go.Ground.data }], guard := none }) (v := ?a_7v8) rfl (by kernel_rfl) (by kernel_rfl) (by kernel_rfl) (fun _ _ _ h => h) (Or.inl ⟨by rfl, ?a_7y8⟩) (by assumption) ?a_7r8
          case a_7y8 => (intro w hSw; (try dsimp only at hSw); go_simp; try (with_reducible rfl))
          case a_7r8 =>
          try simp only [Act.put, List.setIfInBounds_toArray, List.set_cons_zero, List.set_cons_succ]
          refine wpAnyH_ready (rs := [15]) (by kernel_rfl) (by simp) ?_
          refine AllReadyH.cons (o := { dst := some 45, op := Go.Op.call { callee := Go.Callee.value (Go.Operand.func 32), args := #[Go.Operand.tmp 44], argTypes := #[5] }, type := 5, pos := "hex.go:25", after := #[{ on := 14, ground := Go.Ground.data }, { on := 7, ground := Go.Ground.chain }], guard := none }) rfl (fun K hK => ?_) (AllReadyH.nil)
          go_simp
          refine (HC1.out _).mono ?_
          rintro e w4 ⟨rfl, rfl⟩
          go_simp
          refine hK.out _ _ ?_ (fun hHeld => ?_)
          · exact hHeld
          clear hK K
          try simp only [Act.put, List.setIfInBounds_toArray, List.set_cons_zero, List.set_cons_succ]
          refine wpAnyH_take (i := 16) (oi := { dst := some 46, op := Go.Op.binOp Go.BinOp.or 5 (Go.Operand.tmp 38) (Go.Operand.tmp 45) 5, type := 5, pos := "hex.go:25", after := #[{ on := 8, ground := Go.Ground.data }, { on := 15, ground := Go.Ground.data }], guard := none }) (v := ?a_7_15v16) rfl (by kernel_rfl) (by kernel_rfl) (by kernel_rfl) (fun _ _ _ h => h) (Or.inl ⟨by rfl, ?a_7_15y16⟩) (by assumption) ?a_7_15r16
          case a_7_15y16 => (intro w hSw; (try dsimp only at hSw); go_simp; try (with_reducible rfl))
          case a_7_15r16 =>
          try simp only [Act.put, List.setIfInBounds_toArray, List.set_cons_zero, List.set_cons_succ]
          refine wpAnyH_take (i := 17) (oi := { dst := some 47, op := Go.Op.indexAddr 23 (Go.Operand.tmp 30) (Go.Operand.tmp 31), type := 0, pos := "hex.go:25", after := #[{ on := 0, ground := Go.Ground.data }, { on := 1, ground := Go.Ground.data }, { on := 0, ground := Go.Ground.phase }, { on := 1, ground := Go.Ground.phase }, { on := 2, ground := Go.Ground.phase }, { on := 3, ground := Go.Ground.phase }, { on := 4, ground := Go.Ground.phase }, { on := 5, ground := Go.Ground.phase }, { on := 6, ground := Go.Ground.phase }, { on := 7, ground := Go.Ground.phase }, { on := 8, ground := Go.Ground.phase }, { on := 9, ground := Go.Ground.phase }, { on := 10, ground := Go.Ground.phase }, { on := 11, ground := Go.Ground.phase }, { on := 12, ground := Go.Ground.phase }, { on := 13, ground := Go.Ground.phase }, { on := 14, ground := Go.Ground.phase }, { on := 15, ground := Go.Ground.phase }, { on := 16, ground := Go.Ground.phase }], guard := none }) (v := ?a_7_15v17) rfl (by kernel_rfl) (by kernel_rfl) (by kernel_rfl) (fun _ _ _ h => h) (Or.inl ⟨by rfl, ?a_7_15y17⟩) (by assumption) ?a_7_15r17
          case a_7_15y17 => (intro w hSw; (try dsimp only at hSw); go_simp; try (with_reducible rfl))
          case a_7_15r17 =>
          try simp only [Act.put, List.setIfInBounds_toArray, List.set_cons_zero, List.set_cons_succ]
          refine wpAnyH_ready (rs := [18]) (by kernel_rfl) (by simp) ?_
          refine AllReadyH.cons (o := { dst := none, op := Go.Op.store 5 (Go.Operand.tmp 47) (Go.Operand.tmp 46), type := 0, pos := "hex.go:25", after := #[{ on := 17, ground := Go.Ground.data }, { on := 16, ground := Go.Ground.data }, { on := 15, ground := Go.Ground.chain }, { on := 0, ground := Go.Ground.phase }, { on := 1, ground := Go.Ground.phase }, { on := 2, ground := Go.Ground.phase }, { on := 3, ground := Go.Ground.phase }, { on := 4, ground := Go.Ground.phase }, { on := 5, ground := Go.Ground.phase }, { on := 6, ground := Go.Ground.phase }, { on := 7, ground := Go.Ground.phase }, { on := 8, ground := Go.Ground.phase }, { on := 9, ground := Go.Ground.phase }, { on := 10, ground := Go.Ground.phase }, { on := 11, ground := Go.Ground.phase }, { on := 12, ground := Go.Ground.phase }, { on := 13, ground := Go.Ground.phase }, { on := 14, ground := Go.Ground.phase }, { on := 15, ground := Go.Ground.phase }, { on := 16, ground := Go.Ground.phase }], guard := none }) rfl (fun K hK => ?_) (AllReadyH.nil)
          go_simp
          refine hK.out _ _ ?_ (fun hHeld => ?_)
          · exact ⟨(World.cell?_of_block (Below.heap_setCell _ _ _ _ (by intro h; first | (have h' : w.heap.size = w1.heap.size := h; omega) | (have h' : w1.heap.size = w.heap.size := h; omega)))).trans l0, (World.cell?_of_block (Below.heap_setCell _ _ _ _ (by intro h; first | (have h' : w.heap.size = w1.heap.size := h; omega) | (have h' : w1.heap.size = w.heap.size := h; omega)))).trans l1⟩
          clear hK K
          try simp only [Act.put]
          refine wpAnyH_done (by kernel_rfl) ?_ _
          go_wp2
          refine ⟨⟨k + 1, by omega, by go_num, fillB_next (by rw [outL_length]; exact hlt) HAT.out HZ.out ?_ ((hbel.setCell (Nat.le_refl _) _).drew)⟩, by simp [intOf]; omega⟩
          have h1 := HRW.out.set (i := k) (b8 (16 * v0 + v1))
          rw [bv_b8_of (by omega) (by omega)] at h1
          exact h1
        · have hke : k = (outL cs n).length := by rw [outL_length]; omega
          rw [hke] at hfill
          have hend := fillB_end hfill
          have hgood : GoodHex cs := ⟨HE.out, fun c hc => val_pos.2 (HA.out c hc)⟩
          have HEND := Lib.hid hend
          have HG := Lib.hid hgood
          clear hke hfill hend hgood
          go_wp2
          go_ret2
          exact ⟨hb1.trans (HEND.out.2.mono hb1.size), .inl ⟨HG.out, _, n, HN.out, rfl, HEND.out.1⟩⟩
    · have hd : ((cs.length : Int) % 2 != 0) = true := by simp; omega
      have hbad : ¬ GoodHex cs := fun h => hev h.1
      have HBAD := Lib.hid hbad
      clear hev hbad
      go_wp2
      go_ret2
      exact ⟨hb1, .inr ⟨HBAD.out, rfl⟩⟩
  · have hbad : ¬ GoodHex cs := fun h => by
      obtain ⟨c, hc, h0⟩ := hno
      have := val_pos.1 (h.2 c hc)
      omega
    have HBAD := Lib.hid hbad
    clear hno hbad
    go_wp2
    go_ret2
    exact ⟨hb1, .inr ⟨HBAD.out, rfl⟩⟩
end Go.Proofs.YtgiljhdjknglpaaDoor

/-
  text.Base58; and the fixed fact of the laws on texts comes out true. Conditions: the listed table holds what its text lays; sizes within the reach.
-/
namespace Go.Proofs.YtgiljhdjknglpaaDoor
open Go.RowKit

def b58D : ByteArray := ⟨#[49, 50, 51, 52, 53, 54, 55, 56, 57, 65, 66, 67, 68, 69, 70, 71, 72, 74, 75, 76, 77, 78, 80, 81, 82, 83, 84, 85, 86, 87, 88, 89, 90, 97, 98, 99, 100, 101, 102, 103, 104, 105, 106, 107, 109, 110, 111, 112, 113, 114, 115, 116, 117, 118, 119, 120, 121, 122]⟩
theorem reb_small {b f : Nat} {ds out : List UInt8} (h : RebOf b f ds out) (h0 : 0 < b) (h1 : b ≤ 256) : ∀ d ∈ out, d.toNat < b := by
  obtain ⟨asc, ⟨k, rfl, _, _⟩, rfl⟩ := h
  intro d hd
  rcases List.mem_append.1 hd with h | h
  · rw [List.eq_of_mem_replicate h]
    exact h0
  · rw [List.mem_reverse] at h
    unfold digitsL at h
    obtain ⟨j, _, rfl⟩ := List.mem_map.1 h
    rw [digN_nat h0 h1]
    exact Nat.mod_lt _ h0
theorem reb_length {b f : Nat} {ds out : List UInt8} (h : RebOf b f ds out) (hb : 2 ≤ b) (hf : f ≤ 256) (hf0 : 0 < f) (hd : ∀ d ∈ ds, d.toNat < f) : out.length ≤ 9 * ds.length := by
  obtain ⟨asc, ha, rfl⟩ := h
  have h1 := valF_lt hf hf0 (ds.drop (zerosN ds)) (fun d h => hd d (List.mem_of_mem_drop h))
  have h2 := ha.short hb h1
  have h3 := zerosN_le ds
  rw [List.length_drop] at h2
  rw [List.length_append, List.length_replicate, List.length_reverse]
  omega
theorem RebOf.unique {b f : Nat} {ds x y : List UInt8} (hx : RebOf b f ds x) (hy : RebOf b f ds y) : x = y := by
  obtain ⟨a, ha, rfl⟩ := hx
  obtain ⟨c, hc, rfl⟩ := hy
  rw [ha.unique hc]

set_option maxRecDepth 100000 in
set_option maxHeartbeats 800000 in
theorem base58_any (B : Nat) (x : Value) (ds : List UInt8) (w : World) (hx : Byt w B x ds) (hB : B ≤ w.heap.size) (hl : ds.length ≤ 6000) :
    Calls Tryd.prog 21 #[x] w fun e w' => ∃ out, e = .returned (.string ⟨(letters b58D out).toArray⟩) ∧ RebOf 58 256 ds out ∧ Below w.heap.size w w' := by
  have hd : ∀ d ∈ ds, d.toNat < 256 := fun d _ => d.toNat_lt
  have C := reb_any B x ds 256 58 w hx hB (by omega) (by omega) (by omega) (by omega) (by omega) hd
  obtain ⟨A, c, hxf⟩ := hx.form
  subst hxf
  have HC := Lib.hid C
  have HD := Lib.hid hd
  clear C hd
  go_enter Tryd.func21, Tryd.ntmps21
  go_wp2_with fail
  refine HC.out.mono ?_
  rintro e w1 ⟨v, out, rfl, hreb, hown, hb1⟩
  have hol := reb_length hreb (by omega) (by omega) (by omega) HD.out
  have hsp := spell_any _ v out b58D w1 hown.byt (Nat.le_refl _) (by omega) (fun p hp => reb_small hreb (by omega) (by omega) p hp)
  have HS := Lib.hid hsp
  have HR := Lib.hid hreb
  obtain ⟨A1, c1, rfl⟩ := hown.form
  clear hsp hreb hown hol
  go_wp2_with fail
  refine HS.out.mono ?_
  rintro e w2 ⟨rfl, hb2⟩
  go_wp2
  go_ret
  exact ⟨out, rfl, HR.out, hb1.trans (hb2.mono hb1.size)⟩

theorem asc_one : AscOf 58 1 [1] := ⟨1, by decide, by decide, fun j hj => by
  have : j = 0 := by omega
  subst this; decide⟩
theorem reb_001 {out : List UInt8} (h : RebOf 58 256 [0, 0, 1] out) : out = [0, 0, 1] := by
  refine h.unique ⟨[1], ?_, by decide⟩
  exact asc_one

theorem bytes_two {s : ByteArray} {l : List UInt8} (h : s.data.toList = l) : s = ⟨l.toArray⟩ := Go.WideShapes.bytes_inj (by rw [h])

set_option maxRecDepth 100000 in
set_option maxHeartbeats 1600000 in
theorem awake_any (w : World) (hc : CodeIs w) :
    Calls Tryd.prog 5 #[] w fun e w' => e = .returned (.bool true) ∧ Below w.heap.size w w' := by
  have K := checksum_any ⟨#[114, 97, 119, 40, 100, 101, 97, 100, 98, 101, 101, 102, 41]⟩ w (by decide) hc
  have k1 : ∀ c ∈ ([114, 97, 119, 40, 100, 101, 97, 100, 98, 101, 101, 102, 41] : List UInt8), 0 ≤ posB inB c := by decide +kernel
  have k2 : sumLetters (chkN (natsOf (placesB inB [114, 97, 119, 40, 100, 101, 97, 100, 98, 101, 101, 102, 41]))) = [56, 57, 102, 56, 115, 112, 120, 109] := by decide +kernel
  have h1 : nibsOf [10] = [0, 10] := by decide
  have h2 : letters hexD [0, 10] = [48, 97] := by decide
  have HK := Lib.hid K
  have HK1 := Lib.hid k1
  have HK2 := Lib.hid k2
  have H12 := Lib.hid (And.intro h1 h2)
  clear K k1 k2 h1 h2
  go_enter Tryd.func5, Tryd.ntmps5
  go_wp2_with fail
  refine HK.out.mono ?_
  rintro e w1 ⟨hb1, ⟨_, rfl⟩ | ⟨⟨c, hcm, hneg⟩, _⟩⟩
  · have e2 : sumLetters (chkN (natsOf (placesB inB (ByteArray.data ⟨#[114, 97, 119, 40, 100, 101, 97, 100, 98, 101, 101, 102, 41]⟩).toList))) = [56, 57, 102, 56, 115, 112, 120, 109] := HK2.out
    rw [e2]
    have hm1 : Byt (w1.alloc (.cells #[.int .u8 0, .int .u8 0, .int .u8 1] 5)) (w1.heap.size + 1) (.slice (some ⟨w1.heap.size, 0, none⟩) 3 3) [0, 0, 1] :=
      Byt.made w1 _ [_, _, _] [0, 0, 1] rfl (by unfold maxLen; simp)
    have C58 := base58_any _ _ _ _ hm1 (by simp) (by simp)
    have HC58 := Lib.hid C58
    clear e2 hm1 C58
    go_wp2_with fail
    refine HC58.out.mono ?_
    rintro e w2 ⟨out, rfl, hreb, hb2⟩
    have ho := reb_001 hreb
    subst ho
    have el : letters b58D [0, 0, 1] = [49, 49, 50] := by decide
    rw [el]
    have hm2 : Byt (w2.alloc (.cells #[.int .u8 10] 5)) (w2.heap.size + 1) (.slice (some ⟨w2.heap.size, 0, none⟩) 1 1) [10] :=
      Byt.made w2 _ [_] [10] rfl (by unfold maxLen; simp)
    have CH := hexp_any _ _ _ _ hm2 (by simp) (by simp)
    have HCH := Lib.hid CH
    clear hreb el hm2 CH
    go_wp2_with fail
    refine HCH.out.mono ?_
    rintro e w3 ⟨rfl, hb3⟩
    have e3 : (letters ⟨#[48, 49, 50, 51, 52, 53, 54, 55, 56, 57, 97, 98, 99, 100, 101, 102, 65, 66, 67, 68, 69, 70]⟩ (nibsOf [10])) = [48, 97] := by rw [H12.out.1]; exact H12.out.2
    rw [e3]
    clear e3
    go_wp2
    go_ret
    exact ⟨rfl, (hb1.trans (((((Below.refl _ w1).alloc (Nat.le_refl _) _)).trans (hb2.mono (by simp))).mono hb1.size)).trans ((((Below.refl _ w2).alloc (Nat.le_refl _) _).trans (hb3.mono (by simp))).mono (by have := hb1.size; have h5 := hb2.size; simp at h5; omega))⟩
  · have := HK1.out c hcm
    omega
end Go.Proofs.YtgiljhdjknglpaaDoor
