/-
  Texts joined: Chk2, BcSum, Shelf. Conditions: those of each.
-/
import Derived.Test.YtocblkacdoahfaaGreatDoorJ20
import Derived.Test.YtocblkacdoahfaaGreatDoorJ21
import Derived.Deep.RegionHeld
import Derived.OrdersHeld
import Derived.Shelf.Strings.OnBuilder
import Derived.Shelf.Strings.LastIndex
import Derived.Test.YtocblkacdoahfaaGreatDoorProg
/-
  text.Checksum, walked. Conditions: the listed table holds what its text lays; sizes within the reach.
-/
namespace Go.Proofs.YtocblkacdoahfaaGreatDoor
open Go.RowKit

theorem bits_xor1 (c : Nat) (hc : c < 1099511627776) : bits .xor .u64 (c : Int) 1 = ((c ^^^ 1 : Nat) : Int) := bits_xor_u64_nat c 1 (by omega) (by omega)
theorem fives_eight (c : Nat) (hc : c < 1099511627776) : (fivesI (c : Int) 8).map UInt8.toNat = eightOf c := by
  have key : ∀ i, (fiveI (c : Int) (5 * (8 - 1 - i))).toNat = c / 2 ^ (5 * (7 - i)) % 32 := by
    intro i
    have e8 : 8 - 1 - i = 7 - i := by omega
    rw [e8]
    generalize 5 * (7 - i) = d
    have h2 : ((c : Int) / 2 ^ d) = ((c / 2 ^ d : Nat) : Int) := by simp
    have hle : c / 2 ^ d ≤ c := Nat.div_le_self _ _
    unfold fiveI
    rw [h2]
    generalize c / 2 ^ d = e at hle
    have h3 := bits_mask .u64 64 (by decide) wraps_u64 5 (by decide) (e : Int) (by omega) (by omega)
    have e5 : ((2 : Int) ^ 5 - 1) = 31 := by decide
    rw [e5] at h3
    rw [h3]
    have h4 := b8_toNat ((e : Int) % 2 ^ 5)
    omega
  unfold fivesI eightOf
  rw [List.map_map]
  exact List.map_congr_left fun i _ => key i
theorem letters_sum (c : Nat) (hc : c < 1099511627776) : letters l32 (fivesI (c : Int) 8) = sumLetters c := by
  unfold letters sumLetters
  rw [← fives_eight c hc, List.map_map]
  rfl
theorem fives_small (c : Nat) (hc : c < 1099511627776) : ∀ p ∈ fivesI (c : Int) 8, p.toNat < l32.size := by
  intro p hp
  have h : p.toNat ∈ (fivesI (c : Int) 8).map UInt8.toNat := List.mem_map_of_mem hp
  rw [fives_eight c hc] at h
  unfold eightOf at h
  obtain ⟨i, _, hi⟩ := List.mem_map.1 h
  have : l32.size = 32 := by decide
  omega

theorem below_made2 {w w1 : World} {o : Obj} (h : Below (w.alloc o).drew.heap.size (w.alloc o).drew w1) : Below w.heap.size w w1 :=
  (((Below.refl _ w).alloc (Nat.le_refl _) o)).trans ⟨h.os, h.tape, h.output, Nat.le_trans (by simp) h.size, fun k hk => h.block k (Nat.lt_of_lt_of_le hk (by simp))⟩
/-- What Checksum answers. -/
def ChkPost (w : World) (cs : List UInt8) (e : Ending) (w' : World) : Prop :=
  Below w.heap.size w w' ∧ ((∀ c ∈ cs, 0 ≤ posB inB c) ∧ e = .returned (.tuple #[.string ⟨(sumLetters (chkN (natsOf (placesB inB cs)))).toArray⟩, .int .i64 0]) ∨ (∃ c ∈ cs, posB inB c < 0) ∧ e = .returned (.tuple #[.string ⟨#[]⟩, .int .i64 3]))

theorem inB_places {cs : List UInt8} (h : ∀ c ∈ cs, 0 ≤ posB inB c) : ∀ p ∈ natsOf (placesB inB cs), p < 96 := by
  intro p hp
  unfold natsOf placesB at hp
  rw [List.map_map] at hp
  obtain ⟨c, hc, rfl⟩ := List.mem_map.1 hp
  have h0 := h c hc
  obtain ⟨o, ho⟩ : ∃ o : Nat, posB inB c = o := ⟨(posB inB c).toNat, by omega⟩
  have h1 := (List.getElem?_eq_some_iff.1 (Lib.indexByte_some (l := inB.data.toList) (by exact ho)).1).1
  have h2 : inB.data.toList.length = 95 := by decide
  have h3 := b8_toNat (posB inB c)
  show (b8 (posB inB c)).toNat < 96
  omega

end Go.Proofs.YtocblkacdoahfaaGreatDoor

/-
  text.lastXor, text.sum32: the six values of a bech32 checksum. Conditions: the listed table holds what its text lays; sizes within the reach.
-/
namespace Go.Proofs.YtocblkacdoahfaaGreatDoor
open Go.RowKit

theorem cell_past {w : World} {o : Obj} {a : Addr} {v : Value} (h : w.cell? a = some v) : (w.alloc o).cell? a = some v := (World.cell?_alloc_lt w _ _ (World.block_lt_of_cell? _ _ h)).trans h

/-- One value, boxed, behind a draw. -/
theorem turnb_drew (q : Int) (c : Nat) (w : World) (h0 : 0 ≤ q) (h1 : q < 256) (hc : c < 1073741824) :
    Calls Tryz.prog 86 #[.agg #[.int .i64 25, .int .u64 996825010, .int .u64 642813549, .int .u64 513874426, .int .u64 1027748829, .int .u64 705979059], .int .u64 c, .slice (some ⟨w.heap.size, 0, none⟩) 1 1] (w.alloc (.cells #[.int .u8 q] 5)).drew
      fun e w' => e = .returned (.int .u64 ((turnB c q.toNat : Nat) : Int)) ∧ Below w.heap.size w w' := by
  have hm : Byt (w.alloc (.cells #[.int .u8 q] 5)) (w.heap.size + 1) (.slice (some ⟨w.heap.size, 0, none⟩) 1 1) [b8 q] :=
    Byt.made w _ [_] [b8 q] (by rw [List.map_cons, List.map_nil, bv_b8_of h0 h1]) (by unfold maxLen; simp)
  refine (turnsb_call _ _ [b8 q] c (w.alloc (.cells #[.int .u8 q] 5)).drew (hm.keep (fun _ _ _ => rfl)) (by simp) (by simp) hc).mono ?_
  rintro e w' ⟨rfl, hb⟩
  refine ⟨?_, below_made2 hb⟩
  have : (b8 q).toNat = q.toNat := by have := b8_toNat q; omega
  unfold turnsB
  rw [List.foldl_cons, List.foldl_nil, this]

theorem lastXor_any (m : Bool) (w : World) : Calls Tryz.prog 88 #[.bool m] w fun e w' => e = .returned (.int .u64 ((lastX m : Nat) : Int)) ∧ w = w' := by
  cases m
  · go_enter Tryz.func88, Tryz.ntmps88
    go_wp2
    go_ret
    exact ⟨rfl, rfl⟩
  · go_enter Tryz.func88, Tryz.ntmps88
    go_wp2
    go_ret
    exact ⟨rfl, rfl⟩

/-- The numbers of a part, divided and left. -/
def hiS (h : List UInt8) : List UInt8 := h.map (fun b => b8 ((b.toNat / 32 : Nat) : Int))
def loS (h : List UInt8) : List UInt8 := h.map (fun b => b8 ((b.toNat % 32 : Nat) : Int))
theorem hi_take {h : List UInt8} {i : Nat} {q : UInt8} (hq : h[i]? = some q) (c : Nat) : turnsB c (hiS (h.take (i + 1))) = turnB (turnsB c (hiS (h.take i))) (q.toNat / 32) := by
  have hl := q.toNat_lt
  unfold hiS
  rw [List.take_add_one, hq, List.map_append, turnsB_append]
  show turnB _ (b8 ((q.toNat / 32 : Nat) : Int)).toNat = _
  rw [b8_nat32 _ (by omega)]
theorem lo_take {h : List UInt8} {i : Nat} {q : UInt8} (hq : h[i]? = some q) (c : Nat) : turnsB c (loS (h.take (i + 1))) = turnB (turnsB c (loS (h.take i))) (q.toNat % 32) := by
  have hl := q.toNat_lt
  unfold loS
  rw [List.take_add_one, hq, List.map_append, turnsB_append]
  show turnB _ (b8 ((q.toNat % 32 : Nat) : Int)).toNat = _
  rw [b8_nat32 _ (by omega)]
theorem sum_parts (h d : List UInt8) : turnsB (turnsB (turnB (turnsB 1 (hiS h)) 0) (loS h)) d = sumB h d := by
  unfold sumB expandB
  rw [turnsB_append, turnsB_append]
  rfl
theorem six_fives (c : Nat) (hc : c < 1073741824) : fivesI (c : Int) 6 = sixOf c := by
  unfold fivesI sixOf
  apply List.map_congr_left
  intro i _
  have e8 : 6 - 1 - i = 5 - i := by omega
  rw [e8]
  generalize 5 * (5 - i) = d
  have h2 : ((c : Int) / 2 ^ d) = ((c / 2 ^ d : Nat) : Int) := by simp
  have hle : c / 2 ^ d ≤ c := Nat.div_le_self _ _
  unfold fiveI
  rw [h2]
  generalize c / 2 ^ d = e at hle
  have h3 := bits_mask .u64 64 (by decide) wraps_u64 5 (by decide) (e : Int) (by omega) (by omega)
  have e5 : ((2 : Int) ^ 5 - 1) = 31 := by decide
  rw [e5] at h3
  rw [h3]
  congr 1

set_option maxRecDepth 100000 in
set_option maxHeartbeats 6400000 in
theorem sum32_any (B : Nat) (s : ByteArray) (x : Value) (d : List UInt8) (m : Bool) (w : World) (hc : BechIs w) (hx : Byt w B x d) (hB : B ≤ w.heap.size) (hs : s.size ≤ 60000) (hl : d.length ≤ 60000) :
    Calls Tryz.prog 60 #[.string s, x, .bool m] w fun e w' => ∃ g, e = .returned (.slice (some ⟨g, 0, none⟩) 6 6) ∧ w.heap.size ≤ g ∧ Row w' g (closeB s.data.toList d m) ∧ Below w.heap.size w w' := by
  obtain ⟨A, cx, hxf⟩ := hx.form
  subst hxf
  have HX := Lib.hid hx
  have HC := Lib.hid hc
  obtain ⟨h, hh⟩ : ∃ h, h = s.data.toList := ⟨_, rfl⟩
  have hhs : h.length = s.size := by rw [hh]; rfl
  rw [← hh]
  have HH := Lib.hid hh
  have HHS := Lib.hid hhs
  obtain ⟨L, hL⟩ : ∃ L, L = closeB h d m := ⟨_, rfl⟩
  rw [← hL]
  have HL := Lib.hid hL
  have hlo : ∀ q : UInt8, bits .and .u8 (q.toNat : Int) 31 = ((q.toNat % 32 : Nat) : Int) := fun q => by
    have hq := q.toNat_lt
    have h3 := bits_mask .u8 8 (by decide) wraps_u8 5 (by decide) (q.toNat : Int) (by omega) (by omega)
    have e5 : ((2 : Int) ^ 5 - 1) = 31 := by decide
    rw [e5] at h3
    rw [h3]
    omega
  clear hx hc hh hhs hL
  go_enter Tryz.func60, Tryz.ntmps60
  go_wp2_with fail
  go_loopw [12, 7] (fun j cc wr => ∃ i : Nat, i ≤ s.size ∧ j = .int .i64 i ∧ cc = .int .u64 ((turnsB 1 (hiS (h.take i)) : Nat) : Int) ∧ Below w.heap.size w wr) (fun j _ _ => s.size - (intOf j).toNat)
  case atStart => exact ⟨0, Nat.zero_le _, rfl, rfl, Below.refl _ _⟩
  case round =>
    obtain ⟨i, hi, rfl, rfl, hbel⟩ := hrel
    by_cases hlt : i < s.size
    · obtain ⟨q, hq⟩ : ∃ q, q = s[i]'hlt := ⟨_, rfl⟩
      have hqi : h[i]? = some q := by rw [HH.out, hq]; exact Lib.data_getElem? s i hlt
      have hq256 := q.toNat_lt
      have hnext := hi_take hqi 1
      obtain ⟨c, hcc⟩ : ∃ c, c = turnsB 1 (hiS (h.take i)) := ⟨_, rfl⟩
      have hc30 : c < 1073741824 := by rw [hcc]; exact turnsB_lt _ _ (by omega)
      rw [← hcc] at hnext
      rw [← hcc]
      have HN := Lib.hid hnext
      have HB := Lib.hid hbel
      obtain ⟨gz, g0, g1, g2, g3, g4, g5⟩ := HC.out.below HB.out HC.out.1
      have C1 := Lib.hid (turnb_drew ((q.toNat : Int) / 32) c wr (by omega) (by omega) hc30)
      have hw1 : IntKind.u8.wrap ((q.toNat : Int) / 32) = (q.toNat : Int) / 32 := by rw [IntKind.wrap_u8]; omega
      have hqs : (s[i]'hlt) = q := hq.symm
      clear hbel hnext hqi hcc hq
      go_wp2_with fail
      refine wp_region_held_drew (S := (fun w' => w'.cell? ⟨1, 0, none⟩ = some (.int .i64 25) ∧ w'.cell? ⟨1, 1, none⟩ = some (.int .u64 996825010) ∧ w'.cell? ⟨1, 2, none⟩ = some (.int .u64 642813549) ∧ w'.cell? ⟨1, 3, none⟩ = some (.int .u64 513874426) ∧ w'.cell? ⟨1, 4, none⟩ = some (.int .u64 1027748829) ∧ w'.cell? ⟨1, 5, none⟩ = some (.int .u64 705979059))) (by kernel_rfl) ?_ (fun hHeld => ?_)
      · exact ⟨g0, g1, g2, g3, g4, g5⟩
      refine wpAnyH_take (i := 0) (oi := { dst := some 15, op := Go.Op.load 139 (Go.Operand.global 1), type := 139, pos := "bech32.go:91", after := #[], guard := none }) (v := ?a5v0) rfl (by kernel_rfl) (by kernel_rfl) (by kernel_rfl) (fun _ _ _ h => h) (Or.inl ⟨by rfl, ?a5y0⟩) (by assumption) ?a5r0
      case a5y0 => (intro w hSw; (try dsimp only at hSw); go_simp; try (with_reducible rfl))
      case a5r0 =>
      try simp only [Act.put, List.setIfInBounds_toArray, List.set_cons_zero, List.set_cons_succ]
      refine wpAnyH_take (i := 1) (oi := { dst := some 16, op := Go.Op.move (Go.Operand.tmp 7), type := 64, pos := "bech32.go:91", after := #[], guard := none }) (v := ?a5v1) rfl (by kernel_rfl) (by kernel_rfl) (by kernel_rfl) (fun _ _ _ h => h) (Or.inl ⟨by rfl, ?a5y1⟩) (by assumption) ?a5r1
      case a5y1 => (intro w hSw; (try dsimp only at hSw); go_simp; try (with_reducible rfl))
      case a5r1 =>
      try simp only [Act.put, List.setIfInBounds_toArray, List.set_cons_zero, List.set_cons_succ]
      refine wpAnyH_take (i := 2) (oi := { dst := some 17, op := Go.Op.move (Go.Operand.tmp 0), type := 9, pos := "bech32.go:91", after := #[], guard := none }) (v := ?a5v2) rfl (by kernel_rfl) (by kernel_rfl) (by kernel_rfl) (fun _ _ _ h => h) (Or.inl ⟨by rfl, ?a5y2⟩) (by assumption) ?a5r2
      case a5y2 => (intro w hSw; (try dsimp only at hSw); go_simp; try (with_reducible rfl))
      case a5r2 =>
      try simp only [Act.put, List.setIfInBounds_toArray, List.set_cons_zero, List.set_cons_succ]
      refine wpAnyH_take (i := 3) (oi := { dst := some 18, op := Go.Op.move (Go.Operand.tmp 8), type := 3, pos := "bech32.go:91", after := #[], guard := none }) (v := ?a5v3) rfl (by kernel_rfl) (by kernel_rfl) (by kernel_rfl) (fun _ _ _ h => h) (Or.inl ⟨by rfl, ?a5y3⟩) (by assumption) ?a5r3
      case a5y3 => (intro w hSw; (try dsimp only at hSw); go_simp; try (with_reducible rfl))
      case a5r3 =>
      try simp only [Act.put, List.setIfInBounds_toArray, List.set_cons_zero, List.set_cons_succ]
      refine wpAnyH_take (i := 4) (oi := { dst := some 19, op := Go.Op.index 9 (Go.Operand.tmp 17) (Go.Operand.tmp 18), type := 5, pos := "bech32.go:91", after := #[{ on := 2, ground := Go.Ground.data }, { on := 3, ground := Go.Ground.data }], guard := none }) (v := ?a5v4) rfl (by kernel_rfl) (by kernel_rfl) (by kernel_rfl) (fun _ _ _ h => h) (Or.inl ⟨by rfl, ?a5y4⟩) (by assumption) ?a5r4
      case a5y4 => (intro w hSw; (try dsimp only at hSw); go_simp; try (with_reducible rfl))
      case a5r4 =>
      try simp only [Act.put, List.setIfInBounds_toArray, List.set_cons_zero, List.set_cons_succ]
      refine wpAnyH_take (i := 5) (oi := { dst := some 20, op := Go.Op.binOp Go.BinOp.shr 5 (Go.Operand.tmp 19) (Go.Operand.const (Go.Value.int Go.IntKind.u64 5)) 88, type := 5, pos := "bech32.go:91", after := #[{ on := 4, ground := Go.Ground.data }], guard := none }) (v := ?a5v5) rfl (by kernel_rfl) (by kernel_rfl) (by kernel_rfl) (fun _ _ _ h => h) (Or.inl ⟨by rfl, ?a5y5⟩) (by assumption) ?a5r5
      case a5y5 => (intro w hSw; (try dsimp only at hSw); go_simp; try (with_reducible rfl))
      case a5r5 =>
      try simp only [Act.put, List.setIfInBounds_toArray, List.set_cons_zero, List.set_cons_succ]
      refine wpAnyH_ready (rs := [6]) (by kernel_rfl) (by simp) ?_
      refine AllReadyH.cons (o := { dst := some 21, op := Go.Op.buildSlice 23 1 #[(0, Go.Operand.tmp 20)], type := 23, pos := "bech32.go:91", after := #[{ on := 5, ground := Go.Ground.data }], guard := none }) rfl (fun K hK => ?_) (AllReadyH.nil)
      go_simp
      refine hK.out _ _ ?_ (fun hHeld => ?_)
      · exact ⟨cell_past g0, cell_past g1, cell_past g2, cell_past g3, cell_past g4, cell_past g5⟩
      clear hK K
      try simp only [Act.put, List.setIfInBounds_toArray, List.set_cons_zero, List.set_cons_succ]
      refine wpAnyH_ready (rs := [7]) (by kernel_rfl) (by simp) ?_
      refine AllReadyH.cons (o := { dst := some 22, op := Go.Op.call { callee := Go.Callee.value (Go.Operand.func 86), args := #[Go.Operand.tmp 15, Go.Operand.tmp 16, Go.Operand.tmp 21], argTypes := #[139, 64, 23] }, type := 64, pos := "bech32.go:91", after := #[{ on := 0, ground := Go.Ground.data }, { on := 1, ground := Go.Ground.data }, { on := 6, ground := Go.Ground.data }], guard := none }) rfl (fun K hK => ?_) (AllReadyH.nil)
      go_simp
      refine C1.out.mono ?_
      rintro e w2 ⟨rfl, hb2⟩
      obtain ⟨fz, f0, f1, f2, f3, f4, f5⟩ := (HC.out.below HB.out HC.out.1).below hb2 gz
      go_simp
      refine hK.out _ _ ?_ (fun hHeld => ?_)
      · exact ⟨f0, f1, f2, f3, f4, f5⟩
      clear hK K
      try simp only [Act.put, List.setIfInBounds_toArray, List.set_cons_zero, List.set_cons_succ]
      refine wpAnyH_take (i := 8) (oi := { dst := some 7, op := Go.Op.assign (Go.Operand.tmp 22), type := 64, pos := "bech32.go:91", after := #[{ on := 7, ground := Go.Ground.data }, { on := 7, ground := Go.Ground.chain }, { on := 0, ground := Go.Ground.phase }, { on := 1, ground := Go.Ground.phase }, { on := 2, ground := Go.Ground.phase }, { on := 3, ground := Go.Ground.phase }, { on := 4, ground := Go.Ground.phase }, { on := 5, ground := Go.Ground.phase }, { on := 6, ground := Go.Ground.phase }, { on := 7, ground := Go.Ground.phase }], guard := none }) (v := ?a5_6_7v8) rfl (by kernel_rfl) (by kernel_rfl) (by kernel_rfl) (fun _ _ _ h => h) (Or.inl ⟨by rfl, ?a5_6_7y8⟩) (by assumption) ?a5_6_7r8
      case a5_6_7y8 => (intro w hSw; (try dsimp only at hSw); go_simp; try (with_reducible rfl))
      case a5_6_7r8 =>
      try simp only [Act.put, List.setIfInBounds_toArray, List.set_cons_zero, List.set_cons_succ]
      refine wpAnyH_done (by kernel_rfl) ?_ _
      go_wp2
      refine ⟨⟨i + 1, by omega, by go_num, ?_, HB.out.trans (hb2.mono HB.out.size)⟩, by simp [intOf]; omega⟩
      rw [HN.out]
      congr 2
    · have hie : h.take i = h := List.take_of_length_le (by have := HHS.out; omega)
      rw [hie]
      obtain ⟨c, hcc⟩ : ∃ c, c = turnsB 1 (hiS h) := ⟨_, rfl⟩
      have hc30 : c < 1073741824 := by rw [hcc]; exact turnsB_lt _ _ (by omega)
      rw [← hcc]
      have HCC := Lib.hid hcc
      have HB := Lib.hid hbel
      obtain ⟨gz, g0, g1, g2, g3, g4, g5⟩ := HC.out.below HB.out HC.out.1
      have C0 := Lib.hid (turnb_call 0 c wr (by omega) (by omega) hc30)
      clear hie hcc hbel
      go_wp2_with fail
      refine C0.out.mono ?_
      rintro e w1 ⟨rfl, hb1⟩
      obtain ⟨c1, hc1⟩ : ∃ c1, c1 = turnB c (0 : Int).toNat := ⟨_, rfl⟩
      have hc1l : c1 < 1073741824 := by rw [hc1]; exact turnB_lt _ _ (by decide)
      rw [← hc1]
      have HC1 := Lib.hid hc1
      have HB1 := Lib.hid (HB.out.trans (hb1.mono HB.out.size))
      clear hc1 hb1 HB C0 g0 g1 g2 g3 g4 g5 gz
      go_wp2_with fail
      go_loopw [30, 7] (fun j cc wr => ∃ i : Nat, i ≤ s.size ∧ j = .int .i64 i ∧ cc = .int .u64 ((turnsB c1 (loS (h.take i)) : Nat) : Int) ∧ Below w.heap.size w wr) (fun j _ _ => s.size - (intOf j).toNat)
      case atStart => exact ⟨0, Nat.zero_le _, rfl, rfl, HB1.out⟩
      case round =>
        obtain ⟨i, hi, rfl, rfl, hbel⟩ := hrel
        by_cases hlt : i < s.size
        · obtain ⟨q, hq⟩ : ∃ q, q = s[i]'hlt := ⟨_, rfl⟩
          have hqi : h[i]? = some q := by rw [HH.out, hq]; exact Lib.data_getElem? s i hlt
          have hq256 := q.toNat_lt
          have hnext := lo_take hqi c1
          obtain ⟨c, hcc⟩ : ∃ c, c = turnsB c1 (loS (h.take i)) := ⟨_, rfl⟩
          have hc30 : c < 1073741824 := by rw [hcc]; exact turnsB_lt _ _ hc1l
          rw [← hcc] at hnext
          rw [← hcc]
          have HN := Lib.hid hnext
          have HB := Lib.hid hbel
          obtain ⟨gz, g0, g1, g2, g3, g4, g5⟩ := HC.out.below HB.out HC.out.1
          have C1 := Lib.hid (turnb_drew ((q.toNat : Int) % 32) c wr (by omega) (by omega) hc30)
          have hw1 : bits .and .u8 (q.toNat : Int) 31 = (q.toNat : Int) % 32 := by rw [hlo]; omega
          have hqs : (s[i]'hlt) = q := hq.symm
          clear hbel hnext hqi hcc hq
          go_wp2_with fail
          refine wp_region_held_drew (S := (fun w' => w'.cell? ⟨1, 0, none⟩ = some (.int .i64 25) ∧ w'.cell? ⟨1, 1, none⟩ = some (.int .u64 996825010) ∧ w'.cell? ⟨1, 2, none⟩ = some (.int .u64 642813549) ∧ w'.cell? ⟨1, 3, none⟩ = some (.int .u64 513874426) ∧ w'.cell? ⟨1, 4, none⟩ = some (.int .u64 1027748829) ∧ w'.cell? ⟨1, 5, none⟩ = some (.int .u64 705979059))) (by kernel_rfl) ?_ (fun hHeld => ?_)
          · exact ⟨g0, g1, g2, g3, g4, g5⟩
          refine wpAnyH_take (i := 0) (oi := { dst := some 33, op := Go.Op.load 139 (Go.Operand.global 1), type := 139, pos := "bech32.go:95", after := #[], guard := none }) (v := ?a11v0) rfl (by kernel_rfl) (by kernel_rfl) (by kernel_rfl) (fun _ _ _ h => h) (Or.inl ⟨by rfl, ?a11y0⟩) (by assumption) ?a11r0
          case a11y0 => (intro w hSw; (try dsimp only at hSw); go_simp; try (with_reducible rfl))
          case a11r0 =>
          try simp only [Act.put, List.setIfInBounds_toArray, List.set_cons_zero, List.set_cons_succ]
          refine wpAnyH_take (i := 1) (oi := { dst := some 34, op := Go.Op.move (Go.Operand.tmp 7), type := 64, pos := "bech32.go:95", after := #[], guard := none }) (v := ?a11v1) rfl (by kernel_rfl) (by kernel_rfl) (by kernel_rfl) (fun _ _ _ h => h) (Or.inl ⟨by rfl, ?a11y1⟩) (by assumption) ?a11r1
          case a11y1 => (intro w hSw; (try dsimp only at hSw); go_simp; try (with_reducible rfl))
          case a11r1 =>
          try simp only [Act.put, List.setIfInBounds_toArray, List.set_cons_zero, List.set_cons_succ]
          refine wpAnyH_take (i := 2) (oi := { dst := some 35, op := Go.Op.move (Go.Operand.tmp 0), type := 9, pos := "bech32.go:95", after := #[], guard := none }) (v := ?a11v2) rfl (by kernel_rfl) (by kernel_rfl) (by kernel_rfl) (fun _ _ _ h => h) (Or.inl ⟨by rfl, ?a11y2⟩) (by assumption) ?a11r2
          case a11y2 => (intro w hSw; (try dsimp only at hSw); go_simp; try (with_reducible rfl))
          case a11r2 =>
          try simp only [Act.put, List.setIfInBounds_toArray, List.set_cons_zero, List.set_cons_succ]
          refine wpAnyH_take (i := 3) (oi := { dst := some 36, op := Go.Op.move (Go.Operand.tmp 9), type := 3, pos := "bech32.go:95", after := #[], guard := none }) (v := ?a11v3) rfl (by kernel_rfl) (by kernel_rfl) (by kernel_rfl) (fun _ _ _ h => h) (Or.inl ⟨by rfl, ?a11y3⟩) (by assumption) ?a11r3
          case a11y3 => (intro w hSw; (try dsimp only at hSw); go_simp; try (with_reducible rfl))
          case a11r3 =>
          try simp only [Act.put, List.setIfInBounds_toArray, List.set_cons_zero, List.set_cons_succ]
          refine wpAnyH_take (i := 4) (oi := { dst := some 37, op := Go.Op.index 9 (Go.Operand.tmp 35) (Go.Operand.tmp 36), type := 5, pos := "bech32.go:95", after := #[{ on := 2, ground := Go.Ground.data }, { on := 3, ground := Go.Ground.data }], guard := none }) (v := ?a11v4) rfl (by kernel_rfl) (by kernel_rfl) (by kernel_rfl) (fun _ _ _ h => h) (Or.inl ⟨by rfl, ?a11y4⟩) (by assumption) ?a11r4
          case a11y4 => (intro w hSw; (try dsimp only at hSw); go_simp; try (with_reducible rfl))
          case a11r4 =>
          try simp only [Act.put, List.setIfInBounds_toArray, List.set_cons_zero, List.set_cons_succ]
          refine wpAnyH_take (i := 5) (oi := { dst := some 38, op := Go.Op.binOp Go.BinOp.and 5 (Go.Operand.tmp 37) (Go.Operand.const (Go.Value.int Go.IntKind.u8 31)) 5, type := 5, pos := "bech32.go:95", after := #[{ on := 4, ground := Go.Ground.data }], guard := none }) (v := ?a11v5) rfl (by kernel_rfl) (by kernel_rfl) (by kernel_rfl) (fun _ _ _ h => h) (Or.inl ⟨by rfl, ?a11y5⟩) (by assumption) ?a11r5
          case a11y5 => (intro w hSw; (try dsimp only at hSw); go_simp; try (with_reducible rfl))
          case a11r5 =>
          try simp only [Act.put, List.setIfInBounds_toArray, List.set_cons_zero, List.set_cons_succ]
          refine wpAnyH_ready (rs := [6]) (by kernel_rfl) (by simp) ?_
          refine AllReadyH.cons (o := { dst := some 39, op := Go.Op.buildSlice 23 1 #[(0, Go.Operand.tmp 38)], type := 23, pos := "bech32.go:95", after := #[{ on := 5, ground := Go.Ground.data }], guard := none }) rfl (fun K hK => ?_) (AllReadyH.nil)
          go_simp
          refine hK.out _ _ ?_ (fun hHeld => ?_)
          · exact ⟨cell_past g0, cell_past g1, cell_past g2, cell_past g3, cell_past g4, cell_past g5⟩
          clear hK K
          try simp only [Act.put, List.setIfInBounds_toArray, List.set_cons_zero, List.set_cons_succ]
          refine wpAnyH_ready (rs := [7]) (by kernel_rfl) (by simp) ?_
          refine AllReadyH.cons (o := { dst := some 40, op := Go.Op.call { callee := Go.Callee.value (Go.Operand.func 86), args := #[Go.Operand.tmp 33, Go.Operand.tmp 34, Go.Operand.tmp 39], argTypes := #[139, 64, 23] }, type := 64, pos := "bech32.go:95", after := #[{ on := 0, ground := Go.Ground.data }, { on := 1, ground := Go.Ground.data }, { on := 6, ground := Go.Ground.data }], guard := none }) rfl (fun K hK => ?_) (AllReadyH.nil)
          go_simp
          refine C1.out.mono ?_
          rintro e w2 ⟨rfl, hb2⟩
          obtain ⟨fz, f0, f1, f2, f3, f4, f5⟩ := (HC.out.below HB.out HC.out.1).below hb2 gz
          go_simp
          refine hK.out _ _ ?_ (fun hHeld => ?_)
          · exact ⟨f0, f1, f2, f3, f4, f5⟩
          clear hK K
          try simp only [Act.put, List.setIfInBounds_toArray, List.set_cons_zero, List.set_cons_succ]
          refine wpAnyH_take (i := 8) (oi := { dst := some 7, op := Go.Op.assign (Go.Operand.tmp 40), type := 64, pos := "bech32.go:95", after := #[{ on := 7, ground := Go.Ground.data }, { on := 7, ground := Go.Ground.chain }, { on := 0, ground := Go.Ground.phase }, { on := 1, ground := Go.Ground.phase }, { on := 2, ground := Go.Ground.phase }, { on := 3, ground := Go.Ground.phase }, { on := 4, ground := Go.Ground.phase }, { on := 5, ground := Go.Ground.phase }, { on := 6, ground := Go.Ground.phase }, { on := 7, ground := Go.Ground.phase }], guard := none }) (v := ?a11_6_7v8) rfl (by kernel_rfl) (by kernel_rfl) (by kernel_rfl) (fun _ _ _ h => h) (Or.inl ⟨by rfl, ?a11_6_7y8⟩) (by assumption) ?a11_6_7r8
          case a11_6_7y8 => (intro w hSw; (try dsimp only at hSw); go_simp; try (with_reducible rfl))
          case a11_6_7r8 =>
          try simp only [Act.put, List.setIfInBounds_toArray, List.set_cons_zero, List.set_cons_succ]
          refine wpAnyH_done (by kernel_rfl) ?_ _
          go_wp2
          refine ⟨⟨i + 1, by omega, by go_num, ?_, HB.out.trans (hb2.mono HB.out.size)⟩, by simp [intOf]; omega⟩
          rw [HN.out]
          congr 2
        · have hie : h.take i = h := List.take_of_length_le (by have := HHS.out; omega)
          rw [hie]
          obtain ⟨c2, hc2⟩ : ∃ c2, c2 = turnsB c1 (loS h) := ⟨_, rfl⟩
          have hc2l : c2 < 1073741824 := by rw [hc2]; exact turnsB_lt _ _ hc1l
          rw [← hc2]
          have HC2 := Lib.hid hc2
          have HB := Lib.hid hbel
          obtain ⟨gz, g0, g1, g2, g3, g4, g5⟩ := HC.out.below HB.out HC.out.1
          have C3 := Lib.hid (turnsb_call B _ d c2 wr (HX.out.below (HB.out.mono hB)) (by have := HB.out.size; omega) hl hc2l)
          clear hie hc2 hbel
          go_wp2_with fail
          refine C3.out.mono ?_
          rintro e w3 ⟨rfl, hb3⟩
          obtain ⟨c3, hc3⟩ : ∃ c3, c3 = turnsB c2 d := ⟨_, rfl⟩
          have hc3l : c3 < 1073741824 := by rw [hc3]; exact turnsB_lt _ _ hc2l
          rw [← hc3]
          have HC3 := Lib.hid hc3
          have HB3 := Lib.hid (HB.out.trans (hb3.mono HB.out.size))
          have hs3 := HB3.out.size
          clear hc3 hb3 C3 g0 g1 g2 g3 g4 g5 gz
          obtain ⟨gz, g0, g1, g2, g3, g4, g5⟩ := HC.out.below HB3.out HC.out.1
          have hmk : ∀ W, (Instr.makeSlice 23 (.int .i64 6) (.int .i64 6)).run Tryz.prog W = .ok (.slice (some ⟨W.heap.size, 0, none⟩) 6 6) (W.alloc (.cells (zeroRow 6) 5)) := fun W => make_bytes W 6 6 rfl (by omega)
          have hz : Byt (w3.alloc (.cells (zeroRow 6) 5)).drew (w3.heap.size + 1) (.slice (some ⟨w3.heap.size, 0, none⟩) 6 6) (List.replicate 6 0) := by
            have h := (row_new w3 6).byt (n := 6) (c := 6) (by simp) (by omega) (by unfold maxLen; omega)
            have hs : (w3.alloc (.cells (zeroRow 6) 5)).heap.size = w3.heap.size + 1 := by simp
            rw [hs] at h
            have e : (List.replicate 6 (0 : UInt8)).take 6 = List.replicate 6 0 := rfl
            rw [e] at h
            exact h.keep (fun _ _ _ => rfl)
          have C4 := Lib.hid (turnsb_call _ _ _ c3 _ hz (by simp) (by simp) hc3l)
          obtain ⟨c4, hc4⟩ : ∃ c4, c4 = turnsB c3 (List.replicate 6 0) := ⟨_, rfl⟩
          have hc4l : c4 < 1073741824 := by rw [hc4]; exact turnsB_lt _ _ hc3l
          rw [← hc4] at C4
          have HC4 := Lib.hid hc4
          have hx := bits_xor_u64_nat c4 (lastX m) (by omega) (by have := lastX_lt m; omega)
          obtain ⟨z, hz0⟩ : ∃ z, z = c4 ^^^ lastX m := ⟨_, rfl⟩
          have hzl : z < 1073741824 := by rw [hz0]; exact Nat.xor_lt_two_pow (n := 30) hc4l (lastX_lt m)
          rw [← hz0] at hx
          have HZ0 := Lib.hid hz0
          have HLX := Lib.hid (fun W => lastXor_any m W)
          have HF := Lib.hid (fun W => fives_any (z : Int) 6 W (by omega) (by omega) (by omega))
          have HX6 := Lib.hid hx
          clear hz hc4 hz0 hx
          go_wp2_with fail
          go_region_with (go_at_call 86; refine C4.out.mono ?_; rintro e w4 ⟨rfl, hb4⟩)
          all_goals go_wp2_with fail
          all_goals refine (HLX.out _).mono ?_
          all_goals rintro e w5 ⟨rfl, rfl⟩
          all_goals have hx := HX6.out
          all_goals go_wp2_with fail
          all_goals refine (HF.out _).mono ?_
          all_goals rintro e w6 ⟨rfl, hr6, hb6⟩
          all_goals have hb34 := below_made2 hb4
          all_goals have hs4 := hb34.size
          all_goals have HR := Lib.hid hr6
          all_goals have HB6 := Lib.hid ((HB3.out.trans (hb34.mono hs3)).trans (hb6.mono (Nat.le_trans hs3 hs4)))
          all_goals clear hr6 hb6 hb34 hx
          all_goals go_wp2
          all_goals go_ret
          all_goals refine ⟨_, rfl, Nat.le_trans hs3 hs4, ?_, HB6.out⟩
          all_goals (have hr := HR.out; rw [six_fives z hzl, HZ0.out, HC4.out, HC3.out, HC2.out, HC1.out, HCC.out] at hr)
          all_goals (rw [HL.out]; unfold closeB; rw [← sum_parts, turnsB_append]; exact hr)
end Go.Proofs.YtocblkacdoahfaaGreatDoor

/-
  DERIVED: THE SHELF's CONTRACTS AT THIS DUMP, IN PLAIN WORDS (tools/lay-plain.mjs out of 'TryzShelf.lean', which tools/lay-shelf.mjs wrote): THE SAME DECLARATIONS UNDER THE SAME NAMES: 'import', 'namespace', 'open', 'def', 'theorem' AND NOTHING ELSE: no command of the shelf's: FOR A HAND-IN. Each laying: the table of numbers ('.._ren') and one theorem, a field a fact of the dump's own or the kernel's comparison; each contract: ONE APPLICATION.
-/
namespace Go.Proofs
open Go.Shelf
def Tryz.lays158_ren : Go.Shelf.Ren := ⟨fun | 158 => 89 | 165 => 108 | 166 => 109 | 167 => 110 | 169 => 111 | 230 => 112 | 203 => 114 | 240 => 127 | 241 => 128 | 197 => 129 | 118 => 130 | 168 => 131 | 270 => 132 | 262 => 133 | 276 => 137 | 277 => 138 | 260 => 139 | 242 => 140 | 313 => 141 | 278 => 142 | 274 => 143 | 275 => 144 | n => n, fun | 9 => 9 | 4 => 4 | 3 => 3 | 5 => 5 | 72 => 170 | 0 => 0 | 76 => 174 | 75 => 173 | 107 => 179 | 70 => 168 | 20 => 20 | 37 => 23 | 127 => 192 | 21 => 21 | 105 => 193 | 164 => 198 | 162 => 203 | 203 => 201 | 119 => 204 | 46 => 88 | 139 => 207 | 138 => 206 | 51 => 55 | 160 => 208 | 208 => 214 | 206 => 212 | 80 => 177 | n => n, fun | 13 => 8 | 3 => 9 | 4 => 10 | n => n⟩
theorem Tryz.lays158 : Go.Proofs.Lays.n158 Tryz.prog Tryz.lays158_ren := {
  mixed := by kernel_rfl
  f118 := Tryz.func130.trans (congrArg some (by kernel_rfl))
  f158 := Tryz.func89.trans (congrArg some (by kernel_rfl))
  f165 := Tryz.func108.trans (congrArg some (by kernel_rfl))
  f166 := Tryz.func109.trans (congrArg some (by kernel_rfl))
  f167 := Tryz.func110.trans (congrArg some (by kernel_rfl))
  f168 := Tryz.func131.trans (congrArg some (by kernel_rfl))
  f169 := Tryz.func111.trans (congrArg some (by kernel_rfl))
  f197 := Tryz.func129.trans (congrArg some (by kernel_rfl))
  f203 := Tryz.func114.trans (congrArg some (by kernel_rfl))
  f230 := Tryz.func112.trans (congrArg some (by kernel_rfl))
  f240 := Tryz.func127.trans (congrArg some (by kernel_rfl))
  f241 := Tryz.func128.trans (congrArg some (by kernel_rfl))
  f242 := Tryz.func140.trans (congrArg some (by kernel_rfl))
  f260 := Tryz.func139.trans (congrArg some (by kernel_rfl))
  f262 := Tryz.func133.trans (congrArg some (by kernel_rfl))
  f270 := Tryz.func132.trans (congrArg some (by kernel_rfl))
  f274 := Tryz.func143.trans (congrArg some (by kernel_rfl))
  f275 := Tryz.func144.trans (congrArg some (by kernel_rfl))
  f276 := Tryz.func137.trans (congrArg some (by kernel_rfl))
  f277 := Tryz.func138.trans (congrArg some (by kernel_rfl))
  f278 := Tryz.func142.trans (congrArg some (by kernel_rfl))
  f313 := Tryz.func141.trans (congrArg some (by kernel_rfl))
  t0 := Tryz.underlying0
  a0 := Tryz.isAgg0
  z0 := Tryz.sizeOf0
  v0 := Tryz.zeroValue0
  t3 := Tryz.underlying3
  a3 := Tryz.isAgg3
  z3 := Tryz.sizeOf3
  v3 := Tryz.zeroValue3
  t4 := Tryz.underlying4
  a4 := Tryz.isAgg4
  z4 := Tryz.sizeOf4
  v4 := Tryz.zeroValue4
  t5 := Tryz.underlying5
  a5 := Tryz.isAgg5
  z5 := Tryz.sizeOf5
  v5 := Tryz.zeroValue5
  t9 := Tryz.underlying9
  a9 := Tryz.isAgg9
  z9 := Tryz.sizeOf9
  v9 := Tryz.zeroValue9
  t20 := Tryz.underlying20
  a20 := Tryz.isAgg20
  z20 := Tryz.sizeOf20
  v20 := Tryz.zeroValue20
  t21 := Tryz.underlying21
  a21 := Tryz.isAgg21
  z21 := Tryz.sizeOf21
  v21 := Tryz.zeroValue21
  t37 := Tryz.underlying23
  a37 := Tryz.isAgg23
  z37 := Tryz.sizeOf23
  v37 := Tryz.zeroValue23
  t46 := Tryz.underlying88
  a46 := Tryz.isAgg88
  z46 := Tryz.sizeOf88
  v46 := Tryz.zeroValue88
  t51 := Tryz.underlying55
  a51 := Tryz.isAgg55
  z51 := Tryz.sizeOf55
  v51 := Tryz.zeroValue55
  t70 := Tryz.underlying168
  a70 := Tryz.isAgg168
  z70 := Tryz.sizeOf168
  v70 := Tryz.zeroValue168
  t72 := Tryz.underlying170
  a72 := Tryz.isAgg170
  z72 := Tryz.sizeOf170
  v72 := Tryz.zeroValue170
  t75 := Tryz.underlying173
  a75 := Tryz.isAgg173
  z75 := Tryz.sizeOf173
  v75 := Tryz.zeroValue173
  t76 := Tryz.underlying174
  a76 := Tryz.isAgg174
  z76 := Tryz.sizeOf174
  v76 := Tryz.zeroValue174
  t105 := Tryz.underlying193
  a105 := Tryz.isAgg193
  z105 := Tryz.sizeOf193
  v105 := Tryz.zeroValue193
  t107 := Tryz.underlying179
  a107 := Tryz.isAgg179
  z107 := Tryz.sizeOf179
  v107 := Tryz.zeroValue179
  t119 := Tryz.underlying204
  a119 := Tryz.isAgg204
  z119 := Tryz.sizeOf204
  t127 := Tryz.underlying192
  a127 := Tryz.isAgg192
  z127 := Tryz.sizeOf192
  v127 := Tryz.zeroValue192
  t138 := Tryz.underlying206
  a138 := Tryz.isAgg206
  z138 := Tryz.sizeOf206
  v138 := Tryz.zeroValue206
  t139 := Tryz.underlying207
  a139 := Tryz.isAgg207
  z139 := Tryz.sizeOf207
  v139 := Tryz.zeroValue207
  t160 := Tryz.underlying208
  a160 := Tryz.isAgg208
  z160 := Tryz.sizeOf208
  v160 := Tryz.zeroValue208
  t162 := Tryz.underlying203
  a162 := Tryz.isAgg203
  z162 := Tryz.sizeOf203
  v162 := Tryz.zeroValue203
  t164 := Tryz.underlying198
  a164 := Tryz.isAgg198
  z164 := Tryz.sizeOf198
  v164 := Tryz.zeroValue198
  t203 := Tryz.underlying201
  a203 := Tryz.isAgg201
  z203 := Tryz.sizeOf201
  v203 := Tryz.zeroValue201
  t206 := Tryz.underlying212
  a206 := Tryz.isAgg212
  z206 := Tryz.sizeOf212
  v206 := Tryz.zeroValue212
  t208 := Tryz.underlying214
  a208 := Tryz.isAgg214
  z208 := Tryz.sizeOf214
  v208 := Tryz.zeroValue214
  g3 := by kernel_rfl
  g4 := by kernel_rfl
  g13 := by kernel_rfl }
theorem Tryz.Builder_Extra_158 : Builder.Extra Tryz.prog Tryz.lays158_ren := {
  sizeBuilder := by kernel_rfl
  liesBuilder := by kernel_rfl
  t5 := Tryz.underlying5
  a5 := Tryz.isAgg5
  z5 := Tryz.sizeOf5
  v5 := Tryz.zeroValue5
  infoByte := by kernel_rfl
  cellsByte := by kernel_rfl
  sizeByte := by kernel_rfl
  neB5 := by decide }
open Go.RowKit in
/-- strings.ToUpper: "ToUpper returns s with all Unicode letters mapped to their upper case.": ON ASCII TEXT OF AT MOST 2^47 BYTES. Below the heap's end the world is as it was: where a letter turns, the call makes a builder and its buffer. (LAID: no walk: one application.) -/
theorem Tryz.strings_ToUpper_ascii (s : ByteArray) (w : World) (hs : s.size ≤ 140737488355328) (hascii : ∀ (j : Nat) (b : UInt8), s.data.toList[j]? = some b → b.toNat < 128) :
    Calls Tryz.prog 89 #[.string s] w fun e w' => e = .returned (.string ⟨(Lib.toUpperA s.data.toList).toArray⟩) ∧ Below w.heap.size w w' := Any.strings_ToUpper_ascii Tryz.lays158 Tryz.Builder_Extra_158 s w hs hascii
def Tryz.lays159_ren : Go.Shelf.Ren := ⟨fun | 159 => 84 | 165 => 108 | 166 => 109 | 167 => 110 | 169 => 111 | 230 => 112 | 204 => 113 | 240 => 127 | 241 => 128 | 197 => 129 | 118 => 130 | 168 => 131 | 270 => 132 | 262 => 133 | 276 => 137 | 277 => 138 | 260 => 139 | 242 => 140 | 313 => 141 | 278 => 142 | 274 => 143 | 275 => 144 | n => n, fun | 9 => 9 | 4 => 4 | 3 => 3 | 5 => 5 | 72 => 170 | 0 => 0 | 76 => 174 | 75 => 173 | 107 => 179 | 70 => 168 | 20 => 20 | 37 => 23 | 127 => 192 | 21 => 21 | 105 => 193 | 164 => 198 | 162 => 203 | 203 => 201 | 119 => 204 | 46 => 88 | 139 => 207 | 138 => 206 | 51 => 55 | 160 => 208 | 208 => 214 | 206 => 212 | 80 => 177 | n => n, fun | 13 => 8 | 3 => 9 | 4 => 10 | n => n⟩
theorem Tryz.lays159 : Go.Proofs.Lays.n159 Tryz.prog Tryz.lays159_ren := {
  mixed := by kernel_rfl
  f118 := Tryz.func130.trans (congrArg some (by kernel_rfl))
  f159 := Tryz.func84.trans (congrArg some (by kernel_rfl))
  f165 := Tryz.func108.trans (congrArg some (by kernel_rfl))
  f166 := Tryz.func109.trans (congrArg some (by kernel_rfl))
  f167 := Tryz.func110.trans (congrArg some (by kernel_rfl))
  f168 := Tryz.func131.trans (congrArg some (by kernel_rfl))
  f169 := Tryz.func111.trans (congrArg some (by kernel_rfl))
  f197 := Tryz.func129.trans (congrArg some (by kernel_rfl))
  f204 := Tryz.func113.trans (congrArg some (by kernel_rfl))
  f230 := Tryz.func112.trans (congrArg some (by kernel_rfl))
  f240 := Tryz.func127.trans (congrArg some (by kernel_rfl))
  f241 := Tryz.func128.trans (congrArg some (by kernel_rfl))
  f242 := Tryz.func140.trans (congrArg some (by kernel_rfl))
  f260 := Tryz.func139.trans (congrArg some (by kernel_rfl))
  f262 := Tryz.func133.trans (congrArg some (by kernel_rfl))
  f270 := Tryz.func132.trans (congrArg some (by kernel_rfl))
  f274 := Tryz.func143.trans (congrArg some (by kernel_rfl))
  f275 := Tryz.func144.trans (congrArg some (by kernel_rfl))
  f276 := Tryz.func137.trans (congrArg some (by kernel_rfl))
  f277 := Tryz.func138.trans (congrArg some (by kernel_rfl))
  f278 := Tryz.func142.trans (congrArg some (by kernel_rfl))
  f313 := Tryz.func141.trans (congrArg some (by kernel_rfl))
  t0 := Tryz.underlying0
  a0 := Tryz.isAgg0
  z0 := Tryz.sizeOf0
  v0 := Tryz.zeroValue0
  t3 := Tryz.underlying3
  a3 := Tryz.isAgg3
  z3 := Tryz.sizeOf3
  v3 := Tryz.zeroValue3
  t4 := Tryz.underlying4
  a4 := Tryz.isAgg4
  z4 := Tryz.sizeOf4
  v4 := Tryz.zeroValue4
  t5 := Tryz.underlying5
  a5 := Tryz.isAgg5
  z5 := Tryz.sizeOf5
  v5 := Tryz.zeroValue5
  t9 := Tryz.underlying9
  a9 := Tryz.isAgg9
  z9 := Tryz.sizeOf9
  v9 := Tryz.zeroValue9
  t20 := Tryz.underlying20
  a20 := Tryz.isAgg20
  z20 := Tryz.sizeOf20
  v20 := Tryz.zeroValue20
  t21 := Tryz.underlying21
  a21 := Tryz.isAgg21
  z21 := Tryz.sizeOf21
  v21 := Tryz.zeroValue21
  t37 := Tryz.underlying23
  a37 := Tryz.isAgg23
  z37 := Tryz.sizeOf23
  v37 := Tryz.zeroValue23
  t46 := Tryz.underlying88
  a46 := Tryz.isAgg88
  z46 := Tryz.sizeOf88
  v46 := Tryz.zeroValue88
  t51 := Tryz.underlying55
  a51 := Tryz.isAgg55
  z51 := Tryz.sizeOf55
  v51 := Tryz.zeroValue55
  t70 := Tryz.underlying168
  a70 := Tryz.isAgg168
  z70 := Tryz.sizeOf168
  v70 := Tryz.zeroValue168
  t72 := Tryz.underlying170
  a72 := Tryz.isAgg170
  z72 := Tryz.sizeOf170
  v72 := Tryz.zeroValue170
  t75 := Tryz.underlying173
  a75 := Tryz.isAgg173
  z75 := Tryz.sizeOf173
  v75 := Tryz.zeroValue173
  t76 := Tryz.underlying174
  a76 := Tryz.isAgg174
  z76 := Tryz.sizeOf174
  v76 := Tryz.zeroValue174
  t105 := Tryz.underlying193
  a105 := Tryz.isAgg193
  z105 := Tryz.sizeOf193
  v105 := Tryz.zeroValue193
  t107 := Tryz.underlying179
  a107 := Tryz.isAgg179
  z107 := Tryz.sizeOf179
  v107 := Tryz.zeroValue179
  t119 := Tryz.underlying204
  a119 := Tryz.isAgg204
  z119 := Tryz.sizeOf204
  t127 := Tryz.underlying192
  a127 := Tryz.isAgg192
  z127 := Tryz.sizeOf192
  v127 := Tryz.zeroValue192
  t138 := Tryz.underlying206
  a138 := Tryz.isAgg206
  z138 := Tryz.sizeOf206
  v138 := Tryz.zeroValue206
  t139 := Tryz.underlying207
  a139 := Tryz.isAgg207
  z139 := Tryz.sizeOf207
  v139 := Tryz.zeroValue207
  t160 := Tryz.underlying208
  a160 := Tryz.isAgg208
  z160 := Tryz.sizeOf208
  v160 := Tryz.zeroValue208
  t162 := Tryz.underlying203
  a162 := Tryz.isAgg203
  z162 := Tryz.sizeOf203
  v162 := Tryz.zeroValue203
  t164 := Tryz.underlying198
  a164 := Tryz.isAgg198
  z164 := Tryz.sizeOf198
  v164 := Tryz.zeroValue198
  t203 := Tryz.underlying201
  a203 := Tryz.isAgg201
  z203 := Tryz.sizeOf201
  v203 := Tryz.zeroValue201
  t206 := Tryz.underlying212
  a206 := Tryz.isAgg212
  z206 := Tryz.sizeOf212
  v206 := Tryz.zeroValue212
  t208 := Tryz.underlying214
  a208 := Tryz.isAgg214
  z208 := Tryz.sizeOf214
  v208 := Tryz.zeroValue214
  g3 := by kernel_rfl
  g4 := by kernel_rfl
  g13 := by kernel_rfl }
theorem Tryz.Builder_Extra_159 : Builder.Extra Tryz.prog Tryz.lays159_ren := {
  sizeBuilder := by kernel_rfl
  liesBuilder := by kernel_rfl
  t5 := Tryz.underlying5
  a5 := Tryz.isAgg5
  z5 := Tryz.sizeOf5
  v5 := Tryz.zeroValue5
  infoByte := by kernel_rfl
  cellsByte := by kernel_rfl
  sizeByte := by kernel_rfl
  neB5 := by decide }
open Go.RowKit in
/-- strings.ToLower: "ToLower returns s with all Unicode letters mapped to their lower case.": ON ASCII TEXT OF AT MOST 2^47 BYTES. Below the heap's end the world is as it was: where a letter turns, the call makes a builder and its buffer. (LAID: no walk: one application.) -/
theorem Tryz.strings_ToLower_ascii (s : ByteArray) (w : World) (hs : s.size ≤ 140737488355328) (hascii : ∀ (j : Nat) (b : UInt8), s.data.toList[j]? = some b → b.toNat < 128) :
    Calls Tryz.prog 84 #[.string s] w fun e w' => e = .returned (.string ⟨(Lib.toLowerA s.data.toList).toArray⟩) ∧ Below w.heap.size w w' := Any.strings_ToLower_ascii Tryz.lays159 Tryz.Builder_Extra_159 s w hs hascii
def Tryz.lays149_ren : Go.Shelf.Ren := ⟨fun | 149 => 90 | 222 => 115 | n => n, fun | 9 => 9 | 5 => 5 | 3 => 3 | 4 => 4 | n => n, fun | n => n⟩
theorem Tryz.lays149 : Go.Proofs.Lays.n149 Tryz.prog Tryz.lays149_ren := {
  mixed := by kernel_rfl
  f149 := Tryz.func90.trans (congrArg some (by kernel_rfl))
  f222 := Tryz.func115.trans (congrArg some (by kernel_rfl))
  t3 := Tryz.underlying3
  a3 := Tryz.isAgg3
  z3 := Tryz.sizeOf3
  v3 := Tryz.zeroValue3
  t4 := Tryz.underlying4
  a4 := Tryz.isAgg4
  z4 := Tryz.sizeOf4
  v4 := Tryz.zeroValue4
  t5 := Tryz.underlying5
  a5 := Tryz.isAgg5
  z5 := Tryz.sizeOf5
  v5 := Tryz.zeroValue5
  t9 := Tryz.underlying9
  a9 := Tryz.isAgg9
  z9 := Tryz.sizeOf9
  v9 := Tryz.zeroValue9 }
open Go.RowKit Go.Lib in
/-- strings.LastIndexByte: "LastIndexByte returns the index of the last instance of c in s, or -1 if c is not present in s." (LAID: no walk: one application.) -/
theorem Tryz.strings_LastIndexByte (s : ByteArray) (c : Int) (hs : s.size < 4611686018427387904) (w : World) :
    Calls Tryz.prog 90 #[.string s, .int .u8 c] w fun e w' => e = .returned (.int .i64 (Lib.lastIndexByte s c)) ∧ w' = w := Any.strings_LastIndexByte Tryz.lays149 s c hs w
end Go.Proofs
