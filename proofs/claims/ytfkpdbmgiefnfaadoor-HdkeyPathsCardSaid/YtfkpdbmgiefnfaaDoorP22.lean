/-
  Texts joined: HkOf, HkLess, HkGood. Conditions: those of each.
-/
import Derived.Test.YtfkpdbmgiefnfaaDoorP17
import Derived.Test.YtfkpdbmgiefnfaaDoorP20
/-
  The reference's numbers of 256 bits: Of, N, Less, Key, walked. Conditions: the bytes are 32.
-/
namespace Go.Proofs.YtfkpdbmgiefnfaaDoor.Hk
open Go.RowKit

/-- The word of four bytes at d of the first i bytes. -/
def quadFrom (bs : List UInt8) (i d : Nat) : Nat := numBE ((bs.drop d).take (min 4 (i - d)))
def quadsTo (bs : List UInt8) (i : Nat) : List Int := (List.range 8).map fun j => (quadFrom bs i (4 * (7 - j)) : Int)
theorem quadFrom_same {bs : List UInt8} {i d : Nat} (h : d + 4 ≤ i ∨ i < d) : quadFrom bs (i + 1) d = quadFrom bs i d := by
  unfold quadFrom
  rw [show min 4 (i + 1 - d) = min 4 (i - d) by omega]
theorem quadFrom_next {bs : List UInt8} {i d : Nat} {u : UInt8} (hu : bs[i]? = some u) (h1 : d ≤ i) (h2 : i < d + 4) : quadFrom bs (i + 1) d = quadFrom bs i d * 256 + u.toNat := by
  unfold quadFrom
  rw [show min 4 (i + 1 - d) = (i - d) + 1 by omega, show min 4 (i - d) = i - d by omega, List.take_add_one, List.getElem?_drop, show d + (i - d) = i by omega, hu, ← numBE_snoc]
  rfl
theorem quadFrom_lt (bs : List UInt8) (i d : Nat) : quadFrom bs i d < 256 ^ (min 4 (i - d)) := by
  unfold quadFrom
  refine Nat.lt_of_lt_of_le (numBE_lt _) (Nat.pow_le_pow_right (by omega) ?_)
  rw [List.length_take]
  omega
theorem quadsTo_length (bs : List UInt8) (i : Nat) : (quadsTo bs i).length = 8 := by simp [quadsTo]
theorem quadsTo_zero (bs : List UInt8) : quadsTo bs 0 = List.replicate 8 0 := by simp [quadsTo, quadFrom, numBE, List.range, List.range.loop, List.replicate]
theorem quadsTo_next {bs : List UInt8} {i : Nat} {u : UInt8} (hu : bs[i]? = some u) (hi : i < 32) :
    ∃ (m x : Nat), m = 7 - i / 4 ∧ m < 8 ∧ (quadsTo bs i)[m]? = some (x : Int) ∧ x < 16777216 ∧ (quadsTo bs i).set m ((x * 256 + u.toNat : Nat) : Int) = quadsTo bs (i + 1) := by
  have hd : 4 * (7 - (7 - i / 4)) ≤ i ∧ i < 4 * (7 - (7 - i / 4)) + 4 := by omega
  have hlt : quadFrom bs i (4 * (7 - (7 - i / 4))) < 16777216 := by
    refine Nat.lt_of_lt_of_le (quadFrom_lt bs i _) ?_
    rw [show (16777216 : Nat) = 256 ^ 3 from rfl]
    exact Nat.pow_le_pow_right (by omega) (by omega)
  refine ⟨7 - i / 4, quadFrom bs i (4 * (7 - (7 - i / 4))), rfl, by omega, ?_, hlt, ?_⟩
  · unfold quadsTo
    rw [List.getElem?_map, List.getElem?_range (by omega)]
    rfl
  · rw [← quadFrom_next hu hd.1 hd.2]
    apply List.ext_getElem?
    intro j
    rw [List.getElem?_set]
    by_cases hj : 7 - i / 4 = j
    · subst hj
      rw [if_pos rfl, if_pos (by rw [quadsTo_length]; omega)]
      unfold quadsTo
      rw [List.getElem?_map, List.getElem?_range (by omega)]
      rfl
    · rw [if_neg hj]
      unfold quadsTo
      rw [List.getElem?_map, List.getElem?_map]
      by_cases h8 : j < 8
      · rw [List.getElem?_range h8]
        show some ((quadFrom bs i (4 * (7 - j)) : Nat) : Int) = some ((quadFrom bs (i + 1) (4 * (7 - j)) : Nat) : Int)
        rw [quadFrom_same (bs := bs) (i := i) (d := 4 * (7 - j)) (by omega)]
      · rw [List.getElem?_eq_none (by simp; omega)]
        rfl
def quads (bs : List UInt8) : List Int := quadsTo bs 32
/-- The number that words of 32 bits are, the lowest first. -/
def numQ : List Int → Nat
  | [] => 0
  | x :: xs => x.toNat + 4294967296 * numQ xs
def U32s (xs : List Int) : Prop := ∀ x ∈ xs, 0 ≤ x ∧ x < 4294967296
theorem quads_u (bs : List UInt8) : U32s (quads bs) := by
  intro x hx
  unfold quads quadsTo at hx
  obtain ⟨j, _, rfl⟩ := List.mem_map.1 hx
  have h : quadFrom bs 32 (4 * (7 - j)) < 4294967296 := by
    refine Nat.lt_of_lt_of_le (quadFrom_lt bs 32 _) ?_
    rw [show (4294967296 : Nat) = 256 ^ 4 from rfl]
    exact Nat.pow_le_pow_right (by omega) (by omega)
  omega
theorem numQ_append : ∀ (a b : List Int), numQ (a ++ b) = numQ a + 4294967296 ^ a.length * numQ b
  | [], b => by simp [numQ]
  | x :: a, b => by
    rw [List.cons_append, numQ, numQ, numQ_append a b, List.length_cons, Nat.pow_succ]
    generalize 4294967296 ^ a.length = P
    generalize numQ b = q
    rw [Nat.mul_add, show P * 4294967296 * q = 4294967296 * (P * q) by rw [Nat.mul_comm P, Nat.mul_assoc]]
    omega
theorem numQ_lt : ∀ (a : List Int), U32s a → numQ a < 4294967296 ^ a.length
  | [], _ => by simp [numQ]
  | x :: a, h => by
    have h1 := h x (List.mem_cons_self ..)
    have h2 := numQ_lt a (fun y hy => h y (List.mem_cons_of_mem _ hy))
    rw [numQ, List.length_cons, Nat.pow_succ]
    generalize 4294967296 ^ a.length = P at *
    omega
theorem numQ_quads {bs : List UInt8} (h : bs.length = 32) : numQ (quads bs) = numBE bs := by
  have step : ∀ (n : Nat) (l : List UInt8), l.length = 4 * n → numBE l = numQ ((List.range n).map fun j => (numBE ((l.drop (4 * (n - 1 - j))).take 4) : Int)) := by
    intro n
    induction n with
    | zero =>
      intro l hl
      obtain rfl := List.eq_nil_of_length_eq_zero (show l.length = 0 by omega)
      rfl
    | succ n ih =>
      intro l hl
      have e : l = l.take 4 ++ l.drop 4 := (List.take_append_drop 4 l).symm
      have hd : (l.drop 4).length = 4 * n := by rw [List.length_drop]; omega
      have hi := ih (l.drop 4) hd
      rw [List.range_succ, List.map_append, numQ_append, List.length_map, List.length_range]
      have e1 : ((List.range n).map fun j => (numBE ((l.drop (4 * (n + 1 - 1 - j))).take 4) : Int)) = (List.range n).map fun j => (numBE (((l.drop 4).drop (4 * (n - 1 - j))).take 4) : Int) := by
        apply List.map_congr_left
        intro j hj
        have : j < n := List.mem_range.1 hj
        rw [List.drop_drop, show 4 + 4 * (n - 1 - j) = 4 * (n + 1 - 1 - j) by omega]
      rw [e1, ← hi]
      conv => lhs; rw [e]
      rw [numBE_append, hd, show (256 : Nat) ^ (4 * n) = 4294967296 ^ n by rw [Nat.pow_mul]]
      simp only [List.map_cons, List.map_nil, numQ, Int.toNat_natCast, show n + 1 - 1 - n = 0 by omega, Nat.mul_zero, List.drop_zero, Nat.add_zero]
      rw [Nat.mul_comm, Nat.add_comm]
  rw [step 8 bs (by omega)]
  unfold quads quadsTo quadFrom
  congr 1
theorem words_quads {bs : List UInt8} (h : bs.length = 32) : numW (words4 bs) = numQ (quads bs) := by rw [numW_words h, numQ_quads h]

def qV (xs : List Int) : Value := .agg (xs.map (Value.int .u32)).toArray
theorem info_Num : (Tryd.prog.info? 76).map (·.size) = some 8 := by kernel_rfl
theorem zero_Num (W : World) : (zeroValue 76).run Tryd.prog W = .ok (.agg ((List.replicate 8 (0 : Int)).map (Value.int .u32)).toArray) W := by kernel_rfl

set_option maxRecDepth 100000 in
set_option maxHeartbeats 6400000 in
theorem of_any (B : Nat) (v : Value) (bs : List UInt8) (w : World) (hx : Byt w B v bs) (hB : B ≤ w.heap.size) (hl : bs.length = 32) :
    Calls Tryd.prog 34 #[v] w fun e w' => e = .returned (qV (quads bs)) ∧ Below w.heap.size w w' := by
  obtain ⟨A, c, rfl⟩ := hx.form
  obtain ⟨A', c', he, hlc, hcm, hA, hc⟩ := hx
  obtain ⟨rfl, -, rfl⟩ := Value.slice.inj he
  obtain ⟨b, o, rfl, hb, hcell⟩ := hc (by intro h; rw [h] at hl; simp at hl)
  have r1 := irow_alloc (IRow.new w 76 .u32 (List.replicate 8 0)) (.cells ((List.replicate 8 (0 : Int)).map (Value.int .u32)).toArray 76)
  have r2 := IRow.new (w.alloc (.cells ((List.replicate 8 (0 : Int)).map (Value.int .u32)).toArray 76)) 76 .u32 (List.replicate 8 0)
  have b1 : Below w.heap.size w ((w.alloc (.cells ((List.replicate 8 (0 : Int)).map (Value.int .u32)).toArray 76)).alloc (.cells ((List.replicate 8 (0 : Int)).map (Value.int .u32)).toArray 76)) := ((Below.refl _ w).alloc (Nat.le_refl _) _).alloc (by simp) _
  rw [World.size_alloc] at r2
  obtain ⟨wA, hwA⟩ : ∃ z, z = ((w.alloc (.cells ((List.replicate 8 (0 : Int)).map (Value.int .u32)).toArray 76)).alloc (.cells ((List.replicate 8 (0 : Int)).map (Value.int .u32)).toArray 76)) := ⟨_, rfl⟩
  rw [← hwA] at r1 r2 b1
  obtain ⟨GA, hGA⟩ : ∃ g, g = w.heap.size := ⟨_, rfl⟩
  rw [← hGA] at r1 r2 b1 hB
  have HC := Lib.hid hcell
  have HL := Lib.hid hl
  have R1 := Lib.hid r1
  have R2 := Lib.hid r2
  have B1 := Lib.hid b1
  have HWA := Lib.hid hwA
  have HGA := Lib.hid hGA
  have HB := Lib.hid hb
  have HBG := Lib.hid hB
  obtain ⟨n, hn⟩ : ∃ n, n = bs.length := ⟨_, rfl⟩
  have hn32 : n = 32 := by rw [hn, hl]
  rw [← hn]
  subst hn32
  clear he hlc hcm hA hc hcell hl r1 r2 b1 hwA hGA hb hB hn
  go_enter Tryd.func34, Tryd.ntmps34
  go_upto_region 2 with fail
  change Code.wp _ _ _ _ ((w.alloc (.cells ((List.replicate 8 (0 : Int)).map (Value.int .u32)).toArray 76)).alloc (.cells ((List.replicate 8 (0 : Int)).map (Value.int .u32)).toArray 76))
  rw [← HWA.out, show w.heap.size = GA from HGA.out.symm]
  clear HWA
  try dsimp only [Act.put]
  go_wp2_with fail
  go_loopw [4] (fun v4 wr => ∃ i : Nat, i ≤ 32 ∧ v4 = .int .i64 (i : Int) ∧ IRow wr (GA + 1) 76 .u32 (quadsTo bs i) ∧ IRow wr GA 76 .u32 (List.replicate 8 0) ∧ Below GA w wr) (fun v4 _ => 32 - (intOf v4).toNat)
  case atStart => exact ⟨0, by omega, rfl, by rw [quadsTo_zero]; exact R2.out, R1.out, B1.out⟩
  case round =>
    obtain ⟨i, hi, rfl, hrow, hres, hbel⟩ := hrel
    by_cases h32 : i < 32
    · obtain ⟨u, hu⟩ : ∃ u, bs[i]? = some u := ⟨_, List.getElem?_eq_getElem (by rw [HL.out]; exact h32)⟩
      obtain ⟨m, x, hm, hm8, hxm, hxs, hset⟩ := quadsTo_next hu h32
      have hu8 := u.toNat_lt
      have r0 : IRow wr.drew (GA + 1) 76 .u32 (quadsTo bs i) := hrow
      have hcg := r0.cell hxm
      have hfg := r0.free m
      have hbc : wr.drew.cell? ⟨b, o + i, none⟩ = some (.int .u8 (u.toNat : Int)) := (hbel.drew.cell (p := ⟨b, o + i, none⟩) (by show b < GA; have := HB.out; have := HBG.out; omega)).trans (HC.out i u hu)
      have bi : (i : Int) < 32 := by omega
      have bm : (m : Int) < 8 := by omega
      have q1 : IntKind.i64.wrap ((i : Int) / 4) = (i : Int) / 4 := IntWalk.i64_in _ (by omega)
      have q2 : IntKind.i64.wrap (7 - (i : Int) / 4) = (m : Int) := by rw [IntWalk.i64_in _ (by omega)]; omega
      have q3 : IntKind.u32.wrap ((x : Int) * 256) = (x : Int) * 256 := by rw [IntKind.wrap_u32]; omega
      have q4 : IntKind.u32.wrap ((u.toNat : Int)) = (u.toNat : Int) := by rw [IntKind.wrap_u32]; omega
      have q5 : IntKind.u32.wrap ((x : Int) * 256 + (u.toNat : Int)) = ((x * 256 + u.toNat : Nat) : Int) := by rw [IntKind.wrap_u32]; omega
      have hs3 := r0.set m ((x * 256 + u.toNat : Nat) : Int)
      rw [hset] at hs3
      have hr3 : IRow (wr.drew.setCell ⟨GA + 1, m, none⟩ (.int .u32 ((x * 256 + u.toNat : Nat) : Int))) GA 76 .u32 (List.replicate 8 0) := (Below.heap_setCell wr.drew _ _ _ (by intro h; first | (have h' : GA = GA + 1 := h; omega) | (have h' : GA + 1 = GA := h; omega))).trans hres
      have HS3 := Lib.hid hs3
      have HR3 := Lib.hid hr3
      have HB3 := Lib.hid (hbel.drew.setCell (p := ⟨GA + 1, m, none⟩) (by show GA ≤ GA + 1; omega) (.int .u32 ((x * 256 + u.toNat : Nat) : Int)))
      have KB : (wr.drew.setCell ⟨GA + 1, m, none⟩ (.int .u32 ((x * 256 + u.toNat : Nat) : Int))).cell? ⟨b, o + i, none⟩ = some (.int .u8 (u.toNat : Int)) := (HB3.out.cell (p := ⟨b, o + i, none⟩) (by show b < GA; have := HB.out; have := HBG.out; omega)).trans (HC.out i u hu)
      obtain ⟨y, hy⟩ : ∃ y, y = x * 256 + u.toNat := ⟨_, rfl⟩
      rw [← hy] at q5 HS3 HR3 HB3 KB
      clear hu hxm hset hs3 hr3 hrow hres hbel hm r0 hy
      go_wp2_with fail
      refine wp_region_held_drew (S := (fun w' => w'.cell? ⟨b, o + i, none⟩ = some (.int .u8 (u.toNat : Int)))) (by kernel_rfl) ?_ (fun hHeld => ?_)
      · exact hbc
      refine wpAnyH_take (i := 0) (oi := { dst := some 9, op := Go.Op.move (Go.Operand.tmp 4), type := 3, pos := "ref.go:22", after := #[], guard := none }) (v := ?av0) rfl (by kernel_rfl) (by kernel_rfl) (by kernel_rfl) (fun _ _ _ h => h) (Or.inl ⟨by rfl, ?ay0⟩) (by assumption) ?ar0
      case ay0 => (intro w hSw; (try dsimp only at hSw); go_simp; try (with_reducible rfl))
      case ar0 =>
      try simp only [Act.put, List.setIfInBounds_toArray, List.set_cons_zero, List.set_cons_succ]
      refine wpAnyH_take (i := 1) (oi := { dst := some 10, op := Go.Op.binOp Go.BinOp.quo 3 (Go.Operand.tmp 9) (Go.Operand.const (Go.Value.int Go.IntKind.i64 4)) 3, type := 3, pos := "ref.go:22", after := #[{ on := 0, ground := Go.Ground.data }], guard := none }) (v := ?av1) rfl (by kernel_rfl) (by kernel_rfl) (by kernel_rfl) (fun _ _ _ h => h) (Or.inl ⟨by rfl, ?ay1⟩) (by assumption) ?ar1
      case ay1 => (intro w hSw; (try dsimp only at hSw); go_simp; try (with_reducible rfl))
      case ar1 =>
      try simp only [Act.put, List.setIfInBounds_toArray, List.set_cons_zero, List.set_cons_succ]
      refine wpAnyH_take (i := 2) (oi := { dst := some 11, op := Go.Op.binOp Go.BinOp.sub 3 (Go.Operand.const (Go.Value.int Go.IntKind.i64 7)) (Go.Operand.tmp 10) 3, type := 3, pos := "ref.go:22", after := #[{ on := 1, ground := Go.Ground.data }], guard := none }) (v := ?av2) rfl (by kernel_rfl) (by kernel_rfl) (by kernel_rfl) (fun _ _ _ h => h) (Or.inl ⟨by rfl, ?ay2⟩) (by assumption) ?ar2
      case ay2 => (intro w hSw; (try dsimp only at hSw); go_simp; try (with_reducible rfl))
      case ar2 =>
      try simp only [Act.put, List.setIfInBounds_toArray, List.set_cons_zero, List.set_cons_succ]
      refine wpAnyH_take (i := 3) (oi := { dst := some 12, op := Go.Op.move (Go.Operand.tmp 4), type := 3, pos := "ref.go:22", after := #[], guard := none }) (v := ?av3) rfl (by kernel_rfl) (by kernel_rfl) (by kernel_rfl) (fun _ _ _ h => h) (Or.inl ⟨by rfl, ?ay3⟩) (by assumption) ?ar3
      case ay3 => (intro w hSw; (try dsimp only at hSw); go_simp; try (with_reducible rfl))
      case ar3 =>
      try simp only [Act.put, List.setIfInBounds_toArray, List.set_cons_zero, List.set_cons_succ]
      refine wpAnyH_take (i := 4) (oi := { dst := some 13, op := Go.Op.binOp Go.BinOp.quo 3 (Go.Operand.tmp 12) (Go.Operand.const (Go.Value.int Go.IntKind.i64 4)) 3, type := 3, pos := "ref.go:22", after := #[{ on := 3, ground := Go.Ground.data }], guard := none }) (v := ?av4) rfl (by kernel_rfl) (by kernel_rfl) (by kernel_rfl) (fun _ _ _ h => h) (Or.inl ⟨by rfl, ?ay4⟩) (by assumption) ?ar4
      case ay4 => (intro w hSw; (try dsimp only at hSw); go_simp; try (with_reducible rfl))
      case ar4 =>
      try simp only [Act.put, List.setIfInBounds_toArray, List.set_cons_zero, List.set_cons_succ]
      refine wpAnyH_take (i := 5) (oi := { dst := some 14, op := Go.Op.binOp Go.BinOp.sub 3 (Go.Operand.const (Go.Value.int Go.IntKind.i64 7)) (Go.Operand.tmp 13) 3, type := 3, pos := "ref.go:22", after := #[{ on := 4, ground := Go.Ground.data }], guard := none }) (v := ?av5) rfl (by kernel_rfl) (by kernel_rfl) (by kernel_rfl) (fun _ _ _ h => h) (Or.inl ⟨by rfl, ?ay5⟩) (by assumption) ?ar5
      case ay5 => (intro w hSw; (try dsimp only at hSw); go_simp; try (with_reducible rfl))
      case ar5 =>
      try simp only [Act.put, List.setIfInBounds_toArray, List.set_cons_zero, List.set_cons_succ]
      refine wpAnyH_take (i := 6) (oi := { dst := some 15, op := Go.Op.indexAddr 76 (Go.Operand.tmp 3) (Go.Operand.tmp 14), type := 0, pos := "ref.go:22", after := #[{ on := 5, ground := Go.Ground.data }], guard := none }) (v := ?av6) rfl (by kernel_rfl) (by kernel_rfl) (by kernel_rfl) (fun _ _ _ h => h) (Or.inl ⟨by rfl, ?ay6⟩) (by assumption) ?ar6
      case ay6 => (intro w hSw; (try dsimp only at hSw); go_simp; try (with_reducible rfl))
      case ar6 =>
      try simp only [Act.put, List.setIfInBounds_toArray, List.set_cons_zero, List.set_cons_succ]
      refine wpAnyH_take (i := 9) (oi := { dst := some 18, op := Go.Op.move (Go.Operand.tmp 0), type := 22, pos := "ref.go:22", after := #[], guard := none }) (v := ?av9) rfl (by kernel_rfl) (by kernel_rfl) (by kernel_rfl) (fun _ _ _ h => h) (Or.inl ⟨by rfl, ?ay9⟩) (by assumption) ?ar9
      case ay9 => (intro w hSw; (try dsimp only at hSw); go_simp; try (with_reducible rfl))
      case ar9 =>
      try simp only [Act.put, List.setIfInBounds_toArray, List.set_cons_zero, List.set_cons_succ]
      refine wpAnyH_take (i := 10) (oi := { dst := some 19, op := Go.Op.move (Go.Operand.tmp 4), type := 3, pos := "ref.go:22", after := #[], guard := none }) (v := ?av10) rfl (by kernel_rfl) (by kernel_rfl) (by kernel_rfl) (fun _ _ _ h => h) (Or.inl ⟨by rfl, ?ay10⟩) (by assumption) ?ar10
      case ay10 => (intro w hSw; (try dsimp only at hSw); go_simp; try (with_reducible rfl))
      case ar10 =>
      try simp only [Act.put, List.setIfInBounds_toArray, List.set_cons_zero, List.set_cons_succ]
      refine wpAnyH_take (i := 11) (oi := { dst := some 20, op := Go.Op.indexAddr 22 (Go.Operand.tmp 18) (Go.Operand.tmp 19), type := 0, pos := "ref.go:22", after := #[{ on := 9, ground := Go.Ground.data }, { on := 10, ground := Go.Ground.data }], guard := none }) (v := ?av11) rfl (by kernel_rfl) (by kernel_rfl) (by kernel_rfl) (fun _ _ _ h => h) (Or.inl ⟨by rfl, ?ay11⟩) (by assumption) ?ar11
      case ay11 => (intro w hSw; (try dsimp only at hSw); go_simp; try (with_reducible rfl))
      case ar11 =>
      try simp only [Act.put, List.setIfInBounds_toArray, List.set_cons_zero, List.set_cons_succ]
      refine wpAnyH_take (i := 12) (oi := { dst := some 21, op := Go.Op.load 5 (Go.Operand.tmp 20), type := 5, pos := "ref.go:22", after := #[{ on := 11, ground := Go.Ground.data }], guard := none }) (v := ?av12) rfl (by kernel_rfl) (by kernel_rfl) (by kernel_rfl) (fun _ _ _ h => h) (Or.inl ⟨by rfl, ?ay12⟩) (by assumption) ?ar12
      case ay12 => (intro w hSw; (try dsimp only at hSw); go_simp; try (with_reducible rfl))
      case ar12 =>
      try simp only [Act.put, List.setIfInBounds_toArray, List.set_cons_zero, List.set_cons_succ]
      refine wpAnyH_take (i := 13) (oi := { dst := some 22, op := Go.Op.convert 5 27 (Go.Operand.tmp 21), type := 27, pos := "ref.go:22", after := #[{ on := 12, ground := Go.Ground.data }], guard := none }) (v := ?av13) rfl (by kernel_rfl) (by kernel_rfl) (by kernel_rfl) (fun _ _ _ h => h) (Or.inl ⟨by rfl, ?ay13⟩) (by assumption) ?ar13
      case ay13 => (intro w hSw; (try dsimp only at hSw); go_simp; try (with_reducible rfl))
      case ar13 =>
      try simp only [Act.put, List.setIfInBounds_toArray, List.set_cons_zero, List.set_cons_succ]
      refine wpAnyH_ready (rs := [7]) (by kernel_rfl) (by simp) ?_
      refine AllReadyH.cons (o := { dst := some 16, op := Go.Op.load 27 (Go.Operand.tmp 15), type := 27, pos := "ref.go:22", after := #[{ on := 6, ground := Go.Ground.data }], guard := none }) rfl (fun K hK => ?_) (AllReadyH.nil)
      go_simp
      refine hK.out _ _ ?_ (fun hHeld => ?_)
      · exact hbc
      clear hK K
      try simp only [Act.put, List.setIfInBounds_toArray, List.set_cons_zero, List.set_cons_succ]
      refine wpAnyH_take (i := 8) (oi := { dst := some 17, op := Go.Op.binOp Go.BinOp.mul 27 (Go.Operand.tmp 16) (Go.Operand.const (Go.Value.int Go.IntKind.u32 256)) 27, type := 27, pos := "ref.go:22", after := #[{ on := 7, ground := Go.Ground.data }], guard := none }) (v := ?a_7v8) rfl (by kernel_rfl) (by kernel_rfl) (by kernel_rfl) (fun _ _ _ h => h) (Or.inl ⟨by rfl, ?a_7y8⟩) (by assumption) ?a_7r8
      case a_7y8 => (intro w hSw; (try dsimp only at hSw); go_simp; try (with_reducible rfl))
      case a_7r8 =>
      try simp only [Act.put, List.setIfInBounds_toArray, List.set_cons_zero, List.set_cons_succ]
      refine wpAnyH_take (i := 14) (oi := { dst := some 23, op := Go.Op.binOp Go.BinOp.add 27 (Go.Operand.tmp 17) (Go.Operand.tmp 22) 27, type := 27, pos := "ref.go:22", after := #[{ on := 8, ground := Go.Ground.data }, { on := 13, ground := Go.Ground.data }], guard := none }) (v := ?a_7v14) rfl (by kernel_rfl) (by kernel_rfl) (by kernel_rfl) (fun _ _ _ h => h) (Or.inl ⟨by rfl, ?a_7y14⟩) (by assumption) ?a_7r14
      case a_7y14 => (intro w hSw; (try dsimp only at hSw); go_simp; try (with_reducible rfl))
      case a_7r14 =>
      try simp only [Act.put, List.setIfInBounds_toArray, List.set_cons_zero, List.set_cons_succ]
      refine wpAnyH_take (i := 15) (oi := { dst := some 24, op := Go.Op.indexAddr 76 (Go.Operand.tmp 3) (Go.Operand.tmp 11), type := 0, pos := "ref.go:22", after := #[{ on := 2, ground := Go.Ground.data }, { on := 0, ground := Go.Ground.phase }, { on := 1, ground := Go.Ground.phase }, { on := 2, ground := Go.Ground.phase }, { on := 3, ground := Go.Ground.phase }, { on := 4, ground := Go.Ground.phase }, { on := 5, ground := Go.Ground.phase }, { on := 6, ground := Go.Ground.phase }, { on := 7, ground := Go.Ground.phase }, { on := 8, ground := Go.Ground.phase }, { on := 9, ground := Go.Ground.phase }, { on := 10, ground := Go.Ground.phase }, { on := 11, ground := Go.Ground.phase }, { on := 12, ground := Go.Ground.phase }, { on := 13, ground := Go.Ground.phase }, { on := 14, ground := Go.Ground.phase }], guard := none }) (v := ?a_7v15) rfl (by kernel_rfl) (by kernel_rfl) (by kernel_rfl) (fun _ _ _ h => h) (Or.inl ⟨by rfl, ?a_7y15⟩) (by assumption) ?a_7r15
      case a_7y15 => (intro w hSw; (try dsimp only at hSw); go_simp; try (with_reducible rfl))
      case a_7r15 =>
      try simp only [Act.put, List.setIfInBounds_toArray, List.set_cons_zero, List.set_cons_succ]
      refine wpAnyH_ready (rs := [16]) (by kernel_rfl) (by simp) ?_
      refine AllReadyH.cons (o := { dst := none, op := Go.Op.store 27 (Go.Operand.tmp 24) (Go.Operand.tmp 23), type := 0, pos := "ref.go:22", after := #[{ on := 15, ground := Go.Ground.data }, { on := 14, ground := Go.Ground.data }, { on := 0, ground := Go.Ground.phase }, { on := 1, ground := Go.Ground.phase }, { on := 2, ground := Go.Ground.phase }, { on := 3, ground := Go.Ground.phase }, { on := 4, ground := Go.Ground.phase }, { on := 5, ground := Go.Ground.phase }, { on := 6, ground := Go.Ground.phase }, { on := 7, ground := Go.Ground.phase }, { on := 8, ground := Go.Ground.phase }, { on := 9, ground := Go.Ground.phase }, { on := 10, ground := Go.Ground.phase }, { on := 11, ground := Go.Ground.phase }, { on := 12, ground := Go.Ground.phase }, { on := 13, ground := Go.Ground.phase }, { on := 14, ground := Go.Ground.phase }], guard := none }) rfl (fun K hK => ?_) (AllReadyH.nil)
      go_simp
      refine hK.out _ _ ?_ (fun hHeld => ?_)
      · exact KB
      clear hK K
      try simp only [Act.put]
      refine wpAnyH_done (by kernel_rfl) ?_ _
      go_wp2_with fail
      exact ⟨⟨i + 1, by omega, by go_num, HS3.out, HR3.out, HB3.out⟩, by simp [intOf]; omega⟩
    · obtain rfl : i = 32 := by omega
      have e32 : ((32 : Nat) : Int) = 32 := rfl
      rw [e32]
      obtain ⟨P, hP⟩ : ∃ l, l = quadsTo bs 32 := ⟨_, rfl⟩
      have hpl : P.length = 8 := by rw [hP, quadsTo_length]
      rw [← hP] at hrow
      have HFIN := Lib.hid (setRow_irow (ys := P) hres)
      have HBR := Lib.hid (below_setRow hbel (Nat.le_refl GA) (P.map (Value.int .u32)).toArray)
      have HROW := Lib.hid hrow
      have HRES := Lib.hid hres
      have HPL := Lib.hid hpl
      have HP := Lib.hid hP
      clear e32 hrow hbel hres h32 hpl hP
      go_wp2_with (first
        | (refine wpList_load_irow rfl 76 (.tmp 3) rfl (g := GA + 1) (t := 76) (k := .u32) (xs := P) rfl HROW.out Tryd.underlying76 (by rw [HPL.out]; exact info_Num) ?_)
        | (refine wpList_store_irow rfl 76 (.tmp 2) (.tmp 25) rfl (g := GA) (t := 76) (k := .u32) (xs := List.replicate 8 0) (ys := P) rfl rfl HRES.out (by rw [HPL.out]; exact info_Num) (by rw [HPL.out]; rfl) ?_))
      refine bodyPost_ret (v := .agg (P.map (Value.int .u32)).toArray) ?_ rfl ⟨by rw [HP.out]; rfl, by rw [← HGA.out]; exact HBR.out⟩
      exact results_cell_row Tryd.results34 _ _ GA 76 (P.map (Value.int .u32)).toArray (0, 0) _ rfl HFIN.out Tryd.underlying76 rfl (by rw [List.size_toArray, List.length_map, HPL.out]; exact info_Num)
end Go.Proofs.YtfkpdbmgiefnfaaDoor.Hk

/-
  The reference's N, Less, Key, walked. Conditions: words are words.
-/
namespace Go.Proofs.YtfkpdbmgiefnfaaDoor.Hk
open Go.RowKit

def orderQ : List Int := [3493216577, 3218235020, 2940772411, 3132021990, 4294967294, 4294967295, 4294967295, 4294967295]
theorem orderQ_u : U32s orderQ := by unfold U32s orderQ; decide
theorem order_same : numQ orderQ = numW orderW := by decide
theorem build_N (W : World) : (Instr.build 76 #[(0, .int .u32 3493216577), (1, .int .u32 3218235020), (2, .int .u32 2940772411), (3, .int .u32 3132021990), (4, .int .u32 4294967294), (5, .int .u32 4294967295), (6, .int .u32 4294967295), (7, .int .u32 4294967295)]).run Tryd.prog W = .ok (qV orderQ) W := by kernel_rfl

set_option maxRecDepth 100000 in
set_option maxHeartbeats 3200000 in
theorem n_any (w : World) : Calls Tryd.prog 51 #[] w fun e w' => e = .returned (qV orderQ) ∧ Below w.heap.size w w' := by
  have z1 := zero_Num
  have r1 := IRow.new w 76 .u32 (List.replicate 8 0)
  have b1 : Below w.heap.size w (w.alloc (.cells ((List.replicate 8 (0 : Int)).map (Value.int .u32)).toArray 76)) := (Below.refl _ w).alloc (Nat.le_refl _) _
  have HF := Lib.hid (setRow_irow (ys := orderQ) r1)
  have HB := Lib.hid (below_setRow b1 (Nat.le_refl _) (orderQ.map (Value.int .u32)).toArray)
  have R1 := Lib.hid r1
  have BN := Lib.hid build_N
  clear r1 b1
  go_enter Tryd.func51, Tryd.ntmps51
  go_wp2_with (first
    | (refine S5.wpList_build_lit rfl 76 _ (qV orderQ) rfl (fun W => by (simp only [List.map_toArray, List.map_cons, List.map_nil]; exact BN.out W)) ?_)
    | (refine wpList_store_irow rfl 76 (.tmp 0) (.tmp 1) rfl (g := w.heap.size) (t := 76) (k := .u32) (xs := List.replicate 8 0) (ys := orderQ) rfl rfl R1.out info_Num rfl ?_))
  refine bodyPost_ret (v := qV orderQ) ?_ rfl ⟨rfl, HB.out⟩
  exact results_cell_row Tryd.results51 _ _ w.heap.size 76 (orderQ.map (Value.int .u32)).toArray (0, 0) _ rfl HF.out Tryd.underlying76 rfl info_Num

theorem nat_atQ {xs : List Int} {i : Nat} (h : U32s xs) (hi : i < xs.length) : ∃ x : Nat, xs[i]? = some (x : Int) ∧ x < 4294967296 := by
  obtain ⟨h0, h1⟩ := h _ (List.getElem_mem hi)
  exact ⟨(xs[i]).toNat, by rw [List.getElem?_eq_getElem hi]; congr 1; omega, by omega⟩
theorem U32s.take {xs : List Int} (h : U32s xs) (n : Nat) : U32s (xs.take n) := fun x hx => h x (List.mem_of_mem_take hx)
theorem numQ_at {xs : List Int} {k : Nat} {x : Nat} (hx : xs[k]? = some (x : Int)) : numQ xs = numQ (xs.take k) + 4294967296 ^ k * x + 4294967296 ^ (k + 1) * numQ (xs.drop (k + 1)) := by
  have hl := (List.getElem?_eq_some_iff.1 hx).1
  have e : xs = (xs.take k ++ [(x : Int)]) ++ xs.drop (k + 1) := by
    have e1 := (List.take_append_drop (k + 1) xs).symm
    rw [List.take_add_one, hx] at e1
    exact e1
  conv => lhs; rw [e]
  rw [numQ_append, numQ_append, List.length_append, List.length_take, Nat.min_eq_left (by omega)]
  simp [numQ]
/-- The first word from above that differs decides. -/
theorem less_at {xs ys : List Int} {k x y : Nat} (hx : xs[k]? = some (x : Int)) (hy : ys[k]? = some (y : Int)) (ux : U32s xs) (uy : U32s ys) (hd : xs.drop (k + 1) = ys.drop (k + 1)) (hne : x ≠ y) :
    decide (numQ xs < numQ ys) = decide (x < y) := by
  have hxl := (List.getElem?_eq_some_iff.1 hx).1
  have hyl := (List.getElem?_eq_some_iff.1 hy).1
  have lx := numQ_lt (xs.take k) (ux.take k)
  have ly := numQ_lt (ys.take k) (uy.take k)
  rw [List.length_take, Nat.min_eq_left (by omega)] at lx ly
  rw [numQ_at hx, numQ_at hy, hd]
  generalize numQ (xs.take k) = a at *
  generalize numQ (ys.take k) = b at *
  generalize 4294967296 ^ (k + 1) * numQ (ys.drop (k + 1)) = q at *
  generalize 4294967296 ^ k = P at *
  rw [decide_eq_decide]
  rcases Nat.lt_or_gt_of_ne hne with h | h
  · have := Nat.mul_le_mul_left P (show x + 1 ≤ y by omega)
    rw [Nat.mul_add, Nat.mul_one] at this
    omega
  · have := Nat.mul_le_mul_left P (show y + 1 ≤ x by omega)
    rw [Nat.mul_add, Nat.mul_one] at this
    omega
theorem same_at {xs ys : List Int} {k x : Nat} (hx : xs[k]? = some (x : Int)) (hy : ys[k]? = some (x : Int)) (hd : xs.drop (k + 1) = ys.drop (k + 1)) : xs.drop k = ys.drop k := by
  have hxl := (List.getElem?_eq_some_iff.1 hx)
  have hyl := (List.getElem?_eq_some_iff.1 hy)
  rw [List.drop_eq_getElem_cons hxl.1, List.drop_eq_getElem_cons hyl.1, hxl.2, hyl.2, hd]

set_option maxRecDepth 100000 in
set_option maxHeartbeats 6400000 in
theorem less_any (xs ys : List Int) (w : World) (hxl : xs.length = 8) (hyl : ys.length = 8) (ux : U32s xs) (uy : U32s ys) :
    Calls Tryd.prog 50 #[qV xs, qV ys] w fun e w' => e = .returned (.bool (decide (numQ xs < numQ ys))) ∧ Below w.heap.size w w' := by
  obtain ⟨W, hW, r1, r2, bel, hsz⟩ := two_boxes w 76 .u32 xs ys
  obtain ⟨GA, hGA⟩ : ∃ g, g = w.heap.size := ⟨_, rfl⟩
  rw [← hGA] at r1 r2 bel hsz
  have HXL := Lib.hid hxl
  have HYL := Lib.hid hyl
  have UX := Lib.hid ux
  have UY := Lib.hid uy
  have HW := Lib.hid hW
  have R1 := Lib.hid r1
  have R2 := Lib.hid r2
  have BEL := Lib.hid bel
  have HGA := Lib.hid hGA
  obtain ⟨VX, hVX⟩ : ∃ V, V = (xs.map (Value.int .u32)).toArray := ⟨_, rfl⟩
  obtain ⟨VY, hVY⟩ : ∃ V, V = (ys.map (Value.int .u32)).toArray := ⟨_, rfl⟩
  unfold qV
  rw [← hVX, ← hVY] at HW ⊢
  clear hxl hyl ux uy hW r1 r2 bel hsz hGA hVX hVY
  go_enter Tryd.func50, Tryd.ntmps50
  go_upto_region 1 with fail
  change Code.wp _ _ _ _ ((w.alloc (.cells VX 76)).alloc (.cells VY 76))
  rw [← HW.out, show w.heap.size = GA from HGA.out.symm]
  clear HW
  try dsimp only [Act.put]
  go_wp2_with fail
  go_loopw [5] (fun v5 wr => ∃ k : Nat, k ≤ 8 ∧ v5 = .int .i64 ((k : Int) - 1) ∧ Hid (xs.drop k = ys.drop k) ∧ IRow wr GA 76 .u32 xs ∧ IRow wr (GA + 1) 76 .u32 ys ∧ Below GA w wr) (fun v5 _ => (intOf v5 + 1).toNat)
  case atStart => exact ⟨8, by omega, rfl, Lib.hid (by rw [List.drop_of_length_le (by rw [HXL.out]; omega), List.drop_of_length_le (by rw [HYL.out]; omega)]), R1.out, R2.out, BEL.out⟩
  case round =>
    obtain ⟨k, hk, rfl, hd, hx, hy, hbel⟩ := hrel
    by_cases h0 : 0 < k
    · obtain ⟨i, rfl⟩ : ∃ i, k = i + 1 := ⟨k - 1, by omega⟩
      have ei : ((i + 1 : Nat) : Int) - 1 = (i : Int) := by omega
      rw [ei]
      obtain ⟨x, hxi, hxs⟩ := nat_atQ UX.out (show i < xs.length by rw [HXL.out]; omega)
      obtain ⟨y, hyi, hys⟩ := nat_atQ UY.out (show i < ys.length by rw [HYL.out]; omega)
      have hx0 : IRow wr.drew GA 76 .u32 xs := hx
      have hy0 : IRow wr.drew (GA + 1) 76 .u32 ys := hy
      have cx := hx0.cell hxi
      have cy := hy0.cell hyi
      have bi : (i : Int) < 8 := by omega
      have HX := Lib.hid hx0
      have HY := Lib.hid hy0
      have HB := Lib.hid hbel.drew
      have HXI := Lib.hid hxi
      have HYI := Lib.hid hyi
      clear ei hxi hyi hx hy hbel hx0 hy0
      by_cases hne : x = y
      · subst hne
        have hn : ((x : Int) != (x : Int)) = false := by simp
        go_wp2_with fail
        refine wp_region_held_drew (S := (fun w' => w'.cell? ⟨GA, i, none⟩ = some (.int .u32 (x : Int)) ∧ w'.cell? ⟨GA + 1, i, none⟩ = some (.int .u32 (x : Int)))) (by kernel_rfl) ?_ (fun hHeld => ?_)
        · exact ⟨cx, cy⟩
        refine wpAnyH_take (i := 0) (oi := { dst := some 10, op := Go.Op.move (Go.Operand.tmp 5), type := 3, pos := "ref.go:39", after := #[], guard := none }) (v := ?av0) rfl (by kernel_rfl) (by kernel_rfl) (by kernel_rfl) (fun _ _ _ h => h) (Or.inl ⟨by rfl, ?ay0⟩) (by assumption) ?ar0
        case ay0 => (intro w hSw; (try dsimp only at hSw); go_simp; try (with_reducible rfl))
        case ar0 =>
        try simp only [Act.put, List.setIfInBounds_toArray, List.set_cons_zero, List.set_cons_succ]
        refine wpAnyH_take (i := 1) (oi := { dst := some 11, op := Go.Op.indexAddr 76 (Go.Operand.tmp 2) (Go.Operand.tmp 10), type := 0, pos := "ref.go:39", after := #[{ on := 0, ground := Go.Ground.data }], guard := none }) (v := ?av1) rfl (by kernel_rfl) (by kernel_rfl) (by kernel_rfl) (fun _ _ _ h => h) (Or.inl ⟨by rfl, ?ay1⟩) (by assumption) ?ar1
        case ay1 => (intro w hSw; (try dsimp only at hSw); go_simp; try (with_reducible rfl))
        case ar1 =>
        try simp only [Act.put, List.setIfInBounds_toArray, List.set_cons_zero, List.set_cons_succ]
        refine wpAnyH_take (i := 2) (oi := { dst := some 12, op := Go.Op.load 27 (Go.Operand.tmp 11), type := 27, pos := "ref.go:39", after := #[{ on := 1, ground := Go.Ground.data }], guard := none }) (v := ?av2) rfl (by kernel_rfl) (by kernel_rfl) (by kernel_rfl) (fun _ _ _ h => h) (Or.inl ⟨by rfl, ?ay2⟩) (by assumption) ?ar2
        case ay2 => (intro w hSw; (try dsimp only at hSw); go_simp; try (with_reducible rfl))
        case ar2 =>
        try simp only [Act.put, List.setIfInBounds_toArray, List.set_cons_zero, List.set_cons_succ]
        refine wpAnyH_take (i := 3) (oi := { dst := some 13, op := Go.Op.move (Go.Operand.tmp 5), type := 3, pos := "ref.go:39", after := #[], guard := none }) (v := ?av3) rfl (by kernel_rfl) (by kernel_rfl) (by kernel_rfl) (fun _ _ _ h => h) (Or.inl ⟨by rfl, ?ay3⟩) (by assumption) ?ar3
        case ay3 => (intro w hSw; (try dsimp only at hSw); go_simp; try (with_reducible rfl))
        case ar3 =>
        try simp only [Act.put, List.setIfInBounds_toArray, List.set_cons_zero, List.set_cons_succ]
        refine wpAnyH_take (i := 4) (oi := { dst := some 14, op := Go.Op.indexAddr 76 (Go.Operand.tmp 3) (Go.Operand.tmp 13), type := 0, pos := "ref.go:39", after := #[{ on := 3, ground := Go.Ground.data }], guard := none }) (v := ?av4) rfl (by kernel_rfl) (by kernel_rfl) (by kernel_rfl) (fun _ _ _ h => h) (Or.inl ⟨by rfl, ?ay4⟩) (by assumption) ?ar4
        case ay4 => (intro w hSw; (try dsimp only at hSw); go_simp; try (with_reducible rfl))
        case ar4 =>
        try simp only [Act.put, List.setIfInBounds_toArray, List.set_cons_zero, List.set_cons_succ]
        refine wpAnyH_take (i := 5) (oi := { dst := some 15, op := Go.Op.load 27 (Go.Operand.tmp 14), type := 27, pos := "ref.go:39", after := #[{ on := 4, ground := Go.Ground.data }], guard := none }) (v := ?av5) rfl (by kernel_rfl) (by kernel_rfl) (by kernel_rfl) (fun _ _ _ h => h) (Or.inl ⟨by rfl, ?ay5⟩) (by assumption) ?ar5
        case ay5 => (intro w hSw; (try dsimp only at hSw); go_simp; try (with_reducible rfl))
        case ar5 =>
        try simp only [Act.put, List.setIfInBounds_toArray, List.set_cons_zero, List.set_cons_succ]
        refine wpAnyH_take (i := 6) (oi := { dst := some 16, op := Go.Op.binOp Go.BinOp.neq 27 (Go.Operand.tmp 12) (Go.Operand.tmp 15) 27, type := 4, pos := "ref.go:39", after := #[{ on := 2, ground := Go.Ground.data }, { on := 5, ground := Go.Ground.data }], guard := none }) (v := (.bool false)) rfl (by kernel_rfl) (by kernel_rfl) (by kernel_rfl) (fun _ _ _ h => h) (Or.inl ⟨by rfl, ?ay6⟩) (by assumption) ?ar6
        case ay6 => (intro w hSw; (try dsimp only at hSw); go_simp; try (simp))
        case ar6 =>
        try simp only [Act.put, List.setIfInBounds_toArray, List.set_cons_zero, List.set_cons_succ]
        refine wpAnyH_done (by kernel_rfl) ?_ _
        go_wp2_with fail
        exact ⟨⟨i, by omega, by go_num, Lib.hid (same_at HXI.out HYI.out hd.out), HX.out, HY.out, HB.out⟩, by simp [intOf]⟩
      · have hn : ((x : Int) != (y : Int)) = true := by simp; omega
        have hx1 : IRow wr.drew.drew GA 76 .u32 xs := HX.out
        have hy1 : IRow wr.drew.drew (GA + 1) 76 .u32 ys := HY.out
        have dx := hx1.cell HXI.out
        have dy := hy1.cell HYI.out
        have HLT := Lib.hid (less_at HXI.out HYI.out UX.out UY.out hd.out hne)
        have HB2 := Lib.hid HB.out.drew
        clear hx1 hy1
        go_wp2_with fail
        refine wp_region_held_drew (S := (fun w' => w'.cell? ⟨GA, i, none⟩ = some (.int .u32 (x : Int)) ∧ w'.cell? ⟨GA + 1, i, none⟩ = some (.int .u32 (y : Int)))) (by kernel_rfl) ?_ (fun hHeld => ?_)
        · exact ⟨cx, cy⟩
        refine wpAnyH_take (i := 0) (oi := { dst := some 10, op := Go.Op.move (Go.Operand.tmp 5), type := 3, pos := "ref.go:39", after := #[], guard := none }) (v := ?cv0) rfl (by kernel_rfl) (by kernel_rfl) (by kernel_rfl) (fun _ _ _ h => h) (Or.inl ⟨by rfl, ?cy0⟩) (by assumption) ?cr0
        case cy0 => (intro w hSw; (try dsimp only at hSw); go_simp; try (with_reducible rfl))
        case cr0 =>
        try simp only [Act.put, List.setIfInBounds_toArray, List.set_cons_zero, List.set_cons_succ]
        refine wpAnyH_take (i := 1) (oi := { dst := some 11, op := Go.Op.indexAddr 76 (Go.Operand.tmp 2) (Go.Operand.tmp 10), type := 0, pos := "ref.go:39", after := #[{ on := 0, ground := Go.Ground.data }], guard := none }) (v := ?cv1) rfl (by kernel_rfl) (by kernel_rfl) (by kernel_rfl) (fun _ _ _ h => h) (Or.inl ⟨by rfl, ?cy1⟩) (by assumption) ?cr1
        case cy1 => (intro w hSw; (try dsimp only at hSw); go_simp; try (with_reducible rfl))
        case cr1 =>
        try simp only [Act.put, List.setIfInBounds_toArray, List.set_cons_zero, List.set_cons_succ]
        refine wpAnyH_take (i := 2) (oi := { dst := some 12, op := Go.Op.load 27 (Go.Operand.tmp 11), type := 27, pos := "ref.go:39", after := #[{ on := 1, ground := Go.Ground.data }], guard := none }) (v := ?cv2) rfl (by kernel_rfl) (by kernel_rfl) (by kernel_rfl) (fun _ _ _ h => h) (Or.inl ⟨by rfl, ?cy2⟩) (by assumption) ?cr2
        case cy2 => (intro w hSw; (try dsimp only at hSw); go_simp; try (with_reducible rfl))
        case cr2 =>
        try simp only [Act.put, List.setIfInBounds_toArray, List.set_cons_zero, List.set_cons_succ]
        refine wpAnyH_take (i := 3) (oi := { dst := some 13, op := Go.Op.move (Go.Operand.tmp 5), type := 3, pos := "ref.go:39", after := #[], guard := none }) (v := ?cv3) rfl (by kernel_rfl) (by kernel_rfl) (by kernel_rfl) (fun _ _ _ h => h) (Or.inl ⟨by rfl, ?cy3⟩) (by assumption) ?cr3
        case cy3 => (intro w hSw; (try dsimp only at hSw); go_simp; try (with_reducible rfl))
        case cr3 =>
        try simp only [Act.put, List.setIfInBounds_toArray, List.set_cons_zero, List.set_cons_succ]
        refine wpAnyH_take (i := 4) (oi := { dst := some 14, op := Go.Op.indexAddr 76 (Go.Operand.tmp 3) (Go.Operand.tmp 13), type := 0, pos := "ref.go:39", after := #[{ on := 3, ground := Go.Ground.data }], guard := none }) (v := ?cv4) rfl (by kernel_rfl) (by kernel_rfl) (by kernel_rfl) (fun _ _ _ h => h) (Or.inl ⟨by rfl, ?cy4⟩) (by assumption) ?cr4
        case cy4 => (intro w hSw; (try dsimp only at hSw); go_simp; try (with_reducible rfl))
        case cr4 =>
        try simp only [Act.put, List.setIfInBounds_toArray, List.set_cons_zero, List.set_cons_succ]
        refine wpAnyH_take (i := 5) (oi := { dst := some 15, op := Go.Op.load 27 (Go.Operand.tmp 14), type := 27, pos := "ref.go:39", after := #[{ on := 4, ground := Go.Ground.data }], guard := none }) (v := ?cv5) rfl (by kernel_rfl) (by kernel_rfl) (by kernel_rfl) (fun _ _ _ h => h) (Or.inl ⟨by rfl, ?cy5⟩) (by assumption) ?cr5
        case cy5 => (intro w hSw; (try dsimp only at hSw); go_simp; try (with_reducible rfl))
        case cr5 =>
        try simp only [Act.put, List.setIfInBounds_toArray, List.set_cons_zero, List.set_cons_succ]
        refine wpAnyH_take (i := 6) (oi := { dst := some 16, op := Go.Op.binOp Go.BinOp.neq 27 (Go.Operand.tmp 12) (Go.Operand.tmp 15) 27, type := 4, pos := "ref.go:39", after := #[{ on := 2, ground := Go.Ground.data }, { on := 5, ground := Go.Ground.data }], guard := none }) (v := (.bool true)) rfl (by kernel_rfl) (by kernel_rfl) (by kernel_rfl) (fun _ _ _ h => h) (Or.inl ⟨by rfl, ?cy6⟩) (by assumption) ?cr6
        case cy6 => (intro w hSw; (try dsimp only at hSw); go_simp; try (simp; omega))
        case cr6 =>
        try simp only [Act.put, List.setIfInBounds_toArray, List.set_cons_zero, List.set_cons_succ]
        refine wpAnyH_done (by kernel_rfl) ?_ _
        go_wp2_with fail
        refine wp_region_held_drew (S := (fun w' => w'.cell? ⟨GA, i, none⟩ = some (.int .u32 (x : Int)) ∧ w'.cell? ⟨GA + 1, i, none⟩ = some (.int .u32 (y : Int)))) (by kernel_rfl) ?_ (fun hHeld => ?_)
        · exact ⟨dx, dy⟩
        refine wpAnyH_take (i := 0) (oi := { dst := some 17, op := Go.Op.move (Go.Operand.tmp 5), type := 3, pos := "ref.go:40", after := #[], guard := none }) (v := ?bv0) rfl (by kernel_rfl) (by kernel_rfl) (by kernel_rfl) (fun _ _ _ h => h) (Or.inl ⟨by rfl, ?by0⟩) (by assumption) ?br0
        case by0 => (intro w hSw; (try dsimp only at hSw); go_simp; try (with_reducible rfl))
        case br0 =>
        try simp only [Act.put, List.setIfInBounds_toArray, List.set_cons_zero, List.set_cons_succ]
        refine wpAnyH_take (i := 1) (oi := { dst := some 18, op := Go.Op.indexAddr 76 (Go.Operand.tmp 2) (Go.Operand.tmp 17), type := 0, pos := "ref.go:40", after := #[{ on := 0, ground := Go.Ground.data }], guard := none }) (v := ?bv1) rfl (by kernel_rfl) (by kernel_rfl) (by kernel_rfl) (fun _ _ _ h => h) (Or.inl ⟨by rfl, ?by1⟩) (by assumption) ?br1
        case by1 => (intro w hSw; (try dsimp only at hSw); go_simp; try (with_reducible rfl))
        case br1 =>
        try simp only [Act.put, List.setIfInBounds_toArray, List.set_cons_zero, List.set_cons_succ]
        refine wpAnyH_take (i := 2) (oi := { dst := some 19, op := Go.Op.load 27 (Go.Operand.tmp 18), type := 27, pos := "ref.go:40", after := #[{ on := 1, ground := Go.Ground.data }], guard := none }) (v := ?bv2) rfl (by kernel_rfl) (by kernel_rfl) (by kernel_rfl) (fun _ _ _ h => h) (Or.inl ⟨by rfl, ?by2⟩) (by assumption) ?br2
        case by2 => (intro w hSw; (try dsimp only at hSw); go_simp; try (with_reducible rfl))
        case br2 =>
        try simp only [Act.put, List.setIfInBounds_toArray, List.set_cons_zero, List.set_cons_succ]
        refine wpAnyH_take (i := 3) (oi := { dst := some 20, op := Go.Op.move (Go.Operand.tmp 5), type := 3, pos := "ref.go:40", after := #[], guard := none }) (v := ?bv3) rfl (by kernel_rfl) (by kernel_rfl) (by kernel_rfl) (fun _ _ _ h => h) (Or.inl ⟨by rfl, ?by3⟩) (by assumption) ?br3
        case by3 => (intro w hSw; (try dsimp only at hSw); go_simp; try (with_reducible rfl))
        case br3 =>
        try simp only [Act.put, List.setIfInBounds_toArray, List.set_cons_zero, List.set_cons_succ]
        refine wpAnyH_take (i := 4) (oi := { dst := some 21, op := Go.Op.indexAddr 76 (Go.Operand.tmp 3) (Go.Operand.tmp 20), type := 0, pos := "ref.go:40", after := #[{ on := 3, ground := Go.Ground.data }], guard := none }) (v := ?bv4) rfl (by kernel_rfl) (by kernel_rfl) (by kernel_rfl) (fun _ _ _ h => h) (Or.inl ⟨by rfl, ?by4⟩) (by assumption) ?br4
        case by4 => (intro w hSw; (try dsimp only at hSw); go_simp; try (with_reducible rfl))
        case br4 =>
        try simp only [Act.put, List.setIfInBounds_toArray, List.set_cons_zero, List.set_cons_succ]
        refine wpAnyH_take (i := 5) (oi := { dst := some 22, op := Go.Op.load 27 (Go.Operand.tmp 21), type := 27, pos := "ref.go:40", after := #[{ on := 4, ground := Go.Ground.data }], guard := none }) (v := ?bv5) rfl (by kernel_rfl) (by kernel_rfl) (by kernel_rfl) (fun _ _ _ h => h) (Or.inl ⟨by rfl, ?by5⟩) (by assumption) ?br5
        case by5 => (intro w hSw; (try dsimp only at hSw); go_simp; try (with_reducible rfl))
        case br5 =>
        try simp only [Act.put, List.setIfInBounds_toArray, List.set_cons_zero, List.set_cons_succ]
        refine wpAnyH_take (i := 6) (oi := { dst := some 23, op := Go.Op.binOp Go.BinOp.lss 27 (Go.Operand.tmp 19) (Go.Operand.tmp 22) 27, type := 4, pos := "ref.go:40", after := #[{ on := 2, ground := Go.Ground.data }, { on := 5, ground := Go.Ground.data }], guard := none }) (v := ?bv6) rfl (by kernel_rfl) (by kernel_rfl) (by kernel_rfl) (fun _ _ _ h => h) (Or.inl ⟨by rfl, ?by6⟩) (by assumption) ?br6
        case by6 => (intro w hSw; (try dsimp only at hSw); go_simp; try (with_reducible rfl))
        case br6 =>
        try simp only [Act.put, List.setIfInBounds_toArray, List.set_cons_zero, List.set_cons_succ]
        refine wpAnyH_take (i := 7) (oi := { dst := some 4, op := Go.Op.assign (Go.Operand.tmp 23), type := 4, pos := "ref.go:40", after := #[{ on := 6, ground := Go.Ground.data }, { on := 0, ground := Go.Ground.phase }, { on := 1, ground := Go.Ground.phase }, { on := 2, ground := Go.Ground.phase }, { on := 3, ground := Go.Ground.phase }, { on := 4, ground := Go.Ground.phase }, { on := 5, ground := Go.Ground.phase }, { on := 6, ground := Go.Ground.phase }], guard := none }) (v := ?bv7) rfl (by kernel_rfl) (by kernel_rfl) (by kernel_rfl) (fun _ _ _ h => h) (Or.inl ⟨by rfl, ?by7⟩) (by assumption) ?br7
        case by7 => (intro w hSw; (try dsimp only at hSw); go_simp; try (with_reducible rfl))
        case br7 =>
        try simp only [Act.put, List.setIfInBounds_toArray, List.set_cons_zero, List.set_cons_succ]
        refine wpAnyH_done (by kernel_rfl) ?_ _
        go_wp2_with fail
        go_ret
        exact ⟨by rw [HLT.out]; first | rfl | (simp; done), by rw [← HGA.out]; exact HB2.out⟩
    · obtain rfl : k = 0 := by omega
      have hf : decide (numQ xs < numQ ys) = false := by
        have := hd.out
        rw [List.drop_zero, List.drop_zero] at this
        rw [this]
        simp
      have HFF := Lib.hid hf
      have HB := Lib.hid hbel
      have e0 : ((0 : Nat) : Int) - 1 = -1 := rfl
      rw [e0]
      clear e0 hf hx hy hbel hd
      go_wp2_with fail
      go_ret
      exact ⟨by rw [HFF.out]; rfl, by rw [← HGA.out]; exact HB.out⟩
end Go.Proofs.YtfkpdbmgiefnfaaDoor.Hk

/-
  The reference's Key, secret, Good, walked. Conditions: words are words; a key's data begins with 0.
-/
namespace Go.Proofs.YtfkpdbmgiefnfaaDoor.Hk
open Go.RowKit

/-- Is it a key? -/
def keyQ (xs : List Int) : Bool := decide (numQ xs ≠ 0) && decide (numQ xs < numQ orderQ)
theorem keyQ_same {bs : List UInt8} (h : bs.length = 32) : keyQ (quads bs) = keyW (words4 bs) := by
  unfold keyQ keyW
  rw [words_quads h, order_same]
theorem size_u32 (w : World) : (sizeOf 27).run Tryd.prog w = .ok 1 w := by kernel_rfl
theorem zero_of {xs : List Int} (u : U32s xs) : numQ xs = 0 ↔ ∀ x ∈ xs, x = 0 := by
  induction xs with
  | nil => simp [numQ]
  | cons x xs ih =>
    have h := u x (List.mem_cons_self ..)
    have ih := ih (fun y hy => u y (List.mem_cons_of_mem _ hy))
    rw [numQ]
    constructor
    · intro e y hy
      rcases List.mem_cons.1 hy with rfl | hy
      · omega
      · exact ih.1 (by omega) y hy
    · intro e
      have e1 := e x (List.mem_cons_self ..)
      have e2 := ih.2 (fun y hy => e y (List.mem_cons_of_mem _ hy))
      omega
set_option maxRecDepth 100000 in
theorem eq_zero8 (xs : List Int) (hl : xs.length = 8) (hx : U32s xs) (w : World) :
    (Op.equalIn 10000 76 (.agg (xs.map (Value.int .u32)).toArray) (.agg #[.int .u32 0, .int .u32 0, .int .u32 0, .int .u32 0, .int .u32 0, .int .u32 0, .int .u32 0, .int .u32 0])).run Tryd.prog w = .ok (decide (numQ xs = 0)) w := by
  have K := run_equalIn_ints (P := Tryd.prog) .u32 9998 76 27 8 Tryd.underlying76 Tryd.underlying27 size_u32 xs (List.replicate 8 0) hl rfl w
  refine K.trans ?_
  congr 1
  rw [Bool.eq_iff_iff, decide_eq_true_eq, beq_iff_eq, zero_of hx, List.eq_replicate_iff]
  exact ⟨fun h => h.2, fun h => ⟨hl, h⟩⟩

set_option maxRecDepth 100000 in
set_option maxHeartbeats 6400000 in
theorem key_any (xs : List Int) (w : World) (hl : xs.length = 8) (hu : U32s xs) :
    Calls Tryd.prog 33 #[qV xs] w fun e w' => e = .returned (.bool (keyQ xs)) ∧ Below w.heap.size w w' := by
  have r1 := IRow.new w 76 .u32 xs
  have b1 : Below w.heap.size w (w.alloc (.cells (xs.map (Value.int .u32)).toArray 76)) := (Below.refl _ w).alloc (Nat.le_refl _) _
  obtain ⟨wA, hwA⟩ : ∃ z, z = w.alloc (.cells (xs.map (Value.int .u32)).toArray 76) := ⟨_, rfl⟩
  rw [← hwA] at r1 b1
  obtain ⟨GA, hGA⟩ : ∃ g, g = w.heap.size := ⟨_, rfl⟩
  rw [← hGA] at r1 b1
  have HI := Lib.hid (show (Tryd.prog.info? 76).map (·.size) = some (xs.map (Value.int .u32)).length by rw [List.length_map, hl]; exact info_Num)
  have EQ0 := fun W => eq_zero8 xs hl hu W
  have NA := Lib.hid (n_any wA.drew)
  have LS := Lib.hid (fun W => less_any xs orderQ W hl rfl hu orderQ_u)
  have R1 := Lib.hid r1
  have B1 := Lib.hid b1
  have HWA := Lib.hid hwA
  have HGA := Lib.hid hGA
  unfold qV at LS
  clear hl hu r1 b1 hwA hGA
  unfold qV
  go_enter Tryd.func33, Tryd.ntmps33
  go_upto_region 1 with fail
  change Code.wp _ _ _ _ (w.alloc (.cells (xs.map (Value.int .u32)).toArray 76))
  rw [← HWA.out, show w.heap.size = GA from HGA.out.symm]
  clear HWA
  try dsimp only [Act.put]
  by_cases hz : numQ xs = 0
  · have hk : keyQ xs = false := by unfold keyQ; rw [hz]; rfl
    have HK := Lib.hid hk
    have EQ1 : ∀ W, (Op.equalIn 10000 76 (.agg (xs.map (Value.int .u32)).toArray) (.agg #[.int .u32 0, .int .u32 0, .int .u32 0, .int .u32 0, .int .u32 0, .int .u32 0, .int .u32 0, .int .u32 0])).run Tryd.prog W = .ok true W := fun W => by rw [EQ0 W, hz]; rfl
    have HB := Lib.hid B1.out.drew
    clear hk hz EQ0 NA LS
    go_wp2_with fail
    refine wp_region_held_drew (S := (fun w' => IRow w' GA 76 .u32 xs)) (by kernel_rfl) ?_ (fun hHeld => ?_)
    · exact R1.out.drew
    refine wpAnyH_take (i := 0) (oi := { dst := some 3, op := Go.Op.load 76 (Go.Operand.tmp 1), type := 76, pos := "ref.go:270", after := #[], guard := none }) (v := (.agg (xs.map (Value.int .u32)).toArray)) rfl (by kernel_rfl) (by kernel_rfl) (by kernel_rfl) (fun _ _ _ h => h) (yieldsIf_load_mid (by rfl) 76 (.tmp 1) rfl GA 0 rfl (xs.map (Value.int .u32)) _ (fun w' h => irow_range h) Tryd.underlying76 rfl HI.out) (by assumption) ?_
    try simp only [Act.put, List.setIfInBounds_toArray, List.set_cons_zero, List.set_cons_succ]
    refine wpAnyH_take (i := 1) (oi := { dst := some 4, op := Go.Op.build 76 #[], type := 76, pos := "ref.go:270", after := #[], guard := none }) (v := ?av1) rfl (by kernel_rfl) (by kernel_rfl) (by kernel_rfl) (fun _ _ _ h => h) (Or.inl ⟨by rfl, ?ay1⟩) (by assumption) ?ar1
    case ay1 => (intro w hSw; (try dsimp only at hSw); go_simp; try (with_reducible rfl))
    case ar1 =>
    try simp only [Act.put, List.setIfInBounds_toArray, List.set_cons_zero, List.set_cons_succ]
    refine wpAnyH_take (i := 2) (oi := { dst := some 5, op := Go.Op.binOp Go.BinOp.neq 76 (Go.Operand.tmp 3) (Go.Operand.tmp 4) 76, type := 4, pos := "ref.go:270", after := #[{ on := 0, ground := Go.Ground.data }, { on := 1, ground := Go.Ground.data }], guard := none }) (v := ?av2) rfl (by kernel_rfl) (by kernel_rfl) (by kernel_rfl) (fun _ _ _ h => h) (Or.inl ⟨by rfl, ?ay2⟩) (by assumption) ?ar2
    case ay2 => (intro w hSw; (try dsimp only at hSw); go_simp; try (with_reducible rfl))
    case ar2 =>
    try simp only [Act.put, List.setIfInBounds_toArray, List.set_cons_zero, List.set_cons_succ]
    refine wpAnyH_take (i := 3) (oi := { dst := some 6, op := Go.Op.move (Go.Operand.tmp 5), type := 4, pos := "ref.go:270", after := #[{ on := 2, ground := Go.Ground.data }], guard := none }) (v := ?av3) rfl (by kernel_rfl) (by kernel_rfl) (by kernel_rfl) (fun _ _ _ h => h) (Or.inl ⟨by rfl, ?ay3⟩) (by assumption) ?ar3
    case ay3 => (intro w hSw; (try dsimp only at hSw); go_simp; try (with_reducible rfl))
    case ar3 =>
    try simp only [Act.put, List.setIfInBounds_toArray, List.set_cons_zero, List.set_cons_succ]
    refine wpAnyH_take (i := 4) (oi := { dst := some 7, op := Go.Op.load 76 (Go.Operand.tmp 1), type := 76, pos := "ref.go:270", after := #[{ on := 3, ground := Go.Ground.guard }], guard := some (3, true) }) (v := undef) rfl (by kernel_rfl) (by kernel_rfl) (by kernel_rfl) (fun _ _ _ h => h) (Or.inr ⟨by rfl, rfl⟩) (by assumption) ?_
    try simp only [Act.put, List.setIfInBounds_toArray, List.set_cons_zero, List.set_cons_succ]
    refine wpAnyH_take (i := 5) (oi := { dst := some 8, op := Go.Op.call { callee := Go.Callee.value (Go.Operand.func 51), args := #[], argTypes := #[] }, type := 76, pos := "ref.go:270", after := #[{ on := 3, ground := Go.Ground.chain }, { on := 3, ground := Go.Ground.guard }], guard := some (3, true) }) (v := undef) rfl (by kernel_rfl) (by kernel_rfl) (by kernel_rfl) (fun _ _ _ h => h) (Or.inr ⟨by rfl, rfl⟩) (by assumption) ?_
    try simp only [Act.put, List.setIfInBounds_toArray, List.set_cons_zero, List.set_cons_succ]
    refine wpAnyH_take (i := 6) (oi := { dst := some 9, op := Go.Op.call { callee := Go.Callee.value (Go.Operand.func 50), args := #[Go.Operand.tmp 7, Go.Operand.tmp 8], argTypes := #[76, 76] }, type := 4, pos := "ref.go:270", after := #[{ on := 4, ground := Go.Ground.data }, { on := 5, ground := Go.Ground.data }, { on := 5, ground := Go.Ground.chain }, { on := 3, ground := Go.Ground.guard }], guard := some (3, true) }) (v := undef) rfl (by kernel_rfl) (by kernel_rfl) (by kernel_rfl) (fun _ _ _ h => h) (Or.inr ⟨by rfl, rfl⟩) (by assumption) ?_
    try simp only [Act.put, List.setIfInBounds_toArray, List.set_cons_zero, List.set_cons_succ]
    refine wpAnyH_take (i := 7) (oi := { dst := some 10, op := Go.Op.pick (Go.Operand.tmp 6) (Go.Operand.tmp 9) (Go.Operand.const (Go.Value.bool false)), type := 4, pos := "ref.go:270", after := #[{ on := 3, ground := Go.Ground.data }, { on := 6, ground := Go.Ground.data }], guard := none }) (v := ?av7) rfl (by kernel_rfl) (by kernel_rfl) (by kernel_rfl) (fun _ _ _ h => h) (Or.inl ⟨by rfl, ?ay7⟩) (by assumption) ?ar7
    case ay7 => (intro w hSw; (try dsimp only at hSw); go_simp; try (with_reducible rfl))
    case ar7 =>
    try simp only [Act.put, List.setIfInBounds_toArray, List.set_cons_zero, List.set_cons_succ]
    refine wpAnyH_take (i := 8) (oi := { dst := some 2, op := Go.Op.assign (Go.Operand.tmp 10), type := 4, pos := "ref.go:270", after := #[{ on := 7, ground := Go.Ground.data }, { on := 6, ground := Go.Ground.chain }, { on := 0, ground := Go.Ground.phase }, { on := 1, ground := Go.Ground.phase }, { on := 2, ground := Go.Ground.phase }, { on := 3, ground := Go.Ground.phase }, { on := 4, ground := Go.Ground.phase }, { on := 5, ground := Go.Ground.phase }, { on := 6, ground := Go.Ground.phase }, { on := 7, ground := Go.Ground.phase }], guard := none }) (v := ?av8) rfl (by kernel_rfl) (by kernel_rfl) (by kernel_rfl) (fun _ _ _ h => h) (Or.inl ⟨by rfl, ?ay8⟩) (by assumption) ?ar8
    case ay8 => (intro w hSw; (try dsimp only at hSw); go_simp; try (with_reducible rfl))
    case ar8 =>
    try simp only [Act.put, List.setIfInBounds_toArray, List.set_cons_zero, List.set_cons_succ]
    refine wpAnyH_done (by kernel_rfl) ?_ _
    go_wp2_with fail
    go_ret
    exact ⟨by rw [HK.out]; rfl, by rw [← HGA.out]; exact HB.out⟩
  · have hk : keyQ xs = decide (numQ xs < numQ orderQ) := by unfold keyQ; simp [hz]
    have HK := Lib.hid hk
    have EQ1 : ∀ W, (Op.equalIn 10000 76 (.agg (xs.map (Value.int .u32)).toArray) (.agg #[.int .u32 0, .int .u32 0, .int .u32 0, .int .u32 0, .int .u32 0, .int .u32 0, .int .u32 0, .int .u32 0])).run Tryd.prog W = .ok false W := fun W => by rw [EQ0 W]; simp [hz]
    obtain ⟨kb, hkb⟩ : ∃ kb, kb = decide (numQ xs < numQ orderQ) := ⟨_, rfl⟩
    rw [← hkb] at LS HK
    obtain ⟨VN, hVN⟩ : ∃ V, V = (orderQ.map (Value.int .u32)).toArray := ⟨_, rfl⟩
    unfold qV at NA
    rw [← hVN] at LS NA
    clear hk hz EQ0 hkb hVN
    go_wp2_with fail
    refine wp_region_held_drew (S := (fun w' => IRow w' GA 76 .u32 xs)) (by kernel_rfl) ?_ (fun hHeld => ?_)
    · exact R1.out.drew
    refine wpAnyH_take (i := 0) (oi := { dst := some 3, op := Go.Op.load 76 (Go.Operand.tmp 1), type := 76, pos := "ref.go:270", after := #[], guard := none }) (v := (.agg (xs.map (Value.int .u32)).toArray)) rfl (by kernel_rfl) (by kernel_rfl) (by kernel_rfl) (fun _ _ _ h => h) (yieldsIf_load_mid (by rfl) 76 (.tmp 1) rfl GA 0 rfl (xs.map (Value.int .u32)) _ (fun w' h => irow_range h) Tryd.underlying76 rfl HI.out) (by assumption) ?_
    try simp only [Act.put, List.setIfInBounds_toArray, List.set_cons_zero, List.set_cons_succ]
    refine wpAnyH_take (i := 1) (oi := { dst := some 4, op := Go.Op.build 76 #[], type := 76, pos := "ref.go:270", after := #[], guard := none }) (v := ?bv1) rfl (by kernel_rfl) (by kernel_rfl) (by kernel_rfl) (fun _ _ _ h => h) (Or.inl ⟨by rfl, ?by1⟩) (by assumption) ?br1
    case by1 => (intro w hSw; (try dsimp only at hSw); go_simp; try (with_reducible rfl))
    case br1 =>
    try simp only [Act.put, List.setIfInBounds_toArray, List.set_cons_zero, List.set_cons_succ]
    refine wpAnyH_take (i := 2) (oi := { dst := some 5, op := Go.Op.binOp Go.BinOp.neq 76 (Go.Operand.tmp 3) (Go.Operand.tmp 4) 76, type := 4, pos := "ref.go:270", after := #[{ on := 0, ground := Go.Ground.data }, { on := 1, ground := Go.Ground.data }], guard := none }) (v := ?bv2) rfl (by kernel_rfl) (by kernel_rfl) (by kernel_rfl) (fun _ _ _ h => h) (Or.inl ⟨by rfl, ?by2⟩) (by assumption) ?br2
    case by2 => (intro w hSw; (try dsimp only at hSw); go_simp; try (with_reducible rfl))
    case br2 =>
    try simp only [Act.put, List.setIfInBounds_toArray, List.set_cons_zero, List.set_cons_succ]
    refine wpAnyH_take (i := 3) (oi := { dst := some 6, op := Go.Op.move (Go.Operand.tmp 5), type := 4, pos := "ref.go:270", after := #[{ on := 2, ground := Go.Ground.data }], guard := none }) (v := ?bv3) rfl (by kernel_rfl) (by kernel_rfl) (by kernel_rfl) (fun _ _ _ h => h) (Or.inl ⟨by rfl, ?by3⟩) (by assumption) ?br3
    case by3 => (intro w hSw; (try dsimp only at hSw); go_simp; try (with_reducible rfl))
    case br3 =>
    try simp only [Act.put, List.setIfInBounds_toArray, List.set_cons_zero, List.set_cons_succ]
    refine wpAnyH_take (i := 4) (oi := { dst := some 7, op := Go.Op.load 76 (Go.Operand.tmp 1), type := 76, pos := "ref.go:270", after := #[{ on := 3, ground := Go.Ground.guard }], guard := some (3, true) }) (v := (.agg (xs.map (Value.int .u32)).toArray)) rfl (by kernel_rfl) (by kernel_rfl) (by kernel_rfl) (fun _ _ _ h => h) (yieldsIf_load_mid (by rfl) 76 (.tmp 1) rfl GA 0 rfl (xs.map (Value.int .u32)) _ (fun w' h => irow_range h) Tryd.underlying76 rfl HI.out) (by assumption) ?_
    try simp only [Act.put, List.setIfInBounds_toArray, List.set_cons_zero, List.set_cons_succ]
    refine wpAnyH_ready (rs := [5]) (by kernel_rfl) (by simp) ?_
    refine AllReadyH.cons (o := { dst := some 8, op := Go.Op.call { callee := Go.Callee.value (Go.Operand.func 51), args := #[], argTypes := #[] }, type := 76, pos := "ref.go:270", after := #[{ on := 3, ground := Go.Ground.chain }, { on := 3, ground := Go.Ground.guard }], guard := some (3, true) }) rfl (fun K hK => ?_) (AllReadyH.nil)
    go_simp
    refine NA.out.mono ?_
    rintro e w2 ⟨rfl, hb2⟩
    have HR2 := Lib.hid (R1.out.drew.below hb2 R1.out.lt)
    have HB2 := Lib.hid (B1.out.drew.trans (hb2.mono (by have := B1.out.drew.size; have := HGA.out; omega)))
    clear hb2
    refine hK.out _ _ ?_ (fun hHeld => ?_)
    · exact HR2.out
    clear hK K
    try simp only [Act.put, List.setIfInBounds_toArray, List.set_cons_zero, List.set_cons_succ]
    refine wpAnyH_ready (rs := [6]) (by kernel_rfl) (by simp) ?_
    refine AllReadyH.cons (o := { dst := some 9, op := Go.Op.call { callee := Go.Callee.value (Go.Operand.func 50), args := #[Go.Operand.tmp 7, Go.Operand.tmp 8], argTypes := #[76, 76] }, type := 4, pos := "ref.go:270", after := #[{ on := 4, ground := Go.Ground.data }, { on := 5, ground := Go.Ground.data }, { on := 5, ground := Go.Ground.chain }, { on := 3, ground := Go.Ground.guard }], guard := some (3, true) }) rfl (fun K hK => ?_) (AllReadyH.nil)
    go_simp
    refine (LS.out _).mono ?_
    rintro e w3 ⟨rfl, hb3⟩
    have HR3 := Lib.hid (HR2.out.below hb3 HR2.out.lt)
    have HB3 := Lib.hid (HB2.out.trans (hb3.mono (by have := HB2.out.size; have := HGA.out; omega)))
    clear hb3
    refine hK.out _ _ ?_ (fun hHeld => ?_)
    · exact HR3.out
    clear hK K
    try simp only [Act.put, List.setIfInBounds_toArray, List.set_cons_zero, List.set_cons_succ]
    refine wpAnyH_take (i := 7) (oi := { dst := some 10, op := Go.Op.pick (Go.Operand.tmp 6) (Go.Operand.tmp 9) (Go.Operand.const (Go.Value.bool false)), type := 4, pos := "ref.go:270", after := #[{ on := 3, ground := Go.Ground.data }, { on := 6, ground := Go.Ground.data }], guard := none }) (v := ?b_5_6v7) rfl (by kernel_rfl) (by kernel_rfl) (by kernel_rfl) (fun _ _ _ h => h) (Or.inl ⟨by rfl, ?b_5_6y7⟩) (by assumption) ?b_5_6r7
    case b_5_6y7 => (intro w hSw; (try dsimp only at hSw); go_simp; try (with_reducible rfl))
    case b_5_6r7 =>
    try simp only [Act.put, List.setIfInBounds_toArray, List.set_cons_zero, List.set_cons_succ]
    refine wpAnyH_take (i := 8) (oi := { dst := some 2, op := Go.Op.assign (Go.Operand.tmp 10), type := 4, pos := "ref.go:270", after := #[{ on := 7, ground := Go.Ground.data }, { on := 6, ground := Go.Ground.chain }, { on := 0, ground := Go.Ground.phase }, { on := 1, ground := Go.Ground.phase }, { on := 2, ground := Go.Ground.phase }, { on := 3, ground := Go.Ground.phase }, { on := 4, ground := Go.Ground.phase }, { on := 5, ground := Go.Ground.phase }, { on := 6, ground := Go.Ground.phase }, { on := 7, ground := Go.Ground.phase }], guard := none }) (v := ?b_5_6v8) rfl (by kernel_rfl) (by kernel_rfl) (by kernel_rfl) (fun _ _ _ h => h) (Or.inl ⟨by rfl, ?b_5_6y8⟩) (by assumption) ?b_5_6r8
    case b_5_6y8 => (intro w hSw; (try dsimp only at hSw); go_simp; try (with_reducible rfl))
    case b_5_6r8 =>
    try simp only [Act.put, List.setIfInBounds_toArray, List.set_cons_zero, List.set_cons_succ]
    refine wpAnyH_done (by kernel_rfl) ?_ _
    go_wp2_with fail
    go_ret
    exact ⟨by rw [HK.out]; rfl, by rw [← HGA.out]; exact HB3.out⟩

set_option maxRecDepth 100000 in
set_option maxHeartbeats 6400000 in
theorem secret_any (chain k : List UInt8) (w : World) (hc : chain.length = 32) (hk : k.length = 32) :
    Calls Tryd.prog 32 #[.agg (keyC chain (0 :: k)).toArray] w fun e w' => e = .returned (digV k) ∧ Below w.heap.size w w' := by
  have r1 := vrow_alloc (vrow_alloc (VRow.new w 35 (keyC chain (0 :: k))) (.cells ((List.replicate 32 (0 : Int)).map (Value.int .u8)).toArray 28)) (.cells ((List.replicate 32 (0 : Int)).map (Value.int .u8)).toArray 28)
  have r2 := irow_alloc (IRow.new (w.alloc (.cells (keyC chain (0 :: k)).toArray 35)) 28 .u8 (List.replicate 32 0)) (.cells ((List.replicate 32 (0 : Int)).map (Value.int .u8)).toArray 28)
  have r3 := IRow.new ((w.alloc (.cells (keyC chain (0 :: k)).toArray 35)).alloc (.cells ((List.replicate 32 (0 : Int)).map (Value.int .u8)).toArray 28)) 28 .u8 (List.replicate 32 0)
  have b1 : Below w.heap.size w (((w.alloc (.cells (keyC chain (0 :: k)).toArray 35)).alloc (.cells ((List.replicate 32 (0 : Int)).map (Value.int .u8)).toArray 28)).alloc (.cells ((List.replicate 32 (0 : Int)).map (Value.int .u8)).toArray 28)) := (((Below.refl _ w).alloc (Nat.le_refl _) _).alloc (by simp) _).alloc (by simp; omega) _
  rw [World.size_alloc] at r2
  rw [World.size_alloc, World.size_alloc] at r3
  obtain ⟨wA, hwA⟩ : ∃ z, z = (((w.alloc (.cells (keyC chain (0 :: k)).toArray 35)).alloc (.cells ((List.replicate 32 (0 : Int)).map (Value.int .u8)).toArray 28)).alloc (.cells ((List.replicate 32 (0 : Int)).map (Value.int .u8)).toArray 28)) := ⟨_, rfl⟩
  rw [← hwA] at r1 r2 r3 b1
  obtain ⟨GA, hGA⟩ : ∃ g, g = w.heap.size := ⟨_, rfl⟩
  rw [← hGA] at r1 r2 r3 b1
  have hat : ∀ (i : Nat) (u : UInt8), k[i]? = some u → (keyC chain (0 :: k))[38 + (i + 1)]? = some (.int .u8 (u.toNat : Int)) := fun i u hu => by
    unfold keyC
    rw [List.getElem?_append_right (by simp [nums_length, hc])]
    simp only [List.length_append, List.length_map, nums_length, hc, List.length_replicate, List.length_cons, List.length_nil, Nat.reduceAdd, Nat.add_sub_cancel_left]
    simp [nums, hu]
  obtain ⟨KC, hKC⟩ : ∃ l, l = keyC chain (0 :: k) := ⟨_, rfl⟩
  rw [← hKC] at hwA r1 hat ⊢
  have HAT := Lib.hid hat
  have HK := Lib.hid hk
  have R1 := Lib.hid r1
  have R2 := Lib.hid r2
  have R3 := Lib.hid r3
  have B1 := Lib.hid b1
  have HWA := Lib.hid hwA
  have HGA := Lib.hid hGA
  clear hc hk r1 r2 r3 b1 hwA hGA hKC hat
  go_enter Tryd.func32, Tryd.ntmps32
  go_upto_region 2 with fail
  change Code.wp _ _ _ _ (((w.alloc (.cells KC.toArray 35)).alloc (.cells ((List.replicate 32 (0 : Int)).map (Value.int .u8)).toArray 28)).alloc (.cells ((List.replicate 32 (0 : Int)).map (Value.int .u8)).toArray 28))
  rw [← HWA.out, show w.heap.size = GA from HGA.out.symm]
  clear HWA
  try dsimp only [Act.put]
  go_wp2_with fail
  go_loopw [4] (fun v4 wr => ∃ i : Nat, i ≤ 32 ∧ v4 = .int .i64 (i : Int) ∧ IRow wr (GA + 1 + 1) 28 .u8 (nums (k.take i ++ (List.replicate 32 0).drop i)) ∧ IRow wr (GA + 1) 28 .u8 (List.replicate 32 0) ∧ VRow wr GA 35 KC ∧ Below GA w wr) (fun v4 _ => 32 - (intOf v4).toNat)
  case atStart => exact ⟨0, by omega, rfl, R3.out, R2.out, R1.out, B1.out⟩
  case round =>
    obtain ⟨i, hi, rfl, hrow, hres, hkey, hbel⟩ := hrel
    by_cases h32 : i < 32
    · obtain ⟨u, hu⟩ : ∃ u, k[i]? = some u := ⟨_, List.getElem?_eq_getElem (by rw [HK.out]; exact h32)⟩
      have hz : (List.replicate 32 (0 : UInt8))[i]? = some 0 := by rw [List.getElem?_replicate, if_pos h32]
      have hset := mixed_set hu hz
      have hcg := hrow.cell (mixed_at (xs := k) (by rw [HK.out]; omega) hz)
      have hfg := hrow.free i
      have hcu : wr.cell? ⟨GA, 38 + (i + 1), none⟩ = some (.int .u8 (u.toNat : Int)) := hkey.cell (HAT.out i u hu)
      have hs := hrow.set i (u.toNat : Int)
      rw [hset] at hs
      have bi : (i : Int) < 32 := by omega
      have w1 : IntKind.i64.wrap ((i : Int) + 1) = ((i + 1 : Nat) : Int) := by rw [IntWalk.i64_in _ (by omega)]; omega
      have HS := Lib.hid hs
      have HR := Lib.hid (show IRow (wr.setCell ⟨GA + 1 + 1, i, none⟩ (.int .u8 (u.toNat : Int))) (GA + 1) 28 .u8 (List.replicate 32 0) from (Below.heap_setCell wr _ _ _ (by intro h; first | (have h' : GA + 1 = GA + 1 + 1 := h; omega) | (have h' : GA + 1 + 1 = GA + 1 := h; omega))).trans hres)
      have HKY := Lib.hid (show VRow (wr.setCell ⟨GA + 1 + 1, i, none⟩ (.int .u8 (u.toNat : Int))) GA 35 KC from (Below.heap_setCell wr _ _ _ (by intro h; first | (have h' : GA = GA + 1 + 1 := h; omega) | (have h' : GA + 1 + 1 = GA := h; omega))).trans hkey)
      have HBL := Lib.hid (hbel.setCell (p := ⟨GA + 1 + 1, i, none⟩) (by show GA ≤ GA + 1 + 1; omega) (.int .u8 (u.toNat : Int)))
      clear hu hz hset hs hrow hres hkey hbel
      go_wp2_with fail
      exact ⟨⟨i + 1, by omega, by go_num, HS.out, HR.out, HKY.out, HBL.out⟩, by simp [intOf]; omega⟩
    · obtain rfl : i = 32 := by omega
      have e32 : ((32 : Nat) : Int) = 32 := rfl
      rw [e32]
      rw [List.take_of_length_le (by rw [HK.out]; omega), List.drop_of_length_le (by simp), List.append_nil] at hrow
      obtain ⟨P, hP⟩ : ∃ l, l = nums k := ⟨_, rfl⟩
      have hpl : P.length = 32 := by rw [hP, nums_length, HK.out]
      rw [← hP] at hrow
      have HFIN := Lib.hid (setRow_irow (ys := P) hres)
      have HBR := Lib.hid (below_setRow hbel (by omega : GA ≤ GA + 1) (P.map (Value.int .u8)).toArray)
      have HROW := Lib.hid hrow
      have HRES := Lib.hid hres
      have HPL := Lib.hid hpl
      have HP := Lib.hid hP
      clear e32 hrow hbel hres h32 hpl hP hkey
      go_wp2_with (first
        | (refine wpList_load_irow rfl 28 (.tmp 3) rfl (g := GA + 1 + 1) (t := 28) (k := .u8) (xs := P) rfl HROW.out Tryd.underlying28 (by rw [HPL.out]; exact info_b32) ?_)
        | (refine wpList_store_irow rfl 28 (.tmp 2) (.tmp 16) rfl (g := GA + 1) (t := 28) (k := .u8) (xs := List.replicate 32 0) (ys := P) rfl rfl HRES.out (by rw [HPL.out]; exact info_b32) (by rw [HPL.out]; rfl) ?_))
      refine bodyPost_ret (v := .agg (P.map (Value.int .u8)).toArray) ?_ rfl ⟨by rw [HP.out]; rfl, by rw [← HGA.out]; exact HBR.out⟩
      exact results_cell_row Tryd.results32 _ _ (GA + 1) 28 (P.map (Value.int .u8)).toArray (0, 0) _ rfl HFIN.out Tryd.underlying28 rfl (by rw [List.size_toArray, List.length_map, HPL.out]; exact info_b32)
end Go.Proofs.YtfkpdbmgiefnfaaDoor.Hk
