/-
  Texts joined: RmMix, RmLine, RmStep. Conditions: those of each.
-/
import Derived.Test.YtocblkacdoahfaaGreatDoorJ39
import Derived.Test.YtocblkacdoahfaaGreatDoorJ33
import Derived.Test.YtocblkacdoahfaaGreatDoorJ34
import Derived.Test.YtocblkacdoahfaaGreatDoorJ5
import Derived.Laws.CopyRow
/-
  hash.mix, the reference's f, math/bits.ReverseBytes32. Conditions: none.
-/
namespace Go.Proofs.YtocblkacdoahfaaGreatDoor.Rm
open Go.RowKit

set_option maxRecDepth 100000 in
set_option maxHeartbeats 1600000 in
theorem mix_any (r : Nat) (b c d : Int) (w : World) (hr : r < 5) : Calls Tryz.prog 124 #[.int .i64 r, .int .u32 b, .int .u32 c, .int .u32 d] w fun e w' => e = .returned (.int .u32 (fR r b c d)) ∧ w = w' := by
  obtain rfl | rfl | rfl | rfl | rfl : r = 0 ∨ r = 1 ∨ r = 2 ∨ r = 3 ∨ r = 4 := by omega
  · go_enter Tryz.func124, Tryz.ntmps124
    go_wp2
    go_ret
    exact ⟨rfl, rfl⟩
  · go_enter Tryz.func124, Tryz.ntmps124
    go_wp2
    go_ret
    exact ⟨rfl, rfl⟩
  · go_enter Tryz.func124, Tryz.ntmps124
    go_wp2
    go_ret
    exact ⟨rfl, rfl⟩
  · go_enter Tryz.func124, Tryz.ntmps124
    go_wp2
    go_ret
    exact ⟨rfl, rfl⟩
  · go_enter Tryz.func124, Tryz.ntmps124
    go_wp2
    go_ret
    exact ⟨rfl, rfl⟩

theorem and_split {a b c d i : Nat} (hb : b < 2 ^ i) (hd : d < 2 ^ i) : (2 ^ i * a + b) &&& (2 ^ i * c + d) = 2 ^ i * (a &&& c) + (b &&& d) := by
  apply Nat.eq_of_testBit_eq
  intro j
  rw [Nat.testBit_and, Nat.testBit_two_pow_mul_add _ hb, Nat.testBit_two_pow_mul_add _ hd, Nat.testBit_two_pow_mul_add _ (Nat.lt_of_le_of_lt Nat.and_le_left hb)]
  split
  · rw [Nat.testBit_and]
  · rw [Nat.testBit_and]
theorem and_mask (x : Nat) : x &&& 16711935 = x / 65536 % 256 * 65536 + x % 256 := by
  have h : x = 2 ^ 16 * (x / 65536) + x % 65536 := by omega
  have hm : (16711935 : Nat) = 2 ^ 16 * 255 + 255 := by decide
  have e : x &&& 16711935 = 2 ^ 16 * (x / 65536 &&& 255) + (x % 65536 &&& 255) := by
    conv => lhs; rw [h, hm]
    exact and_split (by omega) (by omega)
  rw [e, show (255 : Nat) = 2 ^ 8 - 1 from rfl, Nat.and_two_pow_sub_one_eq_mod, Nat.and_two_pow_sub_one_eq_mod]
  omega
theorem mask_int {x : Int} (h : U32 x) : bits .and .u32 x 16711935 = x / 65536 % 256 * 65536 + x % 256 := by
  obtain ⟨h0, h1⟩ := h
  obtain ⟨a, rfl⟩ := Int.eq_ofNat_of_zero_le h0
  have e := (bits_nat .u32 32 (by decide) wraps_u32 a 16711935 (by omega) (by decide)).1
  have e2 : ((16711935 : Nat) : Int) = 16711935 := rfl
  rw [e2] at e
  rw [e, and_mask a]
  omega
set_option maxRecDepth 100000 in
theorem rev_bits {x : Int} (h : U32 x) : ∃ y, y = bits .or .u32 (bits .and .u32 (x / 256) 16711935) (bits .and .u32 x 16711935 * 256 % 4294967296) ∧ bits .or .u32 (y / 65536) (y * 65536 % 4294967296) = rev32 x := by
  obtain ⟨h0, h1⟩ := h
  refine ⟨_, rfl, ?_⟩
  rw [mask_int (x := x / 256) ⟨by omega, by omega⟩, mask_int (x := x) ⟨h0, h1⟩]
  obtain ⟨b3, hb3⟩ : ∃ b, b = x / 16777216 := ⟨_, rfl⟩
  obtain ⟨b2, hb2⟩ : ∃ b, b = x / 65536 % 256 := ⟨_, rfl⟩
  obtain ⟨b1, hb1⟩ : ∃ b, b = x / 256 % 256 := ⟨_, rfl⟩
  obtain ⟨b0, hb0⟩ : ∃ b, b = x % 256 := ⟨_, rfl⟩
  have g1 : x / 256 / 65536 % 256 * 65536 + x / 256 % 256 = b3 * 65536 + b1 := by omega
  have g2 : (x / 65536 % 256 * 65536 + x % 256) * 256 % 4294967296 = b2 * 16777216 + b0 * 256 := by omega
  rw [g1, g2]
  have j1 : bits .or .u32 (b3 * 65536 + b1) (b2 * 16777216 + b0 * 256) = b2 * 16777216 + b3 * 65536 + b0 * 256 + b1 := by
    have c1 : 0 ≤ b3 ∧ b3 < 256 ∧ 0 ≤ b2 ∧ b2 < 256 ∧ 0 ≤ b1 ∧ b1 < 256 ∧ 0 ≤ b0 ∧ b0 < 256 := by omega
    obtain ⟨c30, c31, c20, c21, c10, c11, c00, c01⟩ := c1
    clear hb0 hb1 hb2 hb3 g1 g2
    have p1 : b3 * 65536 + b1 = bits .or .u32 (b3 * 65536) b1 := (bits_join .u32 32 (by decide) wraps_u32 16 _ _ (by omega) (by omega) (by omega) (by omega) (by omega) (by omega)).symm
    have p2 : b2 * 16777216 + b0 * 256 = bits .or .u32 (b2 * 16777216) (b0 * 256) := (bits_join .u32 32 (by decide) wraps_u32 24 _ _ (by omega) (by omega) (by omega) (by omega) (by omega) (by omega)).symm
    have q1 : b2 * 16777216 + b3 * 65536 = bits .or .u32 (b2 * 16777216) (b3 * 65536) := (bits_join .u32 32 (by decide) wraps_u32 24 _ _ (by omega) (by omega) (by omega) (by omega) (by omega) (by omega)).symm
    have q2 : b2 * 16777216 + b3 * 65536 + b0 * 256 = bits .or .u32 (b2 * 16777216 + b3 * 65536) (b0 * 256) := (bits_join .u32 32 (by decide) wraps_u32 16 _ _ (by omega) (by omega) (by omega) (by omega) (by omega) (by omega)).symm
    have q3 : b2 * 16777216 + b3 * 65536 + b0 * 256 + b1 = bits .or .u32 (b2 * 16777216 + b3 * 65536 + b0 * 256) b1 := (bits_join .u32 32 (by decide) wraps_u32 8 _ _ (by omega) (by omega) (by omega) (by omega) (by omega) (by omega)).symm
    rw [q3, q2, q1, p1, p2]
    obtain ⟨A, hA⟩ : ∃ A : Nat, b3 * 65536 = (A : Int) := ⟨(b3 * 65536).toNat, by omega⟩
    obtain ⟨Bq, hBq⟩ : ∃ A : Nat, b2 * 16777216 = (A : Int) := ⟨(b2 * 16777216).toNat, by omega⟩
    obtain ⟨Cq, hCq⟩ : ∃ A : Nat, b0 * 256 = (A : Int) := ⟨(b0 * 256).toNat, by omega⟩
    obtain ⟨n1, hn1⟩ : ∃ A : Nat, b1 = (A : Int) := ⟨b1.toNat, by omega⟩
    have l3 : A < 4294967296 := by omega
    have l2 : Bq < 4294967296 := by omega
    have l1 : n1 < 4294967296 := by omega
    have l0 : Cq < 4294967296 := by omega
    rw [hA, hBq, hCq, hn1]
    clear hA hBq hCq hn1 p1 p2 q1 q2 q3
    have H : ∀ a b : Nat, a < 4294967296 → b < 4294967296 → bits .or .u32 (a : Int) (b : Int) = ((a ||| b : Nat) : Int) := fun a b ha hb => (bits_nat .u32 32 (by decide) wraps_u32 a b ha hb).2
    have B : ∀ a b : Nat, a < 4294967296 → b < 4294967296 → a ||| b < 4294967296 := fun a b ha hb => by
      have h := Nat.or_lt_two_pow (n := 32) (x := a) (y := b) (by rw [show (2 : Nat) ^ 32 = 4294967296 by decide]; exact ha) (by rw [show (2 : Nat) ^ 32 = 4294967296 by decide]; exact hb)
      rw [show (2 : Nat) ^ 32 = 4294967296 by decide] at h
      exact h
    rw [H _ _ l3 l1, H _ _ l2 l0, H _ _ l2 l3, H _ _ (B _ _ l3 l1) (B _ _ l2 l0), H _ _ (B _ _ l2 l3) l0, H _ _ (B _ _ (B _ _ l2 l3) l0) l1]
    congr 1
    apply Nat.eq_of_testBit_eq
    intro j
    simp only [Nat.testBit_or]
    cases A.testBit j <;> cases Bq.testBit j <;> cases Cq.testBit j <;> cases n1.testBit j <;> rfl
  rw [j1]
  obtain ⟨hi, hhi⟩ : ∃ z, z = (b2 * 16777216 + b3 * 65536 + b0 * 256 + b1) / 65536 := ⟨_, rfl⟩
  obtain ⟨lo, hlo⟩ : ∃ z, z = (b2 * 16777216 + b3 * 65536 + b0 * 256 + b1) * 65536 % 4294967296 := ⟨_, rfl⟩
  have k1 : hi = b2 * 256 + b3 := by omega
  have k2 : lo = b0 * 16777216 + b1 * 65536 := by omega
  rw [← hhi, ← hlo, k1, k2]
  have c1 : 0 ≤ b3 ∧ b3 < 256 ∧ 0 ≤ b2 ∧ b2 < 256 ∧ 0 ≤ b1 ∧ b1 < 256 ∧ 0 ≤ b0 ∧ b0 < 256 := by omega
  have sw : ∀ a b : Int, bits .or .u32 a b = bits .or .u32 b a := fun a b => by simp only [bits, BitVec.or_comm]
  rw [sw, bits_join .u32 32 (by decide) wraps_u32 16 _ _ (by omega) (by omega) (by omega) (by omega) (by omega) (by omega)]
  unfold rev32
  omega
set_option maxRecDepth 100000 in
set_option maxHeartbeats 800000 in
theorem rev_any (x : Int) (w : World) (hx : U32 x) : Calls Tryz.prog 77 #[.int .u32 x] w fun e w' => e = .returned (.int .u32 (rev32 x)) ∧ w = w' := by
  obtain ⟨y, hy, hr⟩ := rev_bits hx
  have HR := Lib.hid hr
  have HY := Lib.hid hy
  clear hr hy
  go_enter Tryz.func77, Tryz.ntmps77
  go_wp2
  rw [← HY.out]
  go_ret
  exact ⟨by rw [HR.out]; rfl, rfl⟩
end Go.Proofs.YtocblkacdoahfaaGreatDoor.Rm

/-
  hash.leftLine and hash.rightLine, walked. Conditions: the tables are laid; the words are of 32 bits.
-/
namespace Go.Proofs.YtocblkacdoahfaaGreatDoor.Rm
open Go.RowKit

/-- A table of bytes lies in the program's memory. -/
def TabIs (g : Nat) (l : List Int) (w : World) : Prop := g < w.heap.size ∧ ∀ (t : Nat) (k : Int), l[t]? = some k → w.cell? ⟨g, t, none⟩ = some (.int .u8 k)
theorem TabIs.below {g : Nat} {l : List Int} {w w' : World} (h : TabIs g l w) (hb : Below w.heap.size w w') : TabIs g l w' :=
  ⟨Nat.lt_of_lt_of_le h.1 hb.size, fun t k hk => (hb.cell (p := ⟨g, t, none⟩) h.1).trans (h.2 t k hk)⟩
theorem TabIs.turns {g : Nat} {l : List Int} {S : Nat → Prop} {w w' : World} (h : TabIs g l w) (hb : Turns S w w') (hS : ¬ S g) : TabIs g l w' :=
  ⟨Nat.lt_of_lt_of_le h.1 hb.size, fun t k hk => (hb.cell (p := ⟨g, t, none⟩) h.1 hS).trans (h.2 t k hk)⟩
structure TabsIs (w : World) : Prop where
  o1 : TabIs 3 ord1 w
  o2 : TabIs 5 ord2 w
  t1 : TabIs 4 turn1 w
  t2 : TabIs 6 turn2 w
theorem TabsIs.below {w w' : World} (h : TabsIs w) (hb : Below w.heap.size w w') : TabsIs w' := ⟨h.o1.below hb, h.o2.below hb, h.t1.below hb, h.t2.below hb⟩
/-- Block g is none of the tables'. -/
structure OffT (g : Nat) : Prop where
  o1 : 3 ≠ g
  o2 : 5 ≠ g
  t1 : 4 ≠ g
  t2 : 6 ≠ g
theorem TabsIs.off {w : World} (h : TabsIs w) {g : Nat} (hg : w.heap.size ≤ g) : OffT g := ⟨by have := h.o1.1; omega, by have := h.o2.1; omega, by have := h.t1.1; omega, by have := h.t2.1; omega⟩
theorem TabsIs.turns {w w' : World} {g : Nat} (h : TabsIs w) (ht : Turns (· = g) w w') (hg : OffT g) : TabsIs w' := ⟨h.o1.turns ht hg.o1, h.o2.turns ht hg.o2, h.t1.turns ht hg.t1, h.t2.turns ht hg.t2⟩
theorem info_5 : (Tryz.prog.info? 120).map (·.size) = some 5 := by kernel_rfl
theorem info_16 : (Tryz.prog.info? 156).map (·.size) = some 16 := by kernel_rfl

set_option maxRecDepth 100000 in
set_option maxHeartbeats 6400000 in
theorem line1_any (s0 : S5) (xs : List Int) (w : World) (hs : s0.Ok) (hx : xs.length = 16) (htab : TabsIs w) :
    Calls Tryz.prog 100 #[.agg (s0.list.map (Value.int .u32)).toArray, .agg (xs.map (Value.int .u32)).toArray] w fun e w' => e = .returned (.agg ((line1 xs 80 s0).list.map (Value.int .u32)).toArray) ∧ Below w.heap.size w w' := by
  have HS := Lib.hid hs
  have HXL := Lib.hid hx
  have HTAB := Lib.hid htab
  clear hs hx htab
  have rA := IRow.new w 120 .u32 s0.list
  have bA : Below w.heap.size w (w.alloc (.cells (s0.list.map (Value.int .u32)).toArray 120)) := (Below.refl _ w).alloc (Nat.le_refl _) _
  have sA : (w.alloc (.cells (s0.list.map (Value.int .u32)).toArray 120)).heap.size = w.heap.size + 1 := by simp
  obtain ⟨wA, hwA⟩ : ∃ z, z = w.alloc (.cells (s0.list.map (Value.int .u32)).toArray 120) := ⟨_, rfl⟩
  rw [← hwA] at rA bA sA
  have rX := IRow.new wA 156 .u32 xs
  have bX : Below wA.heap.size wA (wA.alloc (.cells (xs.map (Value.int .u32)).toArray 156)) := (Below.refl _ wA).alloc (Nat.le_refl _) _
  have sX : (wA.alloc (.cells (xs.map (Value.int .u32)).toArray 156)).heap.size = wA.heap.size + 1 := by simp
  obtain ⟨wX, hwX⟩ : ∃ z, z = wA.alloc (.cells (xs.map (Value.int .u32)).toArray 156) := ⟨_, rfl⟩
  rw [← hwX] at rX bX sX
  have rR := IRow.new wX 120 .u32 (List.replicate 5 0)
  have bR : Below wX.heap.size wX (wX.alloc (.cells ((List.replicate 5 (0 : Int)).map (Value.int .u32)).toArray 120)) := (Below.refl _ wX).alloc (Nat.le_refl _) _
  have sR : (wX.alloc (.cells ((List.replicate 5 (0 : Int)).map (Value.int .u32)).toArray 120)).heap.size = wX.heap.size + 1 := by simp
  obtain ⟨wR, hwR⟩ : ∃ z, z = wX.alloc (.cells ((List.replicate 5 (0 : Int)).map (Value.int .u32)).toArray 120) := ⟨_, rfl⟩
  rw [← hwR] at rR bR sR
  obtain ⟨GA, hGA⟩ : ∃ g, g = w.heap.size := ⟨_, rfl⟩
  rw [← hGA] at rA bA sA
  rw [sA] at rX bX sX
  rw [sX] at rR bR sR
  have rA2 := (rA.below bX (by omega)).below bR (by omega)
  have rX2 := rX.below bR (by omega)
  have b2 := bA.trans ((bX.mono (by omega : GA ≤ GA + 1)).trans (bR.mono (by omega : GA ≤ GA + 1 + 1)))
  have HGA := Lib.hid hGA
  have HW := Lib.hid (show wR = ((w.alloc (.cells (s0.list.map (Value.int .u32)).toArray 120)).alloc (.cells (xs.map (Value.int .u32)).toArray 156)).alloc (.cells ((List.replicate 5 (0 : Int)).map (Value.int .u32)).toArray 120) by rw [hwR, hwX, hwA])
  have RZ := Lib.hid (IRow.new wR 120 .u32 (List.replicate 5 0))
  have bD : Below wR.heap.size wR ((wR.alloc (.cells ((List.replicate 5 (0 : Int)).map (Value.int .u32)).toArray 120)).setRow wR.heap.size (add1.map (Value.int .u32)).toArray) := below_setRow ((Below.refl _ wR).alloc (Nat.le_refl _) _) (Nat.le_refl _) _
  have rD := setRow_irow (ys := add1) RZ.out
  have BD := Lib.hid bD
  have RD := Lib.hid rD
  have RA2 := Lib.hid rA2
  have RX2 := Lib.hid rX2
  have RR := Lib.hid rR
  have B2 := Lib.hid b2
  have SR := Lib.hid sR
  have e0 := Lib.hid (show wX.heap.size = GA + 2 by omega)
  have e1A := Lib.hid (show wA.heap.size = GA + 1 by omega)
  clear hwA hwX hwR rA bA sA rX bX sX rR bR sR rA2 rX2 b2 hGA bD rD
  go_enter Tryz.func100, Tryz.ntmps100
  go_upto_region 1 with fail
  change Code.wp _ _ _ _ (((w.alloc (.cells (s0.list.map (Value.int .u32)).toArray 120)).alloc (.cells (xs.map (Value.int .u32)).toArray 156)).alloc (.cells ((List.replicate 5 (0 : Int)).map (Value.int .u32)).toArray 120))
  rw [← HW.out]
  have q1 : (w.alloc (.cells (s0.list.map (Value.int .u32)).toArray 120)).heap.size = GA + 1 := by rw [HGA.out]; simp
  have q2 : ((w.alloc (.cells (s0.list.map (Value.int .u32)).toArray 120)).alloc (.cells (xs.map (Value.int .u32)).toArray 156)).heap.size = GA + 1 + 1 := by rw [HGA.out]; simp
  try rw [q2]
  try rw [q1]
  try rw [← HGA.out]
  clear q1 q2
  try dsimp only [Act.put]
  go_upto_region 2 with (refine wpList_store_irow rfl 120 (.tmp 5) (.tmp 13) rfl (g := wR.heap.size) (t := 120) (k := .u32) (xs := List.replicate 5 0) (ys := add1) rfl rfl RZ.out info_5 rfl ?_)
  change Code.wp _ _ _ _ ((wR.alloc (.cells ((List.replicate 5 (0 : Int)).map (Value.int .u32)).toArray 120)).setRow wR.heap.size (add1.map (Value.int .u32)).toArray)
  obtain ⟨wD, hwD⟩ : ∃ z, z = (wR.alloc (.cells ((List.replicate 5 (0 : Int)).map (Value.int .u32)).toArray 120)).setRow wR.heap.size (add1.map (Value.int .u32)).toArray := ⟨_, rfl⟩
  rw [← hwD] at BD RD
  rw [← hwD]
  obtain ⟨GD, hGD⟩ : ∃ g, g = wR.heap.size := ⟨_, rfl⟩
  rw [← hGD] at BD RD
  rw [← hGD]
  have hg3 : GD = GA + 3 := by rw [hGD, SR.out]
  have HG3 := Lib.hid hg3
  have rA4 := RA2.out.below BD.out (by omega)
  have rX4 := RX2.out.below BD.out (by omega)
  have rR4 := RR.out.below BD.out (by omega)
  have b4 := B2.out.trans (BD.out.mono (by omega : GA ≤ GD))
  have m0 := rA4.cell (i := 0) rfl
  have m1 := rA4.cell (i := 1) rfl
  have m2 := rA4.cell (i := 2) rfl
  have m3 := rA4.cell (i := 3) rfl
  have m4 := rA4.cell (i := 4) rfl
  have RX4 := Lib.hid rX4
  have RR4 := Lib.hid rR4
  have B4 := Lib.hid b4
  clear hwD hGD hg3 rA4 rX4 rR4 b4 RA2 RX2 RR B2 RZ BD SR HW
  try dsimp only [Act.put]
  go_quiet (fail)
  go_wp2_with fail
  clear m0 m1 m2 m3 m4
  go_loopw [24, 6, 7, 8, 9, 10] (fun v24 va vb vc vd ve wr => ∃ (t : Nat) (s : S5), t ≤ 80 ∧ Hid (s = line1 xs t s0) ∧ v24 = .int .i64 t ∧ va = .int .u32 s.a ∧ vb = .int .u32 s.b ∧ vc = .int .u32 s.c ∧ vd = .int .u32 s.d ∧ ve = .int .u32 s.e ∧
      IRow wr (GA + 1) 156 .u32 xs ∧ IRow wr (GA + 1 + 1) 120 .u32 (List.replicate 5 0) ∧ IRow wr GD 120 .u32 add1 ∧ Below GA w wr) (fun j _ _ _ _ _ _ => 80 - (intOf j).toNat)
  case atStart => exact ⟨0, s0, by omega, Lib.hid rfl, rfl, rfl, rfl, rfl, rfl, rfl, RX4.out, RR4.out, RD.out, ⟨B4.out.os, B4.out.tape, B4.out.output, B4.out.size, B4.out.block⟩⟩
  case round =>
    obtain ⟨t, s, ht, hst, rfl, rfl, rfl, rfl, rfl, rfl, hrx, hrr, hrd, hbel⟩ := hrel
    obtain ⟨w5, hw5⟩ : ∃ z : World, z = wr := ⟨_, rfl⟩
    rw [← hw5] at hrx hrr hrd hbel ⊢
    clear hw5
    by_cases h80 : t < 80
    · obtain ⟨r, hr1, hr2, hr16⟩ := ord1_at h80
      obtain ⟨u, hu1, hu2, hu16⟩ := turn1_at h80
      obtain ⟨j, hj⟩ : ∃ j, j = t / 16 := ⟨_, rfl⟩
      have hj5 : j < 5 := by omega
      obtain ⟨k, hk1, hk2⟩ := add1_at hj5
      obtain ⟨x, hxx⟩ : ∃ x, xs[r]? = some x := ⟨_, List.getElem?_eq_getElem (by have := HXL.out; omega)⟩
      have htabs := HTAB.out.below (by rw [← HGA.out]; exact hbel)
      have oc := htabs.o1.2 t r hr1
      have tc := htabs.t1.2 t u hu1
      have xc := hrx.cell hxx
      have ac := hrd.cell hk1
      have q1 : (t : Int) / 16 = (j : Int) := by omega
      have q2 : (t : Int).tdiv 16 = (j : Int) := by rw [Int.tdiv_eq_ediv_of_nonneg (by omega)]; omega
      have q3 : IntKind.i64.wrap (j : Int) = (j : Int) := by rw [IntWalk.i64_in _ (by omega)]
      obtain ⟨i, hi⟩ : ∃ i, i = 4 - j := ⟨_, rfl⟩
      have q4 : IntKind.i64.wrap (4 - (j : Int)) = (i : Int) := by rw [IntWalk.i64_in _ (by omega)]; omega
      have q5 : (4 : Int) - (j : Int) = (i : Int) := by omega
      have q6 : IntKind.i64.wrap (i : Int) = (i : Int) := by rw [IntWalk.i64_in _ (by omega)]
      have bt : (t : Int) < 80 := by omega
      have br : (r : Int) < 16 := by omega
      have bj : (j : Int) < 5 := by omega
      have hok : s.Ok := by rw [hst.out]; exact line1_ok _ _ HS.out
      have MX := Lib.hid (fun W => mix_any j s.b s.c s.d W (by omega))
      have C2 := Lib.hid (fun W => rotl_any s.c 10 10 10 W hok.c (by decide) (by decide) (by decide))
      have HRX := Lib.hid hrx
      have HRR := Lib.hid hrr
      have HRD := Lib.hid hrd
      have HBEL := Lib.hid hbel
      have HR2 := Lib.hid hr2
      have HU2 := Lib.hid hu2
      have HK2 := Lib.hid hk2
      have HXX := Lib.hid hxx
      have HJ := Lib.hid hj
      have HI := Lib.hid hi
      have TC := Lib.hid tc
      clear hr1 hr2 hu1 hu2 hk1 hk2 hxx hrx hrr hrd hbel htabs hj hi hok tc
      go_wp2_with fail
      refine wp_region_held_drew (S := (fun w' => w'.cell? ⟨3, t, none⟩ = some (.int .u8 (r : Int)) ∧ w'.cell? ⟨GA + 1, r, none⟩ = some (.int .u32 x) ∧ w'.cell? ⟨GD, j, none⟩ = some (.int .u32 k))) (by kernel_rfl) ?_ (fun hHeld => ?_)
      · exact ⟨oc, xc, ac⟩
      refine wpAnyH_take (i := 0) (oi := { dst := some 27, op := Go.Op.move (Go.Operand.tmp 6), type := 55, pos := "ripemd.go:47", after := #[], guard := none }) (v := ?av0) rfl (by kernel_rfl) (by kernel_rfl) (by kernel_rfl) (fun _ _ _ h => h) (Or.inl ⟨by rfl, ?ay0⟩) (by assumption) ?ar0
      case ay0 => (intro w hSw; (try dsimp only at hSw); go_simp; try (with_reducible rfl))
      case ar0 =>
      try simp only [Act.put, List.setIfInBounds_toArray, List.set_cons_zero, List.set_cons_succ]
      refine wpAnyH_take (i := 1) (oi := { dst := some 28, op := Go.Op.move (Go.Operand.tmp 11), type := 3, pos := "ripemd.go:47", after := #[], guard := none }) (v := ?av1) rfl (by kernel_rfl) (by kernel_rfl) (by kernel_rfl) (fun _ _ _ h => h) (Or.inl ⟨by rfl, ?ay1⟩) (by assumption) ?ar1
      case ay1 => (intro w hSw; (try dsimp only at hSw); go_simp; try (with_reducible rfl))
      case ar1 =>
      try simp only [Act.put, List.setIfInBounds_toArray, List.set_cons_zero, List.set_cons_succ]
      refine wpAnyH_take (i := 2) (oi := { dst := some 29, op := Go.Op.binOp Go.BinOp.quo 3 (Go.Operand.tmp 28) (Go.Operand.const (Go.Value.int Go.IntKind.i64 16)) 3, type := 3, pos := "ripemd.go:47", after := #[{ on := 1, ground := Go.Ground.data }], guard := none }) (v := ?av2) rfl (by kernel_rfl) (by kernel_rfl) (by kernel_rfl) (fun _ _ _ h => h) (Or.inl ⟨by rfl, ?ay2⟩) (by assumption) ?ar2
      case ay2 => (intro w hSw; (try dsimp only at hSw); go_simp; try (with_reducible rfl))
      case ar2 =>
      try simp only [Act.put, List.setIfInBounds_toArray, List.set_cons_zero, List.set_cons_succ]
      refine wpAnyH_take (i := 3) (oi := { dst := some 30, op := Go.Op.move (Go.Operand.tmp 7), type := 55, pos := "ripemd.go:47", after := #[], guard := none }) (v := ?av3) rfl (by kernel_rfl) (by kernel_rfl) (by kernel_rfl) (fun _ _ _ h => h) (Or.inl ⟨by rfl, ?ay3⟩) (by assumption) ?ar3
      case ay3 => (intro w hSw; (try dsimp only at hSw); go_simp; try (with_reducible rfl))
      case ar3 =>
      try simp only [Act.put, List.setIfInBounds_toArray, List.set_cons_zero, List.set_cons_succ]
      refine wpAnyH_take (i := 4) (oi := { dst := some 31, op := Go.Op.move (Go.Operand.tmp 8), type := 55, pos := "ripemd.go:47", after := #[], guard := none }) (v := ?av4) rfl (by kernel_rfl) (by kernel_rfl) (by kernel_rfl) (fun _ _ _ h => h) (Or.inl ⟨by rfl, ?ay4⟩) (by assumption) ?ar4
      case ay4 => (intro w hSw; (try dsimp only at hSw); go_simp; try (with_reducible rfl))
      case ar4 =>
      try simp only [Act.put, List.setIfInBounds_toArray, List.set_cons_zero, List.set_cons_succ]
      refine wpAnyH_take (i := 5) (oi := { dst := some 32, op := Go.Op.move (Go.Operand.tmp 9), type := 55, pos := "ripemd.go:47", after := #[], guard := none }) (v := ?av5) rfl (by kernel_rfl) (by kernel_rfl) (by kernel_rfl) (fun _ _ _ h => h) (Or.inl ⟨by rfl, ?ay5⟩) (by assumption) ?ar5
      case ay5 => (intro w hSw; (try dsimp only at hSw); go_simp; try (with_reducible rfl))
      case ar5 =>
      try simp only [Act.put, List.setIfInBounds_toArray, List.set_cons_zero, List.set_cons_succ]
      refine wpAnyH_take (i := 8) (oi := { dst := some 35, op := Go.Op.move (Go.Operand.tmp 11), type := 3, pos := "ripemd.go:47", after := #[], guard := none }) (v := ?av8) rfl (by kernel_rfl) (by kernel_rfl) (by kernel_rfl) (fun _ _ _ h => h) (Or.inl ⟨by rfl, ?ay8⟩) (by assumption) ?ar8
      case ay8 => (intro w hSw; (try dsimp only at hSw); go_simp; try (with_reducible rfl))
      case ar8 =>
      try simp only [Act.put, List.setIfInBounds_toArray, List.set_cons_zero, List.set_cons_succ]
      refine wpAnyH_take (i := 9) (oi := { dst := some 36, op := Go.Op.indexAddr 189 (Go.Operand.global 3) (Go.Operand.tmp 35), type := 0, pos := "ripemd.go:47", after := #[{ on := 8, ground := Go.Ground.data }], guard := none }) (v := ?av9) rfl (by kernel_rfl) (by kernel_rfl) (by kernel_rfl) (fun _ _ _ h => h) (Or.inl ⟨by rfl, ?ay9⟩) (by assumption) ?ar9
      case ay9 => (intro w hSw; (try dsimp only at hSw); go_simp; try (with_reducible rfl))
      case ar9 =>
      try simp only [Act.put, List.setIfInBounds_toArray, List.set_cons_zero, List.set_cons_succ]
      refine wpAnyH_take (i := 10) (oi := { dst := some 37, op := Go.Op.load 5 (Go.Operand.tmp 36), type := 5, pos := "ripemd.go:47", after := #[{ on := 9, ground := Go.Ground.data }], guard := none }) (v := ?av10) rfl (by kernel_rfl) (by kernel_rfl) (by kernel_rfl) (fun _ _ _ h => h) (Or.inl ⟨by rfl, ?ay10⟩) (by assumption) ?ar10
      case ay10 => (intro w hSw; (try dsimp only at hSw); go_simp; try (with_reducible rfl))
      case ar10 =>
      try simp only [Act.put, List.setIfInBounds_toArray, List.set_cons_zero, List.set_cons_succ]
      refine wpAnyH_take (i := 11) (oi := { dst := some 38, op := Go.Op.indexAddr 156 (Go.Operand.tmp 3) (Go.Operand.tmp 37), type := 0, pos := "ripemd.go:47", after := #[{ on := 10, ground := Go.Ground.data }], guard := none }) (v := ?av11) rfl (by kernel_rfl) (by kernel_rfl) (by kernel_rfl) (fun _ _ _ h => h) (Or.inl ⟨by rfl, ?ay11⟩) (by assumption) ?ar11
      case ay11 => (intro w hSw; (try dsimp only at hSw); go_simp; try (with_reducible rfl))
      case ar11 =>
      try simp only [Act.put, List.setIfInBounds_toArray, List.set_cons_zero, List.set_cons_succ]
      refine wpAnyH_take (i := 12) (oi := { dst := some 39, op := Go.Op.load 55 (Go.Operand.tmp 38), type := 55, pos := "ripemd.go:47", after := #[{ on := 11, ground := Go.Ground.data }], guard := none }) (v := ?av12) rfl (by kernel_rfl) (by kernel_rfl) (by kernel_rfl) (fun _ _ _ h => h) (Or.inl ⟨by rfl, ?ay12⟩) (by assumption) ?ar12
      case ay12 => (intro w hSw; (try dsimp only at hSw); go_simp; try (with_reducible rfl))
      case ar12 =>
      try simp only [Act.put, List.setIfInBounds_toArray, List.set_cons_zero, List.set_cons_succ]
      refine wpAnyH_take (i := 14) (oi := { dst := some 41, op := Go.Op.move (Go.Operand.tmp 11), type := 3, pos := "ripemd.go:47", after := #[], guard := none }) (v := ?av14) rfl (by kernel_rfl) (by kernel_rfl) (by kernel_rfl) (fun _ _ _ h => h) (Or.inl ⟨by rfl, ?ay14⟩) (by assumption) ?ar14
      case ay14 => (intro w hSw; (try dsimp only at hSw); go_simp; try (with_reducible rfl))
      case ar14 =>
      try simp only [Act.put, List.setIfInBounds_toArray, List.set_cons_zero, List.set_cons_succ]
      refine wpAnyH_take (i := 15) (oi := { dst := some 42, op := Go.Op.binOp Go.BinOp.quo 3 (Go.Operand.tmp 41) (Go.Operand.const (Go.Value.int Go.IntKind.i64 16)) 3, type := 3, pos := "ripemd.go:47", after := #[{ on := 14, ground := Go.Ground.data }], guard := none }) (v := ?av15) rfl (by kernel_rfl) (by kernel_rfl) (by kernel_rfl) (fun _ _ _ h => h) (Or.inl ⟨by rfl, ?ay15⟩) (by assumption) ?ar15
      case ay15 => (intro w hSw; (try dsimp only at hSw); go_simp; try (with_reducible rfl))
      case ar15 =>
      try simp only [Act.put, List.setIfInBounds_toArray, List.set_cons_zero, List.set_cons_succ]
      refine wpAnyH_take (i := 16) (oi := { dst := some 43, op := Go.Op.indexAddr 120 (Go.Operand.tmp 5) (Go.Operand.tmp 42), type := 0, pos := "ripemd.go:47", after := #[{ on := 15, ground := Go.Ground.data }], guard := none }) (v := ?av16) rfl (by kernel_rfl) (by kernel_rfl) (by kernel_rfl) (fun _ _ _ h => h) (Or.inl ⟨by rfl, ?ay16⟩) (by assumption) ?ar16
      case ay16 => (intro w hSw; (try dsimp only at hSw); go_simp; try (with_reducible rfl))
      case ar16 =>
      try simp only [Act.put, List.setIfInBounds_toArray, List.set_cons_zero, List.set_cons_succ]
      refine wpAnyH_take (i := 17) (oi := { dst := some 44, op := Go.Op.load 55 (Go.Operand.tmp 43), type := 55, pos := "ripemd.go:47", after := #[{ on := 16, ground := Go.Ground.data }], guard := none }) (v := ?av17) rfl (by kernel_rfl) (by kernel_rfl) (by kernel_rfl) (fun _ _ _ h => h) (Or.inl ⟨by rfl, ?ay17⟩) (by assumption) ?ar17
      case ay17 => (intro w hSw; (try dsimp only at hSw); go_simp; try (with_reducible rfl))
      case ar17 =>
      try simp only [Act.put, List.setIfInBounds_toArray, List.set_cons_zero, List.set_cons_succ]
      refine wpAnyH_ready (rs := [6]) (by kernel_rfl) (by simp) ?_
      refine AllReadyH.cons (o := { dst := some 33, op := Go.Op.call { callee := Go.Callee.value (Go.Operand.func 124), args := #[Go.Operand.tmp 29, Go.Operand.tmp 30, Go.Operand.tmp 31, Go.Operand.tmp 32], argTypes := #[3, 55, 55, 55] }, type := 55, pos := "ripemd.go:47", after := #[{ on := 2, ground := Go.Ground.data }, { on := 3, ground := Go.Ground.data }, { on := 4, ground := Go.Ground.data }, { on := 5, ground := Go.Ground.data }], guard := none }) rfl (fun K hK => ?_) (AllReadyH.nil)
      go_simp
      refine (MX.out _).mono ?_
      rintro e w7 ⟨rfl, rfl⟩
      go_simp
      refine hK.out _ _ ?_ (fun hHeld => ?_)
      · exact hHeld
      clear hK K
      try simp only [Act.put, List.setIfInBounds_toArray, List.set_cons_zero, List.set_cons_succ]
      refine wpAnyH_take (i := 7) (oi := { dst := some 34, op := Go.Op.binOp Go.BinOp.add 55 (Go.Operand.tmp 27) (Go.Operand.tmp 33) 55, type := 55, pos := "ripemd.go:47", after := #[{ on := 0, ground := Go.Ground.data }, { on := 6, ground := Go.Ground.data }], guard := none }) (v := ?a_6v7) rfl (by kernel_rfl) (by kernel_rfl) (by kernel_rfl) (fun _ _ _ h => h) (Or.inl ⟨by rfl, ?a_6y7⟩) (by assumption) ?a_6r7
      case a_6y7 => (intro w hSw; (try dsimp only at hSw); go_simp; try (with_reducible rfl))
      case a_6r7 =>
      try simp only [Act.put, List.setIfInBounds_toArray, List.set_cons_zero, List.set_cons_succ]
      refine wpAnyH_take (i := 13) (oi := { dst := some 40, op := Go.Op.binOp Go.BinOp.add 55 (Go.Operand.tmp 34) (Go.Operand.tmp 39) 55, type := 55, pos := "ripemd.go:47", after := #[{ on := 7, ground := Go.Ground.data }, { on := 12, ground := Go.Ground.data }], guard := none }) (v := ?a_6v13) rfl (by kernel_rfl) (by kernel_rfl) (by kernel_rfl) (fun _ _ _ h => h) (Or.inl ⟨by rfl, ?a_6y13⟩) (by assumption) ?a_6r13
      case a_6y13 => (intro w hSw; (try dsimp only at hSw); go_simp; try (with_reducible rfl))
      case a_6r13 =>
      try simp only [Act.put, List.setIfInBounds_toArray, List.set_cons_zero, List.set_cons_succ]
      refine wpAnyH_take (i := 18) (oi := { dst := some 45, op := Go.Op.binOp Go.BinOp.add 55 (Go.Operand.tmp 40) (Go.Operand.tmp 44) 55, type := 55, pos := "ripemd.go:47", after := #[{ on := 13, ground := Go.Ground.data }, { on := 17, ground := Go.Ground.data }], guard := none }) (v := ?a_6v18) rfl (by kernel_rfl) (by kernel_rfl) (by kernel_rfl) (fun _ _ _ h => h) (Or.inl ⟨by rfl, ?a_6y18⟩) (by assumption) ?a_6r18
      case a_6y18 => (intro w hSw; (try dsimp only at hSw); go_simp; try (with_reducible rfl))
      case a_6r18 =>
      try simp only [Act.put, List.setIfInBounds_toArray, List.set_cons_zero, List.set_cons_succ]
      refine wpAnyH_take (i := 19) (oi := { dst := some 12, op := Go.Op.assign (Go.Operand.tmp 45), type := 55, pos := "ripemd.go:47", after := #[{ on := 18, ground := Go.Ground.data }, { on := 6, ground := Go.Ground.chain }, { on := 0, ground := Go.Ground.phase }, { on := 1, ground := Go.Ground.phase }, { on := 2, ground := Go.Ground.phase }, { on := 3, ground := Go.Ground.phase }, { on := 4, ground := Go.Ground.phase }, { on := 5, ground := Go.Ground.phase }, { on := 6, ground := Go.Ground.phase }, { on := 7, ground := Go.Ground.phase }, { on := 8, ground := Go.Ground.phase }, { on := 9, ground := Go.Ground.phase }, { on := 10, ground := Go.Ground.phase }, { on := 11, ground := Go.Ground.phase }, { on := 12, ground := Go.Ground.phase }, { on := 13, ground := Go.Ground.phase }, { on := 14, ground := Go.Ground.phase }, { on := 15, ground := Go.Ground.phase }, { on := 16, ground := Go.Ground.phase }, { on := 17, ground := Go.Ground.phase }, { on := 18, ground := Go.Ground.phase }], guard := none }) (v := ?a_6v19) rfl (by kernel_rfl) (by kernel_rfl) (by kernel_rfl) (fun _ _ _ h => h) (Or.inl ⟨by rfl, ?a_6y19⟩) (by assumption) ?a_6r19
      case a_6y19 => (intro w hSw; (try dsimp only at hSw); go_simp; try (with_reducible rfl))
      case a_6r19 =>
      try simp only [Act.put, List.setIfInBounds_toArray, List.set_cons_zero, List.set_cons_succ]
      refine wpAnyH_done (by kernel_rfl) ?_ _
      obtain ⟨N, hN⟩ : ∃ N, N = sumR j x k s := ⟨_, rfl⟩
      have eN : IntKind.u32.wrap (IntKind.u32.wrap (IntKind.u32.wrap (s.a + fR j s.b s.c s.d) + x) + k) = N := by
        rw [hN]
        simp only [u32_wrap]
        rfl
      rw [eN]
      have hNu : U32 N := by rw [hN]; exact add32_u _ _
      have C1 := Lib.hid (fun W => rotl_any N (u : Int) u u W hNu (by simp [IntKind.wrap, IntKind.bits, IntKind.signed]; omega) (by omega) (by omega))
      have HN := Lib.hid hN
      clear eN hN hNu
      generalize IntKind.u32.wrap (IntKind.u32.wrap (s.a + fR j s.b s.c s.d) + x) = Y1
      generalize IntKind.u32.wrap (s.a + fR j s.b s.c s.d) = Y2
      generalize fR j s.b s.c s.d = Y3
      obtain ⟨wd, hwd⟩ : ∃ z, z = w5.drew := ⟨_, rfl⟩
      rw [← hwd]
      have tc2 : wd.cell? ⟨4, t, none⟩ = some (.int .u8 (u : Int)) := by rw [hwd]; exact TC.out
      have HRX2 := Lib.hid (show IRow wd (GA + 1) 156 .u32 xs by rw [hwd]; exact HRX.out)
      have HRR2 := Lib.hid (show IRow wd (GA + 1 + 1) 120 .u32 (List.replicate 5 0) by rw [hwd]; exact HRR.out)
      have HRD2 := Lib.hid (show IRow wd GD 120 .u32 add1 by rw [hwd]; exact HRD.out)
      have HBEL2 := Lib.hid (show Below GA w wd by rw [hwd]; exact HBEL.out.drew)
      have qu : IntKind.i64.wrap (u : Int) = (u : Int) := by rw [IntWalk.i64_in _ (by omega)]
      clear hwd hHeld HRX HRR HRD HBEL oc xc ac TC q1 q2 q3 q4 q5 q6
      go_wp2_with fail
      refine (C1.out _).mono ?_
      rintro e w7 ⟨rfl, rfl⟩
      go_wp2_with fail
      refine (C2.out _).mono ?_
      rintro e w7 ⟨rfl, rfl⟩
      go_wp2_with fail
      have HSTEP := Lib.hid (show stepR j x k u s = ⟨s.e, (rot32 u N + s.e) % 4294967296, s.b, rot32 10 s.c, s.d⟩ by unfold stepR add32; rw [← HN.out])
      refine ⟨⟨t + 1, stepR j x k u s, by omega, Lib.hid ?_, by go_num, ?_, ?_, ?_, ?_, ?_, HRX2.out, HRR2.out, HRD2.out, HBEL2.out⟩, by simp [intOf]; omega⟩
      · have hj := HJ.out
        have hi := HI.out
        rw [line1, ← hst.out, HR2.out, HU2.out, ← hj, HK2.out, Int.toNat_natCast, Int.toNat_natCast, List.getD_eq_getElem?_getD, HXX.out]
        rfl
      all_goals (rw [HSTEP.out])
    · obtain rfl : t = 80 := by omega
      have h80' : ((80 : Nat) : Int) = 80 := rfl
      rw [h80']
      have HRR := Lib.hid hrr
      have HBEL := Lib.hid hbel
      have HST := Lib.hid hst.out
      have HFIN := Lib.hid (setRow_irow (ys := s.list) hrr)
      have HBF := Lib.hid (below_setRow hbel (show GA ≤ GA + 1 + 1 by omega) (s.list.map (Value.int .u32)).toArray)
      clear h80' hrx hrr hrd hbel hst h80 ht
      go_wp2_with (first
        | (refine wpList_store_irow rfl 120 (.tmp 4) (.tmp 66) rfl (g := GA + 1 + 1) (t := 120) (k := .u32) (xs := List.replicate 5 0) (ys := s.list) rfl rfl HRR.out info_5 rfl ?_))
      refine bodyPost_ret (v := .agg (s.list.map (Value.int .u32)).toArray) ?_ rfl ⟨by rw [HST.out], by rw [← HGA.out]; exact HBF.out⟩
      obtain ⟨fr, hrw⟩ : ∃ fr, (w5.setRow (GA + 1 + 1) (s.list.map (Value.int .u32)).toArray).heap[GA + 1 + 1]? = some (.cells (s.list.map (Value.int .u32)).toArray 120 fr) := ⟨_, HFIN.out⟩
      exact results_cell_row Tryz.results100 _ _ (GA + 1 + 1) 120 (s.list.map (Value.int .u32)).toArray fr _ rfl hrw Tryz.underlying120 rfl info_5

set_option maxRecDepth 100000 in
set_option maxHeartbeats 6400000 in
theorem line2_any (s0 : S5) (xs : List Int) (w : World) (hs : s0.Ok) (hx : xs.length = 16) (htab : TabsIs w) :
    Calls Tryz.prog 101 #[.agg (s0.list.map (Value.int .u32)).toArray, .agg (xs.map (Value.int .u32)).toArray] w fun e w' => e = .returned (.agg ((line2 xs 80 s0).list.map (Value.int .u32)).toArray) ∧ Below w.heap.size w w' := by
  have HS := Lib.hid hs
  have HXL := Lib.hid hx
  have HTAB := Lib.hid htab
  clear hs hx htab
  have rA := IRow.new w 120 .u32 s0.list
  have bA : Below w.heap.size w (w.alloc (.cells (s0.list.map (Value.int .u32)).toArray 120)) := (Below.refl _ w).alloc (Nat.le_refl _) _
  have sA : (w.alloc (.cells (s0.list.map (Value.int .u32)).toArray 120)).heap.size = w.heap.size + 1 := by simp
  obtain ⟨wA, hwA⟩ : ∃ z, z = w.alloc (.cells (s0.list.map (Value.int .u32)).toArray 120) := ⟨_, rfl⟩
  rw [← hwA] at rA bA sA
  have rX := IRow.new wA 156 .u32 xs
  have bX : Below wA.heap.size wA (wA.alloc (.cells (xs.map (Value.int .u32)).toArray 156)) := (Below.refl _ wA).alloc (Nat.le_refl _) _
  have sX : (wA.alloc (.cells (xs.map (Value.int .u32)).toArray 156)).heap.size = wA.heap.size + 1 := by simp
  obtain ⟨wX, hwX⟩ : ∃ z, z = wA.alloc (.cells (xs.map (Value.int .u32)).toArray 156) := ⟨_, rfl⟩
  rw [← hwX] at rX bX sX
  have rR := IRow.new wX 120 .u32 (List.replicate 5 0)
  have bR : Below wX.heap.size wX (wX.alloc (.cells ((List.replicate 5 (0 : Int)).map (Value.int .u32)).toArray 120)) := (Below.refl _ wX).alloc (Nat.le_refl _) _
  have sR : (wX.alloc (.cells ((List.replicate 5 (0 : Int)).map (Value.int .u32)).toArray 120)).heap.size = wX.heap.size + 1 := by simp
  obtain ⟨wR, hwR⟩ : ∃ z, z = wX.alloc (.cells ((List.replicate 5 (0 : Int)).map (Value.int .u32)).toArray 120) := ⟨_, rfl⟩
  rw [← hwR] at rR bR sR
  obtain ⟨GA, hGA⟩ : ∃ g, g = w.heap.size := ⟨_, rfl⟩
  rw [← hGA] at rA bA sA
  rw [sA] at rX bX sX
  rw [sX] at rR bR sR
  have rA2 := (rA.below bX (by omega)).below bR (by omega)
  have rX2 := rX.below bR (by omega)
  have b2 := bA.trans ((bX.mono (by omega : GA ≤ GA + 1)).trans (bR.mono (by omega : GA ≤ GA + 1 + 1)))
  have HGA := Lib.hid hGA
  have HW := Lib.hid (show wR = ((w.alloc (.cells (s0.list.map (Value.int .u32)).toArray 120)).alloc (.cells (xs.map (Value.int .u32)).toArray 156)).alloc (.cells ((List.replicate 5 (0 : Int)).map (Value.int .u32)).toArray 120) by rw [hwR, hwX, hwA])
  have RZ := Lib.hid (IRow.new wR 120 .u32 (List.replicate 5 0))
  have bD : Below wR.heap.size wR ((wR.alloc (.cells ((List.replicate 5 (0 : Int)).map (Value.int .u32)).toArray 120)).setRow wR.heap.size (add2.map (Value.int .u32)).toArray) := below_setRow ((Below.refl _ wR).alloc (Nat.le_refl _) _) (Nat.le_refl _) _
  have rD := setRow_irow (ys := add2) RZ.out
  have BD := Lib.hid bD
  have RD := Lib.hid rD
  have RA2 := Lib.hid rA2
  have RX2 := Lib.hid rX2
  have RR := Lib.hid rR
  have B2 := Lib.hid b2
  have SR := Lib.hid sR
  have e0 := Lib.hid (show wX.heap.size = GA + 2 by omega)
  have e1A := Lib.hid (show wA.heap.size = GA + 1 by omega)
  clear hwA hwX hwR rA bA sA rX bX sX rR bR sR rA2 rX2 b2 hGA bD rD
  go_enter Tryz.func101, Tryz.ntmps101
  go_upto_region 1 with fail
  change Code.wp _ _ _ _ (((w.alloc (.cells (s0.list.map (Value.int .u32)).toArray 120)).alloc (.cells (xs.map (Value.int .u32)).toArray 156)).alloc (.cells ((List.replicate 5 (0 : Int)).map (Value.int .u32)).toArray 120))
  rw [← HW.out]
  have q1 : (w.alloc (.cells (s0.list.map (Value.int .u32)).toArray 120)).heap.size = GA + 1 := by rw [HGA.out]; simp
  have q2 : ((w.alloc (.cells (s0.list.map (Value.int .u32)).toArray 120)).alloc (.cells (xs.map (Value.int .u32)).toArray 156)).heap.size = GA + 1 + 1 := by rw [HGA.out]; simp
  try rw [q2]
  try rw [q1]
  try rw [← HGA.out]
  clear q1 q2
  try dsimp only [Act.put]
  go_upto_region 2 with (refine wpList_store_irow rfl 120 (.tmp 5) (.tmp 13) rfl (g := wR.heap.size) (t := 120) (k := .u32) (xs := List.replicate 5 0) (ys := add2) rfl rfl RZ.out info_5 rfl ?_)
  change Code.wp _ _ _ _ ((wR.alloc (.cells ((List.replicate 5 (0 : Int)).map (Value.int .u32)).toArray 120)).setRow wR.heap.size (add2.map (Value.int .u32)).toArray)
  obtain ⟨wD, hwD⟩ : ∃ z, z = (wR.alloc (.cells ((List.replicate 5 (0 : Int)).map (Value.int .u32)).toArray 120)).setRow wR.heap.size (add2.map (Value.int .u32)).toArray := ⟨_, rfl⟩
  rw [← hwD] at BD RD
  rw [← hwD]
  obtain ⟨GD, hGD⟩ : ∃ g, g = wR.heap.size := ⟨_, rfl⟩
  rw [← hGD] at BD RD
  rw [← hGD]
  have hg3 : GD = GA + 3 := by rw [hGD, SR.out]
  have HG3 := Lib.hid hg3
  have rA4 := RA2.out.below BD.out (by omega)
  have rX4 := RX2.out.below BD.out (by omega)
  have rR4 := RR.out.below BD.out (by omega)
  have b4 := B2.out.trans (BD.out.mono (by omega : GA ≤ GD))
  have m0 := rA4.cell (i := 0) rfl
  have m1 := rA4.cell (i := 1) rfl
  have m2 := rA4.cell (i := 2) rfl
  have m3 := rA4.cell (i := 3) rfl
  have m4 := rA4.cell (i := 4) rfl
  have RX4 := Lib.hid rX4
  have RR4 := Lib.hid rR4
  have B4 := Lib.hid b4
  clear hwD hGD hg3 rA4 rX4 rR4 b4 RA2 RX2 RR B2 RZ BD SR HW
  try dsimp only [Act.put]
  go_quiet (fail)
  go_wp2_with fail
  clear m0 m1 m2 m3 m4
  go_loopw [24, 6, 7, 8, 9, 10] (fun v24 va vb vc vd ve wr => ∃ (t : Nat) (s : S5), t ≤ 80 ∧ Hid (s = line2 xs t s0) ∧ v24 = .int .i64 t ∧ va = .int .u32 s.a ∧ vb = .int .u32 s.b ∧ vc = .int .u32 s.c ∧ vd = .int .u32 s.d ∧ ve = .int .u32 s.e ∧
      IRow wr (GA + 1) 156 .u32 xs ∧ IRow wr (GA + 1 + 1) 120 .u32 (List.replicate 5 0) ∧ IRow wr GD 120 .u32 add2 ∧ Below GA w wr) (fun j _ _ _ _ _ _ => 80 - (intOf j).toNat)
  case atStart => exact ⟨0, s0, by omega, Lib.hid rfl, rfl, rfl, rfl, rfl, rfl, rfl, RX4.out, RR4.out, RD.out, ⟨B4.out.os, B4.out.tape, B4.out.output, B4.out.size, B4.out.block⟩⟩
  case round =>
    obtain ⟨t, s, ht, hst, rfl, rfl, rfl, rfl, rfl, rfl, hrx, hrr, hrd, hbel⟩ := hrel
    obtain ⟨w5, hw5⟩ : ∃ z : World, z = wr := ⟨_, rfl⟩
    rw [← hw5] at hrx hrr hrd hbel ⊢
    clear hw5
    by_cases h80 : t < 80
    · obtain ⟨r, hr1, hr2, hr16⟩ := ord2_at h80
      obtain ⟨u, hu1, hu2, hu16⟩ := turn2_at h80
      obtain ⟨j, hj⟩ : ∃ j, j = t / 16 := ⟨_, rfl⟩
      have hj5 : j < 5 := by omega
      obtain ⟨k, hk1, hk2⟩ := add2_at hj5
      obtain ⟨x, hxx⟩ : ∃ x, xs[r]? = some x := ⟨_, List.getElem?_eq_getElem (by have := HXL.out; omega)⟩
      have htabs := HTAB.out.below (by rw [← HGA.out]; exact hbel)
      have oc := htabs.o2.2 t r hr1
      have tc := htabs.t2.2 t u hu1
      have xc := hrx.cell hxx
      have ac := hrd.cell hk1
      have q1 : (t : Int) / 16 = (j : Int) := by omega
      have q2 : (t : Int).tdiv 16 = (j : Int) := by rw [Int.tdiv_eq_ediv_of_nonneg (by omega)]; omega
      have q3 : IntKind.i64.wrap (j : Int) = (j : Int) := by rw [IntWalk.i64_in _ (by omega)]
      obtain ⟨i, hi⟩ : ∃ i, i = 4 - j := ⟨_, rfl⟩
      have q4 : IntKind.i64.wrap (4 - (j : Int)) = (i : Int) := by rw [IntWalk.i64_in _ (by omega)]; omega
      have q5 : (4 : Int) - (j : Int) = (i : Int) := by omega
      have q6 : IntKind.i64.wrap (i : Int) = (i : Int) := by rw [IntWalk.i64_in _ (by omega)]
      have bt : (t : Int) < 80 := by omega
      have br : (r : Int) < 16 := by omega
      have bj : (j : Int) < 5 := by omega
      have hok : s.Ok := by rw [hst.out]; exact line2_ok _ _ HS.out
      have MX := Lib.hid (fun W => mix_any i s.b s.c s.d W (by omega))
      have C2 := Lib.hid (fun W => rotl_any s.c 10 10 10 W hok.c (by decide) (by decide) (by decide))
      have HRX := Lib.hid hrx
      have HRR := Lib.hid hrr
      have HRD := Lib.hid hrd
      have HBEL := Lib.hid hbel
      have HR2 := Lib.hid hr2
      have HU2 := Lib.hid hu2
      have HK2 := Lib.hid hk2
      have HXX := Lib.hid hxx
      have HJ := Lib.hid hj
      have HI := Lib.hid hi
      have TC := Lib.hid tc
      clear hr1 hr2 hu1 hu2 hk1 hk2 hxx hrx hrr hrd hbel htabs hj hi hok tc
      go_wp2_with fail
      refine wp_region_held_drew (S := (fun w' => w'.cell? ⟨5, t, none⟩ = some (.int .u8 (r : Int)) ∧ w'.cell? ⟨GA + 1, r, none⟩ = some (.int .u32 x) ∧ w'.cell? ⟨GD, j, none⟩ = some (.int .u32 k))) (by kernel_rfl) ?_ (fun hHeld => ?_)
      · exact ⟨oc, xc, ac⟩
      refine wpAnyH_take (i := 0) (oi := { dst := some 27, op := Go.Op.move (Go.Operand.tmp 6), type := 55, pos := "ripemd.go:59", after := #[], guard := none }) (v := ?av0) rfl (by kernel_rfl) (by kernel_rfl) (by kernel_rfl) (fun _ _ _ h => h) (Or.inl ⟨by rfl, ?ay0⟩) (by assumption) ?ar0
      case ay0 => (intro w hSw; (try dsimp only at hSw); go_simp; try (with_reducible rfl))
      case ar0 =>
      try simp only [Act.put, List.setIfInBounds_toArray, List.set_cons_zero, List.set_cons_succ]
      refine wpAnyH_take (i := 1) (oi := { dst := some 28, op := Go.Op.move (Go.Operand.tmp 11), type := 3, pos := "ripemd.go:59", after := #[], guard := none }) (v := ?av1) rfl (by kernel_rfl) (by kernel_rfl) (by kernel_rfl) (fun _ _ _ h => h) (Or.inl ⟨by rfl, ?ay1⟩) (by assumption) ?ar1
      case ay1 => (intro w hSw; (try dsimp only at hSw); go_simp; try (with_reducible rfl))
      case ar1 =>
      try simp only [Act.put, List.setIfInBounds_toArray, List.set_cons_zero, List.set_cons_succ]
      refine wpAnyH_take (i := 2) (oi := { dst := some 29, op := Go.Op.binOp Go.BinOp.quo 3 (Go.Operand.tmp 28) (Go.Operand.const (Go.Value.int Go.IntKind.i64 16)) 3, type := 3, pos := "ripemd.go:59", after := #[{ on := 1, ground := Go.Ground.data }], guard := none }) (v := ?av2) rfl (by kernel_rfl) (by kernel_rfl) (by kernel_rfl) (fun _ _ _ h => h) (Or.inl ⟨by rfl, ?ay2⟩) (by assumption) ?ar2
      case ay2 => (intro w hSw; (try dsimp only at hSw); go_simp; try (with_reducible rfl))
      case ar2 =>
      try simp only [Act.put, List.setIfInBounds_toArray, List.set_cons_zero, List.set_cons_succ]
      refine wpAnyH_take (i := 3) (oi := { dst := some 30, op := Go.Op.binOp Go.BinOp.sub 3 (Go.Operand.const (Go.Value.int Go.IntKind.i64 4)) (Go.Operand.tmp 29) 3, type := 3, pos := "ripemd.go:59", after := #[{ on := 2, ground := Go.Ground.data }], guard := none }) (v := ?av3) rfl (by kernel_rfl) (by kernel_rfl) (by kernel_rfl) (fun _ _ _ h => h) (Or.inl ⟨by rfl, ?ay3⟩) (by assumption) ?ar3
      case ay3 => (intro w hSw; (try dsimp only at hSw); go_simp; try (with_reducible rfl))
      case ar3 =>
      try simp only [Act.put, List.setIfInBounds_toArray, List.set_cons_zero, List.set_cons_succ]
      refine wpAnyH_take (i := 4) (oi := { dst := some 31, op := Go.Op.move (Go.Operand.tmp 7), type := 55, pos := "ripemd.go:59", after := #[], guard := none }) (v := ?av4) rfl (by kernel_rfl) (by kernel_rfl) (by kernel_rfl) (fun _ _ _ h => h) (Or.inl ⟨by rfl, ?ay4⟩) (by assumption) ?ar4
      case ay4 => (intro w hSw; (try dsimp only at hSw); go_simp; try (with_reducible rfl))
      case ar4 =>
      try simp only [Act.put, List.setIfInBounds_toArray, List.set_cons_zero, List.set_cons_succ]
      refine wpAnyH_take (i := 5) (oi := { dst := some 32, op := Go.Op.move (Go.Operand.tmp 8), type := 55, pos := "ripemd.go:59", after := #[], guard := none }) (v := ?av5) rfl (by kernel_rfl) (by kernel_rfl) (by kernel_rfl) (fun _ _ _ h => h) (Or.inl ⟨by rfl, ?ay5⟩) (by assumption) ?ar5
      case ay5 => (intro w hSw; (try dsimp only at hSw); go_simp; try (with_reducible rfl))
      case ar5 =>
      try simp only [Act.put, List.setIfInBounds_toArray, List.set_cons_zero, List.set_cons_succ]
      refine wpAnyH_take (i := 6) (oi := { dst := some 33, op := Go.Op.move (Go.Operand.tmp 9), type := 55, pos := "ripemd.go:59", after := #[], guard := none }) (v := ?av6) rfl (by kernel_rfl) (by kernel_rfl) (by kernel_rfl) (fun _ _ _ h => h) (Or.inl ⟨by rfl, ?ay6⟩) (by assumption) ?ar6
      case ay6 => (intro w hSw; (try dsimp only at hSw); go_simp; try (with_reducible rfl))
      case ar6 =>
      try simp only [Act.put, List.setIfInBounds_toArray, List.set_cons_zero, List.set_cons_succ]
      refine wpAnyH_take (i := 9) (oi := { dst := some 36, op := Go.Op.move (Go.Operand.tmp 11), type := 3, pos := "ripemd.go:59", after := #[], guard := none }) (v := ?av9) rfl (by kernel_rfl) (by kernel_rfl) (by kernel_rfl) (fun _ _ _ h => h) (Or.inl ⟨by rfl, ?ay9⟩) (by assumption) ?ar9
      case ay9 => (intro w hSw; (try dsimp only at hSw); go_simp; try (with_reducible rfl))
      case ar9 =>
      try simp only [Act.put, List.setIfInBounds_toArray, List.set_cons_zero, List.set_cons_succ]
      refine wpAnyH_take (i := 10) (oi := { dst := some 37, op := Go.Op.indexAddr 189 (Go.Operand.global 5) (Go.Operand.tmp 36), type := 0, pos := "ripemd.go:59", after := #[{ on := 9, ground := Go.Ground.data }], guard := none }) (v := ?av10) rfl (by kernel_rfl) (by kernel_rfl) (by kernel_rfl) (fun _ _ _ h => h) (Or.inl ⟨by rfl, ?ay10⟩) (by assumption) ?ar10
      case ay10 => (intro w hSw; (try dsimp only at hSw); go_simp; try (with_reducible rfl))
      case ar10 =>
      try simp only [Act.put, List.setIfInBounds_toArray, List.set_cons_zero, List.set_cons_succ]
      refine wpAnyH_take (i := 11) (oi := { dst := some 38, op := Go.Op.load 5 (Go.Operand.tmp 37), type := 5, pos := "ripemd.go:59", after := #[{ on := 10, ground := Go.Ground.data }], guard := none }) (v := ?av11) rfl (by kernel_rfl) (by kernel_rfl) (by kernel_rfl) (fun _ _ _ h => h) (Or.inl ⟨by rfl, ?ay11⟩) (by assumption) ?ar11
      case ay11 => (intro w hSw; (try dsimp only at hSw); go_simp; try (with_reducible rfl))
      case ar11 =>
      try simp only [Act.put, List.setIfInBounds_toArray, List.set_cons_zero, List.set_cons_succ]
      refine wpAnyH_take (i := 12) (oi := { dst := some 39, op := Go.Op.indexAddr 156 (Go.Operand.tmp 3) (Go.Operand.tmp 38), type := 0, pos := "ripemd.go:59", after := #[{ on := 11, ground := Go.Ground.data }], guard := none }) (v := ?av12) rfl (by kernel_rfl) (by kernel_rfl) (by kernel_rfl) (fun _ _ _ h => h) (Or.inl ⟨by rfl, ?ay12⟩) (by assumption) ?ar12
      case ay12 => (intro w hSw; (try dsimp only at hSw); go_simp; try (with_reducible rfl))
      case ar12 =>
      try simp only [Act.put, List.setIfInBounds_toArray, List.set_cons_zero, List.set_cons_succ]
      refine wpAnyH_take (i := 13) (oi := { dst := some 40, op := Go.Op.load 55 (Go.Operand.tmp 39), type := 55, pos := "ripemd.go:59", after := #[{ on := 12, ground := Go.Ground.data }], guard := none }) (v := ?av13) rfl (by kernel_rfl) (by kernel_rfl) (by kernel_rfl) (fun _ _ _ h => h) (Or.inl ⟨by rfl, ?ay13⟩) (by assumption) ?ar13
      case ay13 => (intro w hSw; (try dsimp only at hSw); go_simp; try (with_reducible rfl))
      case ar13 =>
      try simp only [Act.put, List.setIfInBounds_toArray, List.set_cons_zero, List.set_cons_succ]
      refine wpAnyH_take (i := 15) (oi := { dst := some 42, op := Go.Op.move (Go.Operand.tmp 11), type := 3, pos := "ripemd.go:59", after := #[], guard := none }) (v := ?av15) rfl (by kernel_rfl) (by kernel_rfl) (by kernel_rfl) (fun _ _ _ h => h) (Or.inl ⟨by rfl, ?ay15⟩) (by assumption) ?ar15
      case ay15 => (intro w hSw; (try dsimp only at hSw); go_simp; try (with_reducible rfl))
      case ar15 =>
      try simp only [Act.put, List.setIfInBounds_toArray, List.set_cons_zero, List.set_cons_succ]
      refine wpAnyH_take (i := 16) (oi := { dst := some 43, op := Go.Op.binOp Go.BinOp.quo 3 (Go.Operand.tmp 42) (Go.Operand.const (Go.Value.int Go.IntKind.i64 16)) 3, type := 3, pos := "ripemd.go:59", after := #[{ on := 15, ground := Go.Ground.data }], guard := none }) (v := ?av16) rfl (by kernel_rfl) (by kernel_rfl) (by kernel_rfl) (fun _ _ _ h => h) (Or.inl ⟨by rfl, ?ay16⟩) (by assumption) ?ar16
      case ay16 => (intro w hSw; (try dsimp only at hSw); go_simp; try (with_reducible rfl))
      case ar16 =>
      try simp only [Act.put, List.setIfInBounds_toArray, List.set_cons_zero, List.set_cons_succ]
      refine wpAnyH_take (i := 17) (oi := { dst := some 44, op := Go.Op.indexAddr 120 (Go.Operand.tmp 5) (Go.Operand.tmp 43), type := 0, pos := "ripemd.go:59", after := #[{ on := 16, ground := Go.Ground.data }], guard := none }) (v := ?av17) rfl (by kernel_rfl) (by kernel_rfl) (by kernel_rfl) (fun _ _ _ h => h) (Or.inl ⟨by rfl, ?ay17⟩) (by assumption) ?ar17
      case ay17 => (intro w hSw; (try dsimp only at hSw); go_simp; try (with_reducible rfl))
      case ar17 =>
      try simp only [Act.put, List.setIfInBounds_toArray, List.set_cons_zero, List.set_cons_succ]
      refine wpAnyH_take (i := 18) (oi := { dst := some 45, op := Go.Op.load 55 (Go.Operand.tmp 44), type := 55, pos := "ripemd.go:59", after := #[{ on := 17, ground := Go.Ground.data }], guard := none }) (v := ?av18) rfl (by kernel_rfl) (by kernel_rfl) (by kernel_rfl) (fun _ _ _ h => h) (Or.inl ⟨by rfl, ?ay18⟩) (by assumption) ?ar18
      case ay18 => (intro w hSw; (try dsimp only at hSw); go_simp; try (with_reducible rfl))
      case ar18 =>
      try simp only [Act.put, List.setIfInBounds_toArray, List.set_cons_zero, List.set_cons_succ]
      refine wpAnyH_ready (rs := [7]) (by kernel_rfl) (by simp) ?_
      refine AllReadyH.cons (o := { dst := some 34, op := Go.Op.call { callee := Go.Callee.value (Go.Operand.func 124), args := #[Go.Operand.tmp 30, Go.Operand.tmp 31, Go.Operand.tmp 32, Go.Operand.tmp 33], argTypes := #[3, 55, 55, 55] }, type := 55, pos := "ripemd.go:59", after := #[{ on := 3, ground := Go.Ground.data }, { on := 4, ground := Go.Ground.data }, { on := 5, ground := Go.Ground.data }, { on := 6, ground := Go.Ground.data }], guard := none }) rfl (fun K hK => ?_) (AllReadyH.nil)
      go_simp
      refine (MX.out _).mono ?_
      rintro e w7 ⟨rfl, rfl⟩
      go_simp
      refine hK.out _ _ ?_ (fun hHeld => ?_)
      · exact hHeld
      clear hK K
      try simp only [Act.put, List.setIfInBounds_toArray, List.set_cons_zero, List.set_cons_succ]
      refine wpAnyH_take (i := 8) (oi := { dst := some 35, op := Go.Op.binOp Go.BinOp.add 55 (Go.Operand.tmp 27) (Go.Operand.tmp 34) 55, type := 55, pos := "ripemd.go:59", after := #[{ on := 0, ground := Go.Ground.data }, { on := 7, ground := Go.Ground.data }], guard := none }) (v := ?a_7v8) rfl (by kernel_rfl) (by kernel_rfl) (by kernel_rfl) (fun _ _ _ h => h) (Or.inl ⟨by rfl, ?a_7y8⟩) (by assumption) ?a_7r8
      case a_7y8 => (intro w hSw; (try dsimp only at hSw); go_simp; try (with_reducible rfl))
      case a_7r8 =>
      try simp only [Act.put, List.setIfInBounds_toArray, List.set_cons_zero, List.set_cons_succ]
      refine wpAnyH_take (i := 14) (oi := { dst := some 41, op := Go.Op.binOp Go.BinOp.add 55 (Go.Operand.tmp 35) (Go.Operand.tmp 40) 55, type := 55, pos := "ripemd.go:59", after := #[{ on := 8, ground := Go.Ground.data }, { on := 13, ground := Go.Ground.data }], guard := none }) (v := ?a_7v14) rfl (by kernel_rfl) (by kernel_rfl) (by kernel_rfl) (fun _ _ _ h => h) (Or.inl ⟨by rfl, ?a_7y14⟩) (by assumption) ?a_7r14
      case a_7y14 => (intro w hSw; (try dsimp only at hSw); go_simp; try (with_reducible rfl))
      case a_7r14 =>
      try simp only [Act.put, List.setIfInBounds_toArray, List.set_cons_zero, List.set_cons_succ]
      refine wpAnyH_take (i := 19) (oi := { dst := some 46, op := Go.Op.binOp Go.BinOp.add 55 (Go.Operand.tmp 41) (Go.Operand.tmp 45) 55, type := 55, pos := "ripemd.go:59", after := #[{ on := 14, ground := Go.Ground.data }, { on := 18, ground := Go.Ground.data }], guard := none }) (v := ?a_7v19) rfl (by kernel_rfl) (by kernel_rfl) (by kernel_rfl) (fun _ _ _ h => h) (Or.inl ⟨by rfl, ?a_7y19⟩) (by assumption) ?a_7r19
      case a_7y19 => (intro w hSw; (try dsimp only at hSw); go_simp; try (with_reducible rfl))
      case a_7r19 =>
      try simp only [Act.put, List.setIfInBounds_toArray, List.set_cons_zero, List.set_cons_succ]
      refine wpAnyH_take (i := 20) (oi := { dst := some 12, op := Go.Op.assign (Go.Operand.tmp 46), type := 55, pos := "ripemd.go:59", after := #[{ on := 19, ground := Go.Ground.data }, { on := 7, ground := Go.Ground.chain }, { on := 0, ground := Go.Ground.phase }, { on := 1, ground := Go.Ground.phase }, { on := 2, ground := Go.Ground.phase }, { on := 3, ground := Go.Ground.phase }, { on := 4, ground := Go.Ground.phase }, { on := 5, ground := Go.Ground.phase }, { on := 6, ground := Go.Ground.phase }, { on := 7, ground := Go.Ground.phase }, { on := 8, ground := Go.Ground.phase }, { on := 9, ground := Go.Ground.phase }, { on := 10, ground := Go.Ground.phase }, { on := 11, ground := Go.Ground.phase }, { on := 12, ground := Go.Ground.phase }, { on := 13, ground := Go.Ground.phase }, { on := 14, ground := Go.Ground.phase }, { on := 15, ground := Go.Ground.phase }, { on := 16, ground := Go.Ground.phase }, { on := 17, ground := Go.Ground.phase }, { on := 18, ground := Go.Ground.phase }, { on := 19, ground := Go.Ground.phase }], guard := none }) (v := ?a_7v20) rfl (by kernel_rfl) (by kernel_rfl) (by kernel_rfl) (fun _ _ _ h => h) (Or.inl ⟨by rfl, ?a_7y20⟩) (by assumption) ?a_7r20
      case a_7y20 => (intro w hSw; (try dsimp only at hSw); go_simp; try (with_reducible rfl))
      case a_7r20 =>
      try simp only [Act.put, List.setIfInBounds_toArray, List.set_cons_zero, List.set_cons_succ]
      refine wpAnyH_done (by kernel_rfl) ?_ _
      obtain ⟨N, hN⟩ : ∃ N, N = sumR i x k s := ⟨_, rfl⟩
      have eN : IntKind.u32.wrap (IntKind.u32.wrap (IntKind.u32.wrap (s.a + fR i s.b s.c s.d) + x) + k) = N := by
        rw [hN]
        simp only [u32_wrap]
        rfl
      rw [eN]
      have hNu : U32 N := by rw [hN]; exact add32_u _ _
      have C1 := Lib.hid (fun W => rotl_any N (u : Int) u u W hNu (by simp [IntKind.wrap, IntKind.bits, IntKind.signed]; omega) (by omega) (by omega))
      have HN := Lib.hid hN
      clear eN hN hNu
      generalize IntKind.u32.wrap (IntKind.u32.wrap (s.a + fR i s.b s.c s.d) + x) = Y1
      generalize IntKind.u32.wrap (s.a + fR i s.b s.c s.d) = Y2
      generalize fR i s.b s.c s.d = Y3
      obtain ⟨wd, hwd⟩ : ∃ z, z = w5.drew := ⟨_, rfl⟩
      rw [← hwd]
      have tc2 : wd.cell? ⟨6, t, none⟩ = some (.int .u8 (u : Int)) := by rw [hwd]; exact TC.out
      have HRX2 := Lib.hid (show IRow wd (GA + 1) 156 .u32 xs by rw [hwd]; exact HRX.out)
      have HRR2 := Lib.hid (show IRow wd (GA + 1 + 1) 120 .u32 (List.replicate 5 0) by rw [hwd]; exact HRR.out)
      have HRD2 := Lib.hid (show IRow wd GD 120 .u32 add2 by rw [hwd]; exact HRD.out)
      have HBEL2 := Lib.hid (show Below GA w wd by rw [hwd]; exact HBEL.out.drew)
      have qu : IntKind.i64.wrap (u : Int) = (u : Int) := by rw [IntWalk.i64_in _ (by omega)]
      clear hwd hHeld HRX HRR HRD HBEL oc xc ac TC q1 q2 q3 q4 q5 q6
      go_wp2_with fail
      refine (C1.out _).mono ?_
      rintro e w7 ⟨rfl, rfl⟩
      go_wp2_with fail
      refine (C2.out _).mono ?_
      rintro e w7 ⟨rfl, rfl⟩
      go_wp2_with fail
      have HSTEP := Lib.hid (show stepR i x k u s = ⟨s.e, (rot32 u N + s.e) % 4294967296, s.b, rot32 10 s.c, s.d⟩ by unfold stepR add32; rw [← HN.out])
      refine ⟨⟨t + 1, stepR i x k u s, by omega, Lib.hid ?_, by go_num, ?_, ?_, ?_, ?_, ?_, HRX2.out, HRR2.out, HRD2.out, HBEL2.out⟩, by simp [intOf]; omega⟩
      · have hj := HJ.out
        have hi := HI.out
        rw [line2, ← hst.out, HR2.out, HU2.out, ← hj, HK2.out, Int.toNat_natCast, Int.toNat_natCast, List.getD_eq_getElem?_getD, HXX.out, ← hi]
        rfl
      all_goals (rw [HSTEP.out])
    · obtain rfl : t = 80 := by omega
      have h80' : ((80 : Nat) : Int) = 80 := rfl
      rw [h80']
      have HRR := Lib.hid hrr
      have HBEL := Lib.hid hbel
      have HST := Lib.hid hst.out
      have HFIN := Lib.hid (setRow_irow (ys := s.list) hrr)
      have HBF := Lib.hid (below_setRow hbel (show GA ≤ GA + 1 + 1 by omega) (s.list.map (Value.int .u32)).toArray)
      clear h80' hrx hrr hrd hbel hst h80 ht
      go_wp2_with (first
        | (refine wpList_store_irow rfl 120 (.tmp 4) (.tmp 67) rfl (g := GA + 1 + 1) (t := 120) (k := .u32) (xs := List.replicate 5 0) (ys := s.list) rfl rfl HRR.out info_5 rfl ?_))
      refine bodyPost_ret (v := .agg (s.list.map (Value.int .u32)).toArray) ?_ rfl ⟨by rw [HST.out], by rw [← HGA.out]; exact HBF.out⟩
      obtain ⟨fr, hrw⟩ : ∃ fr, (w5.setRow (GA + 1 + 1) (s.list.map (Value.int .u32)).toArray).heap[GA + 1 + 1]? = some (.cells (s.list.map (Value.int .u32)).toArray 120 fr) := ⟨_, HFIN.out⟩
      exact results_cell_row Tryz.results101 _ _ (GA + 1 + 1) 120 (s.list.map (Value.int .u32)).toArray fr _ rfl hrw Tryz.underlying120 rfl info_5
end Go.Proofs.YtocblkacdoahfaaGreatDoor.Rm

/-
  hash.stepRipemd, walked. Conditions: the block has 64 bytes; the words are of 32 bits; the tables are laid.
-/
namespace Go.Proofs.YtocblkacdoahfaaGreatDoor.Rm
open Go.RowKit

theorem wordR_cells {bs : List UInt8} {t : Nat} (h : 4 * t + 4 ≤ bs.length) : ∃ q0 q1 q2 q3, bs[4 * t]? = some q0 ∧ bs[4 * t + 1]? = some q1 ∧ bs[4 * t + 2]? = some q2 ∧ bs[4 * t + 3]? = some q3 ∧ wordR bs t = be32 q3 q2 q1 q0 := by
  refine ⟨bs[4 * t]'(by omega), bs[4 * t + 1]'(by omega), bs[4 * t + 2]'(by omega), bs[4 * t + 3]'(by omega), List.getElem?_eq_getElem _, List.getElem?_eq_getElem _, List.getElem?_eq_getElem _, List.getElem?_eq_getElem _, ?_⟩
  unfold wordR
  simp only [List.getD_eq_getElem?_getD]
  rw [List.getElem?_eq_getElem (show 4 * t < bs.length by omega), List.getElem?_eq_getElem (show 4 * t + 1 < bs.length by omega), List.getElem?_eq_getElem (show 4 * t + 2 < bs.length by omega), List.getElem?_eq_getElem (show 4 * t + 3 < bs.length by omega)]
  rfl
theorem join_at (s p q : S5) {i : Nat} (hi : i < 5) : ∃ x y z, s.list[(i + 1) % 5]? = some x ∧ p.list[(i + 2) % 5]? = some y ∧ q.list[(i + 3) % 5]? = some z ∧ (joinR s p q).list[i]? = some (add32 (add32 x y) z) := by
  obtain rfl | rfl | rfl | rfl | rfl : i = 0 ∨ i = 1 ∨ i = 2 ∨ i = 3 ∨ i = 4 := by omega
  all_goals exact ⟨_, _, _, rfl, rfl, rfl, rfl⟩
set_option maxRecDepth 100000 in
set_option maxHeartbeats 6400000 in
theorem step_any (b o c : Nat) (s0 : S5) (bs : List UInt8) (w : World) (hs : s0.Ok) (hl : bs.length = 64) (hc : 64 ≤ c) (hcm : c ≤ 9223372036854775807) (hb : b < w.heap.size) (hcell : ∀ (j : Nat) (u : UInt8), bs[j]? = some u → w.cell? ⟨b, o + j, none⟩ = some (bv u)) (htab : TabsIs w) :
    Calls Tryz.prog 74 #[.agg (s0.list.map (Value.int .u32)).toArray, .slice (some ⟨b, o, none⟩) 64 c] w fun e w' => e = .returned (.agg ((compR s0 bs).list.map (Value.int .u32)).toArray) ∧ Below w.heap.size w w' := by
  have HC := Lib.hid hcell
  have HL := Lib.hid hl
  have HK := Lib.hid htab
  have HS := Lib.hid hs
  clear hcell hl htab hs
  have rA := IRow.new w 120 .u32 s0.list
  have bA : Below w.heap.size w (w.alloc (.cells (s0.list.map (Value.int .u32)).toArray 120)) := (Below.refl _ w).alloc (Nat.le_refl _) _
  have sA : (w.alloc (.cells (s0.list.map (Value.int .u32)).toArray 120)).heap.size = w.heap.size + 1 := by simp
  obtain ⟨wA, hwA⟩ : ∃ z, z = w.alloc (.cells (s0.list.map (Value.int .u32)).toArray 120) := ⟨_, rfl⟩
  rw [← hwA] at rA bA sA
  have rR := IRow.new wA 120 .u32 (List.replicate 5 0)
  have bR : Below wA.heap.size wA (wA.alloc (.cells ((List.replicate 5 (0 : Int)).map (Value.int .u32)).toArray 120)) := (Below.refl _ wA).alloc (Nat.le_refl _) _
  have sR : (wA.alloc (.cells ((List.replicate 5 (0 : Int)).map (Value.int .u32)).toArray 120)).heap.size = wA.heap.size + 1 := by simp
  obtain ⟨wR, hwR⟩ : ∃ z, z = wA.alloc (.cells ((List.replicate 5 (0 : Int)).map (Value.int .u32)).toArray 120) := ⟨_, rfl⟩
  rw [← hwR] at rR bR sR
  obtain ⟨GA, hGA⟩ : ∃ g, g = w.heap.size := ⟨_, rfl⟩
  rw [← hGA] at rA bA sA
  rw [sA] at rR bR sR
  have rA2 := rA.below bR (by omega)
  have b2 := bA.trans (bR.mono (by omega : GA ≤ GA + 1))
  have HW := Lib.hid (show wR = (w.alloc (.cells (s0.list.map (Value.int .u32)).toArray 120)).alloc (.cells ((List.replicate 5 (0 : Int)).map (Value.int .u32)).toArray 120) by rw [hwR, hwA])
  have HGA := Lib.hid hGA
  have RA2 := Lib.hid rA2
  have RR := Lib.hid rR
  have B2 := Lib.hid b2
  have SR := Lib.hid sR
  have rX := IRow.new wR 156 .u32 (List.replicate 16 0)
  have bX : Below wR.heap.size wR (wR.alloc (.cells ((List.replicate 16 (0 : Int)).map (Value.int .u32)).toArray 156)) := (Below.refl _ wR).alloc (Nat.le_refl _) _
  have RX := Lib.hid rX
  have BX := Lib.hid bX
  clear hwA hwR rA bA sA rR bR sR rA2 b2 hGA rX bX
  go_enter Tryz.func74, Tryz.ntmps74
  go_upto_region 1 with fail
  change Code.wp _ _ _ _ ((w.alloc (.cells (s0.list.map (Value.int .u32)).toArray 120)).alloc (.cells ((List.replicate 5 (0 : Int)).map (Value.int .u32)).toArray 120))
  rw [← HW.out]
  have q1 : (w.alloc (.cells (s0.list.map (Value.int .u32)).toArray 120)).heap.size = GA + 1 := by rw [HGA.out]; simp
  try rw [q1]
  try rw [← HGA.out]
  clear q1
  try dsimp only [Act.put]
  go_upto_region 2 with fail
  change Code.wp _ _ _ _ (wR.alloc (.cells ((List.replicate 16 (0 : Int)).map (Value.int .u32)).toArray 156))
  obtain ⟨w3, hw3⟩ : ∃ z, z = wR.alloc (.cells ((List.replicate 16 (0 : Int)).map (Value.int .u32)).toArray 156) := ⟨_, rfl⟩
  rw [← hw3] at RX BX
  rw [← hw3]
  obtain ⟨GX, hGX⟩ : ∃ g, g = wR.heap.size := ⟨_, rfl⟩
  rw [← hGX] at RX BX
  rw [← hGX]
  have hx2 : GA + 1 < GX := by rw [hGX, SR.out]; omega
  have rA4 := RA2.out.below BX.out (by omega)
  have rR4 := RR.out.below BX.out (by omega)
  have b4 := B2.out.trans (BX.out.mono (by omega : GA ≤ GX))
  have RA4 := Lib.hid rA4
  have RR4 := Lib.hid rR4
  have B4 := Lib.hid b4
  clear hw3 hGX rA4 rR4 b4 RA2 RR B2 BX SR HW
  try dsimp only [Act.put]
  go_wp2_with fail
  go_loopw [11] (fun j wr => ∃ t : Nat, t ≤ 16 ∧ j = .int .i64 t ∧ IRow wr GX 156 .u32 (padZ 16 (wordsR bs t)) ∧ IRow wr GA 120 .u32 s0.list ∧ IRow wr (GA + 1) 120 .u32 (List.replicate 5 0) ∧ Below GA w wr) (fun j _ => 16 - (intOf j).toNat)
  case atStart => exact ⟨0, by omega, rfl, RX.out, RA4.out, RR4.out, B4.out⟩
  case round =>
    obtain ⟨t, ht, rfl, hrow, hra, hrr, hbel⟩ := hrel
    obtain ⟨w5, hw5⟩ : ∃ z : World, z = wr := ⟨_, rfl⟩
    rw [← hw5] at hrow hra hrr hbel ⊢
    clear hw5
    have hbA : b < GA := by rw [HGA.out]; exact hb
    by_cases h16 : t < 16
    · obtain ⟨q0, q1, q2, q3, g0, g1, g2, g3, hw⟩ := wordR_cells (bs := bs) (t := t) (by have := HL.out; omega)
      have c0 := (hbel.cell (p := ⟨b, o + 4 * t, none⟩) hbA).trans (HC.out _ _ g0)
      have c1 := (hbel.cell (p := ⟨b, o + (4 * t + 1), none⟩) hbA).trans (HC.out _ _ g1)
      have c2 := (hbel.cell (p := ⟨b, o + (4 * t + 2), none⟩) hbA).trans (HC.out _ _ g2)
      have c3 := (hbel.cell (p := ⟨b, o + (4 * t + 3), none⟩) hbA).trans (HC.out _ _ g3)
      rw [← Nat.add_assoc] at c1 c2 c3
      have hu := be32_u q0 q1 q2 q3
      have G := Lib.hid (get32_any b (o + 4 * t) (64 - 4 * t) (c - 4 * t) q0 q1 q2 q3 w5 (by omega) c0 c1 c2 c3)
      have RV := Lib.hid (fun W => rev_any (be32 q0 q1 q2 q3) W hu)
      rw [rev_be, ← hw] at RV
      obtain ⟨X, hX⟩ : ∃ X, X = be32 q0 q1 q2 q3 := ⟨_, rfl⟩
      rw [← hX] at G RV
      have hsn := wordsR_succ bs t
      have hll := wordsR_length bs t
      have hcz : w5.cell? ⟨GX, t, none⟩ = some (.int .u32 0) := hrow.cell (by have := padZ_next (n := 16) (l := wordsR bs t) (by omega); rw [hll] at this; exact this)
      have hcf := hrow.free t
      have hset := hrow.set t (wordR bs t)
      have hpz := padZ_set (n := 16) (l := wordsR bs t) (z := wordR bs t) (by omega)
      rw [hll] at hpz
      rw [hpz, ← hsn] at hset
      have HSET := Lib.hid hset
      have HRA := Lib.hid hra
      have HRR := Lib.hid hrr
      have HBEL := Lib.hid hbel
      have e4 : ¬ (c = 4 * t) := by omega
      have e5 : 4 * t ≤ 64 := by omega
      clear g0 g1 g2 g3 hw c0 c1 c2 c3 hsn hll hset hpz hrow hra hrr hbel hX hu
      go_wp2_with fail
      refine G.out.mono ?_
      rintro e w' ⟨rfl, k, rfl⟩
      go_wp2_with fail
      refine (RV.out _).mono ?_
      rintro e w7 ⟨rfl, rfl⟩
      go_wp2_with fail
      refine ⟨⟨t + 1, by omega, by go_num, HSET.out, ?_, ?_, ?_⟩, by simp [intOf]; omega⟩
      · exact (Below.heap_setCell w5 _ _ _ (by show GA ≠ GX; omega)).trans HRA.out
      · exact (Below.heap_setCell w5 _ _ _ (by show GA + 1 ≠ GX; omega)).trans HRR.out
      · have h := HBEL.out.setCell (p := ⟨GX, t, none⟩) (by show GA ≤ GX; omega) (.int .u32 (wordR bs t))
        exact ⟨h.os, h.tape, h.output, h.size, h.block⟩
    · obtain rfl : t = 16 := by omega
      have h16' : ((16 : Nat) : Int) = 16 := rfl
      rw [h16']
      rw [padZ_full (wordsR_length bs 16)] at hrow
      obtain ⟨ws, hws⟩ : ∃ ws, ws = wordsR bs 16 := ⟨_, rfl⟩
      have hwl : ws.length = 16 := by rw [hws]; exact wordsR_length bs 16
      rw [← hws] at hrow
      have hro : TabsIs w5 := HK.out.below (by rw [← HGA.out]; exact hbel)
      have L1 := Lib.hid (line1_any s0 ws w5 HS.out hwl hro)
      have HRO := Lib.hid hro
      have HROW := Lib.hid hrow
      have HRA := Lib.hid hra
      have HRR := Lib.hid hrr
      have HBEL := Lib.hid hbel
      have HWS := Lib.hid hws
      have HWL := Lib.hid hwl
      have HI16 := Lib.hid (show (Tryz.prog.info? 156).map (·.size) = some ws.length by rw [hwl]; exact info_16)
      have hgx : GX < w5.heap.size := hrow.lt
      clear h16' hrow hra hrr hbel hws hwl hro h16 ht
      go_wp2_with (first
        | (refine wpList_load_irow rfl 120 (.tmp 2) rfl (g := GA) (t := 120) (k := .u32) (xs := s0.list) rfl HRA.out Tryz.underlying120 info_5 ?_)
        | (refine wpList_load_irow rfl 156 (.tmp 5) rfl (g := GX) (t := 156) (k := .u32) (xs := ws) rfl HROW.out Tryz.underlying156 HI16.out ?_))
      refine L1.out.mono ?_
      rintro e w6 ⟨rfl, hb6⟩
      obtain ⟨p, hp⟩ : ∃ p, p = line1 ws 80 s0 := ⟨_, rfl⟩
      rw [← hp]
      have HP := Lib.hid hp
      have hs6 := hb6.size
      have HRO6 := Lib.hid (HRO.out.below hb6)
      have HROW6 := Lib.hid (HROW.out.below hb6 hgx)
      have HRA6 := Lib.hid (HRA.out.below hb6 (by omega))
      have HRR6 := Lib.hid (HRR.out.below hb6 (by omega))
      have HB6 := Lib.hid (HBEL.out.trans (hb6.mono (by omega)))
      have RZ := Lib.hid (IRow.new w6 120 .u32 (List.replicate 5 0))
      clear hp hb6 L1 HROW HRA HRR HBEL HRO
      go_upto_region 8 with (refine wpList_store_irow rfl 120 (.tmp 7) (.tmp 25) rfl (g := w6.heap.size) (t := 120) (k := .u32) (xs := List.replicate 5 0) (ys := p.list) rfl rfl RZ.out info_5 rfl ?_)
      change Code.wp _ _ _ _ ((w6.alloc (.cells ((List.replicate 5 (0 : Int)).map (Value.int .u32)).toArray 120)).setRow w6.heap.size (p.list.map (Value.int .u32)).toArray)
      have bP : Below w6.heap.size w6 ((w6.alloc (.cells ((List.replicate 5 (0 : Int)).map (Value.int .u32)).toArray 120)).setRow w6.heap.size (p.list.map (Value.int .u32)).toArray) := below_setRow ((Below.refl _ w6).alloc (Nat.le_refl _) _) (Nat.le_refl _) _
      have rP := setRow_irow (ys := p.list) RZ.out
      obtain ⟨w7, hw7⟩ : ∃ z, z = (w6.alloc (.cells ((List.replicate 5 (0 : Int)).map (Value.int .u32)).toArray 120)).setRow w6.heap.size (p.list.map (Value.int .u32)).toArray := ⟨_, rfl⟩
      rw [← hw7] at bP rP ⊢
      obtain ⟨GP, hGP⟩ : ∃ g, g = w6.heap.size := ⟨_, rfl⟩
      rw [← hGP] at bP rP ⊢
      have hgp : GX < GP := by omega
      have hgp7 : GP < w7.heap.size := rP.lt
      have L2 := Lib.hid (line2_any s0 ws w7 HS.out HWL.out (HRO6.out.below (by rw [← hGP]; exact bP)))
      have HROW7 := Lib.hid (HROW6.out.below bP hgp)
      have HRA7 := Lib.hid (HRA6.out.below bP (by omega))
      have HRR7 := Lib.hid (HRR6.out.below bP (by omega))
      have HB7 := Lib.hid (HB6.out.trans (bP.mono (by omega)))
      have RP7 := Lib.hid rP
      clear hw7 hGP bP rP HROW6 HRA6 HRR6 HB6 HRO6 RZ
      try dsimp only [Act.put]
      go_wp2_with (first
        | (refine wpList_load_irow rfl 120 (.tmp 2) rfl (g := GA) (t := 120) (k := .u32) (xs := s0.list) rfl HRA7.out Tryz.underlying120 info_5 ?_)
        | (refine wpList_load_irow rfl 156 (.tmp 5) rfl (g := GX) (t := 156) (k := .u32) (xs := ws) rfl HROW7.out Tryz.underlying156 HI16.out ?_))
      refine L2.out.mono ?_
      rintro e w8 ⟨rfl, hb8⟩
      obtain ⟨q, hq⟩ : ∃ q, q = line2 ws 80 s0 := ⟨_, rfl⟩
      rw [← hq]
      have HQ := Lib.hid hq
      have hs8 := hb8.size
      have HRA8 := Lib.hid (HRA7.out.below hb8 (by omega))
      have HRR8 := Lib.hid (HRR7.out.below hb8 (by omega))
      have HRP8 := Lib.hid (RP7.out.below hb8 hgp7)
      have HB8 := Lib.hid (HB7.out.trans (hb8.mono (by omega)))
      have RZ8 := Lib.hid (IRow.new w8 120 .u32 (List.replicate 5 0))
      clear hq hb8 L2 HROW7 HRA7 HRR7 HB7 RP7
      go_upto_region 9 with (refine wpList_store_irow rfl 120 (.tmp 8) (.tmp 28) rfl (g := w8.heap.size) (t := 120) (k := .u32) (xs := List.replicate 5 0) (ys := q.list) rfl rfl RZ8.out info_5 rfl ?_)
      change Code.wp _ _ _ _ ((w8.alloc (.cells ((List.replicate 5 (0 : Int)).map (Value.int .u32)).toArray 120)).setRow w8.heap.size (q.list.map (Value.int .u32)).toArray)
      have bQ : Below w8.heap.size w8 ((w8.alloc (.cells ((List.replicate 5 (0 : Int)).map (Value.int .u32)).toArray 120)).setRow w8.heap.size (q.list.map (Value.int .u32)).toArray) := below_setRow ((Below.refl _ w8).alloc (Nat.le_refl _) _) (Nat.le_refl _) _
      have rQ := setRow_irow (ys := q.list) RZ8.out
      obtain ⟨w9, hw9⟩ : ∃ z, z = (w8.alloc (.cells ((List.replicate 5 (0 : Int)).map (Value.int .u32)).toArray 120)).setRow w8.heap.size (q.list.map (Value.int .u32)).toArray := ⟨_, rfl⟩
      rw [← hw9] at bQ rQ ⊢
      obtain ⟨GQ, hGQ⟩ : ∃ g, g = w8.heap.size := ⟨_, rfl⟩
      rw [← hGQ] at bQ rQ ⊢
      have hgq : GP < GQ := by omega
      have hgq9 : GQ < w9.heap.size := rQ.lt
      have HRA9 := Lib.hid (HRA8.out.below bQ (by omega))
      have HRR9 := Lib.hid (HRR8.out.below bQ (by omega))
      have HRP9 := Lib.hid (HRP8.out.below bQ hgq)
      have HB9 := Lib.hid (HB8.out.trans (bQ.mono (by omega)))
      have RQ9 := Lib.hid rQ
      clear hw9 hGQ bQ rQ HRA8 HRR8 HRP8 HB8 RZ8
      try dsimp only [Act.put]
      have rO := IRow.new w9 120 .u32 (List.replicate 5 0)
      have bO : Below w9.heap.size w9 (w9.alloc (.cells ((List.replicate 5 (0 : Int)).map (Value.int .u32)).toArray 120)) := (Below.refl _ w9).alloc (Nat.le_refl _) _
      have RO := Lib.hid rO
      have BO := Lib.hid bO
      clear rO bO
      go_upto_region 10 with fail
      change Code.wp _ _ _ _ (w9.alloc (.cells ((List.replicate 5 (0 : Int)).map (Value.int .u32)).toArray 120))
      obtain ⟨w10, hw10⟩ : ∃ z, z = w9.alloc (.cells ((List.replicate 5 (0 : Int)).map (Value.int .u32)).toArray 120) := ⟨_, rfl⟩
      rw [← hw10] at RO BO
      rw [← hw10]
      obtain ⟨GO, hGO⟩ : ∃ g, g = w9.heap.size := ⟨_, rfl⟩
      rw [← hGO] at RO BO
      rw [← hGO]
      have hgo : GQ < GO := by omega
      have HRA10 := Lib.hid (HRA9.out.below BO.out (by omega))
      have HRR10 := Lib.hid (HRR9.out.below BO.out (by omega))
      have HRP10 := Lib.hid (HRP9.out.below BO.out (by omega))
      have HRQ10 := Lib.hid (RQ9.out.below BO.out hgo)
      have HB10 := Lib.hid (HB9.out.trans (BO.out.mono (by omega)))
      clear hw10 hGO HRA9 HRR9 HRP9 RQ9 HB9 BO
      try dsimp only [Act.put]
      go_wp2_with fail
      go_loopw [29] (fun v wr => ∃ i : Nat, i ≤ 5 ∧ v = .int .i64 i ∧ IRow wr GO 120 .u32 (padZ 5 ((joinR s0 p q).list.take i)) ∧ IRow wr GA 120 .u32 s0.list ∧ IRow wr (GA + 1) 120 .u32 (List.replicate 5 0) ∧ IRow wr GP 120 .u32 p.list ∧ IRow wr GQ 120 .u32 q.list ∧ Below GA w wr) (fun v _ => 5 - (intOf v).toNat)
      case atStart => exact ⟨0, by omega, rfl, RO.out, HRA10.out, HRR10.out, HRP10.out, HRQ10.out, HB10.out⟩
      case round =>
        obtain ⟨i, hi, rfl, hro, hra, hrr, hrp, hrq, hbel⟩ := hrel
        obtain ⟨w11, hw11⟩ : ∃ z : World, z = wr := ⟨_, rfl⟩
        rw [← hw11] at hro hra hrr hrp hrq hbel ⊢
        clear hw11
        by_cases h5 : i < 5
        · obtain ⟨x, y, z, hx, hy, hz, hj⟩ := join_at s0 p q h5
          obtain ⟨i1, hi1⟩ : ∃ k, k = (i + 1) % 5 := ⟨_, rfl⟩
          obtain ⟨i2, hi2⟩ : ∃ k, k = (i + 2) % 5 := ⟨_, rfl⟩
          obtain ⟨i3, hi3⟩ : ∃ k, k = (i + 3) % 5 := ⟨_, rfl⟩
          rw [← hi1] at hx
          rw [← hi2] at hy
          rw [← hi3] at hz
          have cx := hra.cell hx
          have cy := hrp.cell hy
          have cz := hrq.cell hz
          have t1 : ((i : Int) + 1).tmod 5 = (i1 : Int) := by rw [Int.tmod_eq_emod_of_nonneg (by omega)]; omega
          have t2 : ((i : Int) + 2).tmod 5 = (i2 : Int) := by rw [Int.tmod_eq_emod_of_nonneg (by omega)]; omega
          have t3 : ((i : Int) + 3).tmod 5 = (i3 : Int) := by rw [Int.tmod_eq_emod_of_nonneg (by omega)]; omega
          have u1 : IntKind.i64.wrap ((i : Int) + 1) = (i : Int) + 1 := by rw [IntWalk.i64_in _ (by omega)]
          have u2 : IntKind.i64.wrap ((i : Int) + 2) = (i : Int) + 2 := by rw [IntWalk.i64_in _ (by omega)]
          have u3 : IntKind.i64.wrap ((i : Int) + 3) = (i : Int) + 3 := by rw [IntWalk.i64_in _ (by omega)]
          have v1 : IntKind.i64.wrap (i1 : Int) = (i1 : Int) := by rw [IntWalk.i64_in _ (by omega)]
          have v2 : IntKind.i64.wrap (i2 : Int) = (i2 : Int) := by rw [IntWalk.i64_in _ (by omega)]
          have v3 : IntKind.i64.wrap (i3 : Int) = (i3 : Int) := by rw [IntWalk.i64_in _ (by omega)]
          have r1 : (i1 : Int) < 5 := by omega
          have r2 : (i2 : Int) < 5 := by omega
          have r3 : (i3 : Int) < 5 := by omega
          have b5 : (i : Int) < 5 := by omega
          have htl : ((joinR s0 p q).list.take i).length = i := by rw [List.length_take, S5.list_length]; omega
          have hco : w11.cell? ⟨GO, i, none⟩ = some (.int .u32 0) := hro.cell (by have h := padZ_next (n := 5) (l := (joinR s0 p q).list.take i) (by omega); rw [htl] at h; exact h)
          have hcf := hro.free i
          have hset := hro.set i (add32 (add32 x y) z)
          have hpz := padZ_set (n := 5) (l := (joinR s0 p q).list.take i) (z := add32 (add32 x y) z) (by omega)
          rw [htl] at hpz
          have htk : (joinR s0 p q).list.take i ++ [add32 (add32 x y) z] = (joinR s0 p q).list.take (i + 1) := by rw [List.take_add_one, hj]; rfl
          rw [hpz, htk] at hset
          obtain ⟨S, hS⟩ : ∃ S, S = add32 (add32 x y) z := ⟨_, rfl⟩
          rw [← hS] at hset
          have eS : IntKind.u32.wrap (IntKind.u32.wrap (x + y) + z) = S := by rw [hS]; simp only [u32_wrap]; rfl
          have HSET := Lib.hid hset
          have HRA := Lib.hid hra
          have HRR := Lib.hid hrr
          have HRP := Lib.hid hrp
          have HRQ := Lib.hid hrq
          have HBEL := Lib.hid hbel
          clear hx hy hz hj hi1 hi2 hi3 htl hset hpz htk hro hra hrr hrp hrq hbel hS
          go_wp2_with fail
          refine wp_region_held_drew (S := (fun w' => w'.cell? ⟨GA, i1, none⟩ = some (.int .u32 x) ∧ w'.cell? ⟨GP, i2, none⟩ = some (.int .u32 y) ∧ w'.cell? ⟨GQ, i3, none⟩ = some (.int .u32 z))) (by kernel_rfl) ?_ (fun hHeld => ?_)
          · exact ⟨cx, cy, cz⟩
          refine wpAnyH_take (i := 0) (oi := { dst := some 32, op := Go.Op.move (Go.Operand.tmp 10), type := 3, pos := "ripemd.go:38", after := #[], guard := none }) (v := ?av0) rfl (by kernel_rfl) (by kernel_rfl) (by kernel_rfl) (fun _ _ _ h => h) (Or.inl ⟨by rfl, ?ay0⟩) (by assumption) ?ar0
          case ay0 => (intro w hSw; (try dsimp only at hSw); go_simp; try (with_reducible rfl))
          case ar0 =>
          try simp only [Act.put, List.setIfInBounds_toArray, List.set_cons_zero, List.set_cons_succ]
          refine wpAnyH_take (i := 1) (oi := { dst := some 33, op := Go.Op.move (Go.Operand.tmp 10), type := 3, pos := "ripemd.go:38", after := #[], guard := none }) (v := ?av1) rfl (by kernel_rfl) (by kernel_rfl) (by kernel_rfl) (fun _ _ _ h => h) (Or.inl ⟨by rfl, ?ay1⟩) (by assumption) ?ar1
          case ay1 => (intro w hSw; (try dsimp only at hSw); go_simp; try (with_reducible rfl))
          case ar1 =>
          try simp only [Act.put, List.setIfInBounds_toArray, List.set_cons_zero, List.set_cons_succ]
          refine wpAnyH_take (i := 2) (oi := { dst := some 34, op := Go.Op.binOp Go.BinOp.add 3 (Go.Operand.tmp 33) (Go.Operand.const (Go.Value.int Go.IntKind.i64 1)) 3, type := 3, pos := "ripemd.go:38", after := #[{ on := 1, ground := Go.Ground.data }], guard := none }) (v := ?av2) rfl (by kernel_rfl) (by kernel_rfl) (by kernel_rfl) (fun _ _ _ h => h) (Or.inl ⟨by rfl, ?ay2⟩) (by assumption) ?ar2
          case ay2 => (intro w hSw; (try dsimp only at hSw); go_simp; try (with_reducible rfl))
          case ar2 =>
          try simp only [Act.put, List.setIfInBounds_toArray, List.set_cons_zero, List.set_cons_succ]
          refine wpAnyH_take (i := 3) (oi := { dst := some 35, op := Go.Op.binOp Go.BinOp.rem 3 (Go.Operand.tmp 34) (Go.Operand.const (Go.Value.int Go.IntKind.i64 5)) 3, type := 3, pos := "ripemd.go:38", after := #[{ on := 2, ground := Go.Ground.data }], guard := none }) (v := ?av3) rfl (by kernel_rfl) (by kernel_rfl) (by kernel_rfl) (fun _ _ _ h => h) (Or.inl ⟨by rfl, ?ay3⟩) (by assumption) ?ar3
          case ay3 => (intro w hSw; (try dsimp only at hSw); go_simp; try (with_reducible rfl))
          case ar3 =>
          try simp only [Act.put, List.setIfInBounds_toArray, List.set_cons_zero, List.set_cons_succ]
          refine wpAnyH_take (i := 4) (oi := { dst := some 36, op := Go.Op.indexAddr 120 (Go.Operand.tmp 2) (Go.Operand.tmp 35), type := 0, pos := "ripemd.go:38", after := #[{ on := 3, ground := Go.Ground.data }], guard := none }) (v := ?av4) rfl (by kernel_rfl) (by kernel_rfl) (by kernel_rfl) (fun _ _ _ h => h) (Or.inl ⟨by rfl, ?ay4⟩) (by assumption) ?ar4
          case ay4 => (intro w hSw; (try dsimp only at hSw); go_simp; try (with_reducible rfl))
          case ar4 =>
          try simp only [Act.put, List.setIfInBounds_toArray, List.set_cons_zero, List.set_cons_succ]
          refine wpAnyH_take (i := 5) (oi := { dst := some 37, op := Go.Op.load 55 (Go.Operand.tmp 36), type := 55, pos := "ripemd.go:38", after := #[{ on := 4, ground := Go.Ground.data }], guard := none }) (v := ?av5) rfl (by kernel_rfl) (by kernel_rfl) (by kernel_rfl) (fun _ _ _ h => h) (Or.inl ⟨by rfl, ?ay5⟩) (by assumption) ?ar5
          case ay5 => (intro w hSw; (try dsimp only at hSw); go_simp; try (with_reducible rfl))
          case ar5 =>
          try simp only [Act.put, List.setIfInBounds_toArray, List.set_cons_zero, List.set_cons_succ]
          refine wpAnyH_take (i := 6) (oi := { dst := some 38, op := Go.Op.move (Go.Operand.tmp 10), type := 3, pos := "ripemd.go:38", after := #[], guard := none }) (v := ?av6) rfl (by kernel_rfl) (by kernel_rfl) (by kernel_rfl) (fun _ _ _ h => h) (Or.inl ⟨by rfl, ?ay6⟩) (by assumption) ?ar6
          case ay6 => (intro w hSw; (try dsimp only at hSw); go_simp; try (with_reducible rfl))
          case ar6 =>
          try simp only [Act.put, List.setIfInBounds_toArray, List.set_cons_zero, List.set_cons_succ]
          refine wpAnyH_take (i := 7) (oi := { dst := some 39, op := Go.Op.binOp Go.BinOp.add 3 (Go.Operand.tmp 38) (Go.Operand.const (Go.Value.int Go.IntKind.i64 2)) 3, type := 3, pos := "ripemd.go:38", after := #[{ on := 6, ground := Go.Ground.data }], guard := none }) (v := ?av7) rfl (by kernel_rfl) (by kernel_rfl) (by kernel_rfl) (fun _ _ _ h => h) (Or.inl ⟨by rfl, ?ay7⟩) (by assumption) ?ar7
          case ay7 => (intro w hSw; (try dsimp only at hSw); go_simp; try (with_reducible rfl))
          case ar7 =>
          try simp only [Act.put, List.setIfInBounds_toArray, List.set_cons_zero, List.set_cons_succ]
          refine wpAnyH_take (i := 8) (oi := { dst := some 40, op := Go.Op.binOp Go.BinOp.rem 3 (Go.Operand.tmp 39) (Go.Operand.const (Go.Value.int Go.IntKind.i64 5)) 3, type := 3, pos := "ripemd.go:38", after := #[{ on := 7, ground := Go.Ground.data }], guard := none }) (v := ?av8) rfl (by kernel_rfl) (by kernel_rfl) (by kernel_rfl) (fun _ _ _ h => h) (Or.inl ⟨by rfl, ?ay8⟩) (by assumption) ?ar8
          case ay8 => (intro w hSw; (try dsimp only at hSw); go_simp; try (with_reducible rfl))
          case ar8 =>
          try simp only [Act.put, List.setIfInBounds_toArray, List.set_cons_zero, List.set_cons_succ]
          refine wpAnyH_take (i := 9) (oi := { dst := some 41, op := Go.Op.indexAddr 120 (Go.Operand.tmp 7) (Go.Operand.tmp 40), type := 0, pos := "ripemd.go:38", after := #[{ on := 8, ground := Go.Ground.data }], guard := none }) (v := ?av9) rfl (by kernel_rfl) (by kernel_rfl) (by kernel_rfl) (fun _ _ _ h => h) (Or.inl ⟨by rfl, ?ay9⟩) (by assumption) ?ar9
          case ay9 => (intro w hSw; (try dsimp only at hSw); go_simp; try (with_reducible rfl))
          case ar9 =>
          try simp only [Act.put, List.setIfInBounds_toArray, List.set_cons_zero, List.set_cons_succ]
          refine wpAnyH_take (i := 10) (oi := { dst := some 42, op := Go.Op.load 55 (Go.Operand.tmp 41), type := 55, pos := "ripemd.go:38", after := #[{ on := 9, ground := Go.Ground.data }], guard := none }) (v := ?av10) rfl (by kernel_rfl) (by kernel_rfl) (by kernel_rfl) (fun _ _ _ h => h) (Or.inl ⟨by rfl, ?ay10⟩) (by assumption) ?ar10
          case ay10 => (intro w hSw; (try dsimp only at hSw); go_simp; try (with_reducible rfl))
          case ar10 =>
          try simp only [Act.put, List.setIfInBounds_toArray, List.set_cons_zero, List.set_cons_succ]
          refine wpAnyH_take (i := 11) (oi := { dst := some 43, op := Go.Op.binOp Go.BinOp.add 55 (Go.Operand.tmp 37) (Go.Operand.tmp 42) 55, type := 55, pos := "ripemd.go:38", after := #[{ on := 5, ground := Go.Ground.data }, { on := 10, ground := Go.Ground.data }], guard := none }) (v := ?av11) rfl (by kernel_rfl) (by kernel_rfl) (by kernel_rfl) (fun _ _ _ h => h) (Or.inl ⟨by rfl, ?ay11⟩) (by assumption) ?ar11
          case ay11 => (intro w hSw; (try dsimp only at hSw); go_simp; try (with_reducible rfl))
          case ar11 =>
          try simp only [Act.put, List.setIfInBounds_toArray, List.set_cons_zero, List.set_cons_succ]
          refine wpAnyH_take (i := 12) (oi := { dst := some 44, op := Go.Op.move (Go.Operand.tmp 10), type := 3, pos := "ripemd.go:38", after := #[], guard := none }) (v := ?av12) rfl (by kernel_rfl) (by kernel_rfl) (by kernel_rfl) (fun _ _ _ h => h) (Or.inl ⟨by rfl, ?ay12⟩) (by assumption) ?ar12
          case ay12 => (intro w hSw; (try dsimp only at hSw); go_simp; try (with_reducible rfl))
          case ar12 =>
          try simp only [Act.put, List.setIfInBounds_toArray, List.set_cons_zero, List.set_cons_succ]
          refine wpAnyH_take (i := 13) (oi := { dst := some 45, op := Go.Op.binOp Go.BinOp.add 3 (Go.Operand.tmp 44) (Go.Operand.const (Go.Value.int Go.IntKind.i64 3)) 3, type := 3, pos := "ripemd.go:38", after := #[{ on := 12, ground := Go.Ground.data }], guard := none }) (v := ?av13) rfl (by kernel_rfl) (by kernel_rfl) (by kernel_rfl) (fun _ _ _ h => h) (Or.inl ⟨by rfl, ?ay13⟩) (by assumption) ?ar13
          case ay13 => (intro w hSw; (try dsimp only at hSw); go_simp; try (with_reducible rfl))
          case ar13 =>
          try simp only [Act.put, List.setIfInBounds_toArray, List.set_cons_zero, List.set_cons_succ]
          refine wpAnyH_take (i := 14) (oi := { dst := some 46, op := Go.Op.binOp Go.BinOp.rem 3 (Go.Operand.tmp 45) (Go.Operand.const (Go.Value.int Go.IntKind.i64 5)) 3, type := 3, pos := "ripemd.go:38", after := #[{ on := 13, ground := Go.Ground.data }], guard := none }) (v := ?av14) rfl (by kernel_rfl) (by kernel_rfl) (by kernel_rfl) (fun _ _ _ h => h) (Or.inl ⟨by rfl, ?ay14⟩) (by assumption) ?ar14
          case ay14 => (intro w hSw; (try dsimp only at hSw); go_simp; try (with_reducible rfl))
          case ar14 =>
          try simp only [Act.put, List.setIfInBounds_toArray, List.set_cons_zero, List.set_cons_succ]
          refine wpAnyH_take (i := 15) (oi := { dst := some 47, op := Go.Op.indexAddr 120 (Go.Operand.tmp 8) (Go.Operand.tmp 46), type := 0, pos := "ripemd.go:38", after := #[{ on := 14, ground := Go.Ground.data }], guard := none }) (v := ?av15) rfl (by kernel_rfl) (by kernel_rfl) (by kernel_rfl) (fun _ _ _ h => h) (Or.inl ⟨by rfl, ?ay15⟩) (by assumption) ?ar15
          case ay15 => (intro w hSw; (try dsimp only at hSw); go_simp; try (with_reducible rfl))
          case ar15 =>
          try simp only [Act.put, List.setIfInBounds_toArray, List.set_cons_zero, List.set_cons_succ]
          refine wpAnyH_take (i := 16) (oi := { dst := some 48, op := Go.Op.load 55 (Go.Operand.tmp 47), type := 55, pos := "ripemd.go:38", after := #[{ on := 15, ground := Go.Ground.data }], guard := none }) (v := ?av16) rfl (by kernel_rfl) (by kernel_rfl) (by kernel_rfl) (fun _ _ _ h => h) (Or.inl ⟨by rfl, ?ay16⟩) (by assumption) ?ar16
          case ay16 => (intro w hSw; (try dsimp only at hSw); go_simp; try (with_reducible rfl))
          case ar16 =>
          try simp only [Act.put, List.setIfInBounds_toArray, List.set_cons_zero, List.set_cons_succ]
          refine wpAnyH_take (i := 17) (oi := { dst := some 49, op := Go.Op.binOp Go.BinOp.add 55 (Go.Operand.tmp 43) (Go.Operand.tmp 48) 55, type := 55, pos := "ripemd.go:38", after := #[{ on := 11, ground := Go.Ground.data }, { on := 16, ground := Go.Ground.data }], guard := none }) (v := ?av17) rfl (by kernel_rfl) (by kernel_rfl) (by kernel_rfl) (fun _ _ _ h => h) (Or.inl ⟨by rfl, ?ay17⟩) (by assumption) ?ar17
          case ay17 => (intro w hSw; (try dsimp only at hSw); go_simp; try (with_reducible rfl))
          case ar17 =>
          try simp only [Act.put, List.setIfInBounds_toArray, List.set_cons_zero, List.set_cons_succ]
          refine wpAnyH_take (i := 18) (oi := { dst := some 50, op := Go.Op.indexAddr 120 (Go.Operand.tmp 9) (Go.Operand.tmp 32), type := 0, pos := "ripemd.go:38", after := #[{ on := 0, ground := Go.Ground.data }, { on := 0, ground := Go.Ground.phase }, { on := 1, ground := Go.Ground.phase }, { on := 2, ground := Go.Ground.phase }, { on := 3, ground := Go.Ground.phase }, { on := 4, ground := Go.Ground.phase }, { on := 5, ground := Go.Ground.phase }, { on := 6, ground := Go.Ground.phase }, { on := 7, ground := Go.Ground.phase }, { on := 8, ground := Go.Ground.phase }, { on := 9, ground := Go.Ground.phase }, { on := 10, ground := Go.Ground.phase }, { on := 11, ground := Go.Ground.phase }, { on := 12, ground := Go.Ground.phase }, { on := 13, ground := Go.Ground.phase }, { on := 14, ground := Go.Ground.phase }, { on := 15, ground := Go.Ground.phase }, { on := 16, ground := Go.Ground.phase }, { on := 17, ground := Go.Ground.phase }], guard := none }) (v := ?av18) rfl (by kernel_rfl) (by kernel_rfl) (by kernel_rfl) (fun _ _ _ h => h) (Or.inl ⟨by rfl, ?ay18⟩) (by assumption) ?ar18
          case ay18 => (intro w hSw; (try dsimp only at hSw); go_simp; try (with_reducible rfl))
          case ar18 =>
          try simp only [Act.put, List.setIfInBounds_toArray, List.set_cons_zero, List.set_cons_succ]
          refine wpAnyH_ready (rs := [19]) (by kernel_rfl) (by simp) ?_
          refine AllReadyH.cons (o := { dst := none, op := Go.Op.store 55 (Go.Operand.tmp 50) (Go.Operand.tmp 49), type := 0, pos := "ripemd.go:38", after := #[{ on := 18, ground := Go.Ground.data }, { on := 17, ground := Go.Ground.data }, { on := 0, ground := Go.Ground.phase }, { on := 1, ground := Go.Ground.phase }, { on := 2, ground := Go.Ground.phase }, { on := 3, ground := Go.Ground.phase }, { on := 4, ground := Go.Ground.phase }, { on := 5, ground := Go.Ground.phase }, { on := 6, ground := Go.Ground.phase }, { on := 7, ground := Go.Ground.phase }, { on := 8, ground := Go.Ground.phase }, { on := 9, ground := Go.Ground.phase }, { on := 10, ground := Go.Ground.phase }, { on := 11, ground := Go.Ground.phase }, { on := 12, ground := Go.Ground.phase }, { on := 13, ground := Go.Ground.phase }, { on := 14, ground := Go.Ground.phase }, { on := 15, ground := Go.Ground.phase }, { on := 16, ground := Go.Ground.phase }, { on := 17, ground := Go.Ground.phase }], guard := none }) rfl (fun K hK => ?_) (AllReadyH.nil)
          go_simp
          refine hK.out _ _ ?_ (fun hHeld => ?_)
          · exact ⟨(World.cell?_setCell_far w11.drew _ _ _ (by show GO ≠ GA; omega)).trans cx, (World.cell?_setCell_far w11.drew _ _ _ (by show GO ≠ GP; omega)).trans cy, (World.cell?_setCell_far w11.drew _ _ _ (by show GO ≠ GQ; omega)).trans cz⟩
          clear hK K
          try simp only [Act.put]
          refine wpAnyH_done (by kernel_rfl) ?_ _
          go_wp2_with fail
          have hf : ∀ k, k ≠ GO → (w11.setCell ⟨GO, i, none⟩ (.int .u32 S)).heap[k]? = w11.heap[k]? := fun k hk => Below.heap_setCell w11 _ _ _ (by show k ≠ GO; omega)
          have HB2 := HBEL.out.setCell (p := ⟨GO, i, none⟩) (by show GA ≤ GO; omega) (.int .u32 S)
          refine ⟨⟨i + 1, by omega, by go_num, HSET.out, (hf _ (by omega)).trans HRA.out, (hf _ (by omega)).trans HRR.out, (hf _ (by omega)).trans HRP.out, (hf _ (by omega)).trans HRQ.out, ⟨HB2.os, HB2.tape, HB2.output, HB2.size, HB2.block⟩⟩, by simp [intOf]; omega⟩
        · obtain rfl : i = 5 := by omega
          have h5' : ((5 : Nat) : Int) = 5 := rfl
          rw [h5']
          have e5 : padZ 5 ((joinR s0 p q).list.take 5) = (compR s0 bs).list := by
            unfold compR
            rw [← HWS.out, ← HP.out, ← HQ.out]
            rfl
          rw [e5] at hro
          have HRO := Lib.hid hro
          have HRR := Lib.hid hrr
          have HFIN := Lib.hid (setRow_irow (ys := (compR s0 bs).list) hrr)
          have HBF := Lib.hid (below_setRow hbel (show GA ≤ GA + 1 by omega) ((compR s0 bs).list.map (Value.int .u32)).toArray)
          clear h5' e5 hro hra hrr hrp hrq hbel hi h5
          go_wp2_with (first
            | (refine wpList_load_irow rfl 120 (.tmp 9) rfl (g := GO) (t := 120) (k := .u32) (xs := (compR s0 bs).list) rfl HRO.out Tryz.underlying120 info_5 ?_)
            | (refine wpList_store_irow rfl 120 (.tmp 4) (.tmp 52) rfl (g := GA + 1) (t := 120) (k := .u32) (xs := List.replicate 5 0) (ys := (compR s0 bs).list) rfl rfl HRR.out info_5 rfl ?_))
          refine bodyPost_ret (v := .agg ((compR s0 bs).list.map (Value.int .u32)).toArray) ?_ rfl ⟨rfl, by rw [← HGA.out]; exact HBF.out⟩
          obtain ⟨fr, hrw⟩ : ∃ fr, (w11.setRow (GA + 1) ((compR s0 bs).list.map (Value.int .u32)).toArray).heap[GA + 1]? = some (.cells ((compR s0 bs).list.map (Value.int .u32)).toArray 120 fr) := ⟨_, HFIN.out⟩
          exact results_cell_row Tryz.results74 _ _ (GA + 1) 120 ((compR s0 bs).list.map (Value.int .u32)).toArray fr _ rfl hrw Tryz.underlying120 rfl info_5
end Go.Proofs.YtocblkacdoahfaaGreatDoor.Rm
