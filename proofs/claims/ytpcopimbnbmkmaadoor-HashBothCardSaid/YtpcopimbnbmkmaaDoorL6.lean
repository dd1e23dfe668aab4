/-
  Texts joined: Padding, Put32, ShaOut. Conditions: those of each.
-/
import Derived.Test.YtpcopimbnbmkmaaDoorL5
import Derived.Test.YtpcopimbnbmkmaaDoorL4
/-
  hash.padding at a block of 64 bytes and a room of 8, walked. Conditions: the size stays below 2^60.
-/
namespace Go.Proofs.YtpcopimbnbmkmaaDoor
open Go.RowKit

def lenI (n i : Nat) : List Int := (List.range 8).map fun j => if 8 - i ≤ j then (8 * (n : Int) / 2 ^ (8 * (7 - j))) % 256 else 0
def padI (n z i : Nat) : List Int := (128 :: List.replicate z 0) ++ lenI n i
theorem padI_length (n z i : Nat) : (padI n z i).length = z + 9 := by unfold padI lenI; simp
theorem lenI_next {n i : Nat} (hi : i < 8) : (lenI n i).set (7 - i) ((8 * (n : Int) / 2 ^ (8 * i)) % 256) = lenI n (i + 1) := by
  obtain rfl | rfl | rfl | rfl | rfl | rfl | rfl | rfl : i = 0 ∨ i = 1 ∨ i = 2 ∨ i = 3 ∨ i = 4 ∨ i = 5 ∨ i = 6 ∨ i = 7 := by omega
  all_goals (unfold lenI; simp [List.range_succ])
theorem lenI_at {n i : Nat} (hi : i < 8) : (lenI n i)[7 - i]? = some 0 := by
  obtain rfl | rfl | rfl | rfl | rfl | rfl | rfl | rfl : i = 0 ∨ i = 1 ∨ i = 2 ∨ i = 3 ∨ i = 4 ∨ i = 5 ∨ i = 6 ∨ i = 7 := by omega
  all_goals (unfold lenI; simp [List.range_succ])
theorem padI_next {n z i : Nat} (hi : i < 8) : (padI n z i).set (z + 8 - i) ((8 * (n : Int) / 2 ^ (8 * i)) % 256) = padI n z (i + 1) := by
  unfold padI
  rw [List.set_append_right _ _ (by simp; omega)]
  have e : z + 8 - i - (128 :: List.replicate z (0 : Int)).length = 7 - i := by simp; omega
  rw [e, lenI_next hi]
theorem padI_at {n z i : Nat} (hi : i < 8) : (padI n z i)[z + 8 - i]? = some 0 := by
  unfold padI
  rw [List.getElem?_append_right (by simp; omega)]
  have e : z + 8 - i - (128 :: List.replicate z (0 : Int)).length = 7 - i := by simp; omega
  rw [e, lenI_at hi]

theorem padI_zero (n z : Nat) : (List.replicate (z + 9) (0 : Int)).set 0 128 = padI n z 0 := by
  rw [List.replicate_succ, List.set_cons_zero, List.replicate_append_replicate (n := z) (m := 8) (a := (0 : Int)) |>.symm]
  rfl
set_option maxRecDepth 100000 in
set_option maxHeartbeats 3200000 in
theorem padding_any (n z : Nat) (w : World) (hn : n < 1152921504606846976) (hz : z = (119 - n % 64) % 64) :
    Calls Tryd.prog 30 #[.int .u64 n, .int .i64 64, .int .i64 8] w fun e w' => ∃ g, e = .returned (.slice (some ⟨g, 0, none⟩) (z + 9) (z + 9)) ∧ IRow w' g 5 .u8 (padI n z 8) ∧ Below w.heap.size w w' ∧ w.heap.size ≤ g := by
  obtain ⟨r, hr⟩ : ∃ r, r = n % 64 := ⟨_, rfl⟩
  have hr64 : r < 64 := by omega
  have e1 : (n : Int) % 64 = (r : Int) := by omega
  have hz2 : z = (119 - r) % 64 := by rw [hr]; exact hz
  have hzl : z < 64 := by omega
  have HZ := Lib.hid hz2
  have HN := Lib.hid hn
  clear hz hr hz2 hn
  go_enter Tryd.func30, Tryd.ntmps30
  have e3 : (128 - ((r : Int) + 1 + 8)) % 64 = (z : Int) := by have := HZ.out; omega
  obtain ⟨L, hL⟩ : ∃ L, L = z + 9 := ⟨_, rfl⟩
  have e4 : 1 + (z : Int) + 8 = (L : Int) := by omega
  have hmk := fun W => make_bytes W L (L : Int) rfl (by omega)
  have bL : (0 : Int) < (L : Int) := by omega
  have zr : zeroRow L = ((List.replicate L (0 : Int)).map (Value.int .u8)).toArray := by unfold zeroRow; rw [List.map_replicate, List.map_replicate]; rfl
  have r1 : IRow (w.alloc (.cells (zeroRow L) 5)) w.heap.size 5 .u8 (List.replicate L 0) := by rw [zr]; exact IRow.new w _ _ _
  have c0 := r1.cell (i := 0) (z := 0) (by rw [List.getElem?_replicate, if_pos (by omega)])
  have f0 := r1.free 0
  have r2 : IRow (w.alloc (.cells ((zeroRow L).setIfInBounds 0 (.int .u8 128)) 5)) w.heap.size 5 .u8 (padI n z 0) := by
    have h := IRow.new w 5 .u8 (padI n z 0)
    have e : ((padI n z 0).map (Value.int .u8)).toArray = (zeroRow L).setIfInBounds 0 (.int .u8 128) := by
      rw [← padI_zero, ← hL, zr, List.map_set]
      exact (List.setIfInBounds_toArray _ _ _).symm
    rw [e] at h
    exact h
  have b1 : Below w.heap.size w (w.alloc (.cells ((zeroRow L).setIfInBounds 0 (.int .u8 128)) 5)) := (Below.refl _ w).alloc (Nat.le_refl _) _
  have HR2 := Lib.hid r2
  have HB1 := Lib.hid b1
  have HL := Lib.hid hL
  clear r1 r2 b1 hL zr
  go_wp2_with fail
  go_loopw [32] (fun j wr => ∃ i : Nat, i ≤ 8 ∧ j = .int .i64 i ∧ IRow wr w.heap.size 5 .u8 (padI n z i) ∧ Below w.heap.size w wr) (fun j _ => 8 - (intOf j).toNat)
  case atStart => exact ⟨0, by omega, rfl, HR2.out, HB1.out⟩
  case round =>
    obtain ⟨i, hi, rfl, hra, hbel⟩ := hrel
    by_cases h8 : i < 8
    · obtain ⟨k, hk⟩ : ∃ k, k = z + 8 - i := ⟨_, rfl⟩
      have hat := hra.cell (padI_at h8)
      have hset := hra.set (z + 8 - i) ((8 * (n : Int) / 2 ^ (8 * i)) % 256)
      rw [padI_next h8] at hset
      have hfr := hra.free (z + 8 - i)
      rw [← hk] at hat hset hfr
      have hki : (L : Int) - 1 - (i : Int) = (k : Int) := by have := HL.out; omega
      have hkL : (k : Int) < (L : Int) := by have := HL.out; omega
      have b8 : (i : Int) < 8 := by omega
      have HSET := Lib.hid hset
      have HBEL2 := Lib.hid hbel
      clear hset hra hbel hk
      go_wp2_with fail
      have hw : IntKind.u64.wrap ((n : Int) * 8) = 8 * (n : Int) := by
        have := HN.out
        have e : IntKind.u64.wrap ((n : Int) * 8) = ((n : Int) * 8) % 18446744073709551616 := by simp [IntKind.wrap, IntKind.bits, IntKind.signed]
        rw [e]
        omega
      rw [hw]
      refine ⟨⟨i + 1, by omega, by go_num, HSET.out, ?_⟩, by simp [intOf]; omega⟩
      exact HBEL2.out.setCell (p := ⟨w.heap.size, k, none⟩) (Nat.le_refl _) _
    · obtain rfl : i = 8 := by omega
      have h8' : ((8 : Nat) : Int) = 8 := rfl
      rw [h8']
      have HRA := Lib.hid hra
      have HBEL := Lib.hid hbel
      clear h8' hra hbel hi h8
      go_wp2_with fail
      go_ret
      rw [← HL.out]
      exact ⟨_, rfl, HRA.out, HBEL.out, Nat.le_refl _⟩
end Go.Proofs.YtpcopimbnbmkmaaDoor

/-
  hash.put32, walked. Conditions: four places are there, the row may be written.
-/
namespace Go.Proofs.YtpcopimbnbmkmaaDoor
open Go.RowKit

/-- Four bytes of a word laid over a row. -/
def put4 (xs : List Int) (o : Nat) (x : Int) : List Int := (((xs.set o (x / 16777216 % 256)).set (o + 1) (x / 65536 % 256)).set (o + 2) (x / 256 % 256)).set (o + 3) (x % 256)
theorem put4_length (xs : List Int) (o : Nat) (x : Int) : (put4 xs o x).length = xs.length := by simp [put4]

set_option maxRecDepth 100000 in
set_option maxHeartbeats 1600000 in
theorem put32_any (b o len c : Nat) (t : TypeId) (xs : List Int) (x : Int) (w : World) (hr : IRow w b t .u8 xs) (hl : 4 ≤ len) (ho : o + 4 ≤ xs.length) :
    Calls Tryd.prog 32 #[.slice (some ⟨b, o, none⟩) len c, .int .u32 x] w fun e w' => e = .returned (.tuple #[]) ∧ IRow w' b t .u8 (put4 xs o x) ∧ ∀ B, B ≤ b → Below B w w' := by
  have i0 : (0 : Int) < (len : Int) := by omega
  have i1 : (1 : Int) < (len : Int) := by omega
  have i2 : (2 : Int) < (len : Int) := by omega
  have i3 : (3 : Int) < (len : Int) := by omega
  have r1 := hr.set o (x / 16777216 % 256)
  have r2 := r1.set (o + 1) (x / 65536 % 256)
  have r3 := r2.set (o + 2) (x / 256 % 256)
  have r4 := r3.set (o + 3) (x % 256)
  have k0 := hr.cell (i := o) (List.getElem?_eq_getElem (by omega))
  have k1 := r1.cell (i := o + 1) (List.getElem?_eq_getElem (by simp; omega))
  have k2 := r2.cell (i := o + 2) (List.getElem?_eq_getElem (by simp; omega))
  have k3 := r3.cell (i := o + 3) (List.getElem?_eq_getElem (by simp; omega))
  have f0 := hr.free o
  have f1 := r1.free (o + 1)
  have f2 := r2.free (o + 2)
  have f3 := r3.free (o + 3)
  have HR := Lib.hid r4
  clear hr r1 r2 r3 r4
  go_enter Tryd.func32, Tryd.ntmps32
  go_wp2
  refine bodyPost_end (results_none Tryd.results32 _ _ _) rfl ⟨rfl, HR.out, fun B hB => ((((Below.refl B w).setCell hB _).setCell hB _).setCell hB _).setCell hB _⟩
end Go.Proofs.YtpcopimbnbmkmaaDoor

/-
  What closes a message and what a digest gives, as rows of numbers. Conditions: none (plain mathematics).
-/
namespace Go.Proofs.YtpcopimbnbmkmaaDoor
open Go.RowKit

def nums (bs : List UInt8) : List Int := bs.map fun u => (u.toNat : Int)
theorem nums_append (a b : List UInt8) : nums (a ++ b) = nums a ++ nums b := by simp [nums]
theorem nums_length (a : List UInt8) : (nums a).length = a.length := by simp [nums]
theorem nums_bv (a : List UInt8) : (nums a).map (Value.int .u8) = a.map bv := by
  unfold nums bv
  rw [List.map_map]
  rfl
theorem byte_of {m : Nat} : ((UInt8.ofNat (m % 256)).toNat : Int) = ((m % 256 : Nat) : Int) := by
  rw [UInt8.toNat_ofNat']
  omega
theorem lenI_full (n : Nat) : lenI n 8 = nums (lenB n) := by
  unfold lenI nums lenB
  rw [List.map_map]
  refine List.map_congr_left fun j hj => ?_
  have hj8 : j < 8 := List.mem_range.1 hj
  rw [if_pos (by omega)]
  show _ = ((UInt8.ofNat (8 * n / 256 ^ (7 - j) % 256)).toNat : Int)
  rw [byte_of]
  have e : (2 : Int) ^ (8 * (7 - j)) = ((256 ^ (7 - j) : Nat) : Int) := by
    rw [Int.pow_mul, Int.natCast_pow]
    rfl
  rw [e]
  generalize 256 ^ (7 - j) = m
  rw [Int.natCast_emod, Int.natCast_ediv, Int.natCast_mul]
  rfl
theorem padI_full (n : Nat) : padI n ((119 - n % 64) % 64) 8 = nums (padB n) := by
  unfold padI padB
  rw [nums_append, nums_append, lenI_full]
  congr 1
  have h : ∀ k, nums (List.replicate k (0 : UInt8)) = List.replicate k (0 : Int) := fun k => by unfold nums; rw [List.map_replicate]; rfl
  rw [h]
  rfl

theorem outB_append (a b : List Int) : outB (a ++ b) = outB a ++ outB b := by simp [outB]
theorem word_bytes {x : Int} (h : U32 x) : nums (outB [x]) = [x / 16777216 % 256, x / 65536 % 256, x / 256 % 256, x % 256] := by
  obtain ⟨h0, h1⟩ := h
  have hb : ∀ y : Int, ((UInt8.ofNat (y % 256).toNat).toNat : Int) = y % 256 := fun y => by
    rw [UInt8.toNat_ofNat']
    omega
  simp only [nums, outB, List.flatMap_cons, List.flatMap_nil, List.append_nil, List.map_cons, List.map_nil, hb]
/-- A word more in a row of zeros. -/
theorem put4_next {m : Nat} {ws : List Int} {x : Int} (hx : U32 x) (h : (outB ws).length + 4 ≤ m) :
    put4 (padZ m (nums (outB ws))) (4 * ws.length) x = padZ m (nums (outB (ws ++ [x]))) := by
  have hl := outB_length ws
  have e0 : (nums (outB ws)).length = 4 * ws.length := by rw [nums_length, hl]
  rw [outB_append, nums_append, word_bytes hx]
  unfold put4
  have s0 := padZ_set (n := m) (l := nums (outB ws)) (z := x / 16777216 % 256) (by omega)
  have s1 := padZ_set (n := m) (l := nums (outB ws) ++ [x / 16777216 % 256]) (z := x / 65536 % 256) (by simp; omega)
  have s2 := padZ_set (n := m) (l := nums (outB ws) ++ [x / 16777216 % 256] ++ [x / 65536 % 256]) (z := x / 256 % 256) (by simp; omega)
  have s3 := padZ_set (n := m) (l := nums (outB ws) ++ [x / 16777216 % 256] ++ [x / 65536 % 256] ++ [x / 256 % 256]) (z := x % 256) (by simp; omega)
  simp only [List.length_append, List.length_cons, List.length_nil, e0] at s0 s1 s2 s3
  rw [s0, s1, s2, s3]
  simp only [List.append_assoc, List.cons_append, List.nil_append]
end Go.Proofs.YtpcopimbnbmkmaaDoor
