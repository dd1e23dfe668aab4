/-
  Texts joined: Padding, Put32, ShaOut, Took, HText. Conditions: those of each.
-/
import Derived.Test.YtjdicifickjggaaDoorJ4
/-
  hash.padding at a block of 64 bytes and a room of 8, walked. Conditions: the size stays below 2^60.
-/
namespace Go.Proofs.YtjdicifickjggaaDoor
open Go.RowKit

def lenI (n i : Nat) : List Int := (List.range 8).map fun j => if 8 - i ≤ j then (8 * (n : Int) / 2 ^ (8 * (7 - j))) % 256 else 0
def padI (n z i : Nat) : List Int := (128 :: List.replicate z 0) ++ lenI n i
theorem padI_length (n z i : Nat) : (padI n z i).length = z + 9 := by unfold padI lenI; simp
theorem lenI_next {n i : Nat} (hi : i < 8) : (lenI n i).set (7 - i) ((8 * (n : Int) / 2 ^ (8 * i)) % 256) = lenI n (i + 1) := by
  obtain rfl | rfl | rfl | rfl | rfl | rfl | rfl | rfl : i = 0 ∨ i = 1 ∨ i = 2 ∨ i = 3 ∨ i = 4 ∨ i = 5 ∨ i = 6 ∨ i = 7 := by omega
  all_goals (unfold lenI; simp [List.range_succ])
theorem lenI_at {n i : Nat} (hi : i < 8) : (lenI n i)[7 - i]? = some 0 := by
  obtain rfl | rfl | rfl | rfl | rfl | rfl | rfl | rfl : i = 0 ∨ i = 1 ∨ i = 2 ∨ i = 3 ∨ i = 4 ∨ i = 5 ∨ i = 6 ∨ i = 7 := by omega
  all_goals (unfold lenI; simp [List.range_succ])
theorem padI_next {n z i : Nat} (hi : i < 8) : (padI n z i).set (z + 8 - i) ((8 * (n : Int) / 2 ^ (8 * i)) % 256) = padI n z (i + 1) := by
  unfold padI
  rw [List.set_append_right _ _ (by simp; omega)]
  have e : z + 8 - i - (128 :: List.replicate z (0 : Int)).length = 7 - i := by simp; omega
  rw [e, lenI_next hi]
theorem padI_at {n z i : Nat} (hi : i < 8) : (padI n z i)[z + 8 - i]? = some 0 := by
  unfold padI
  rw [List.getElem?_append_right (by simp; omega)]
  have e : z + 8 - i - (128 :: List.replicate z (0 : Int)).length = 7 - i := by simp; omega
  rw [e, lenI_at hi]

theorem padI_zero (n z : Nat) : (List.replicate (z + 9) (0 : Int)).set 0 128 = padI n z 0 := by
  rw [List.replicate_succ, List.set_cons_zero, List.replicate_append_replicate (n := z) (m := 8) (a := (0 : Int)) |>.symm]
  rfl
set_option maxRecDepth 100000 in
set_option maxHeartbeats 3200000 in
theorem padding_any (n z : Nat) (w : World) (hn : n < 1152921504606846976) (hz : z = (119 - n % 64) % 64) :
    Calls Tryd.prog 31 #[.int .u64 n, .int .i64 64, .int .i64 8] w fun e w' => ∃ g, e = .returned (.slice (some ⟨g, 0, none⟩) (z + 9) (z + 9)) ∧ IRow w' g 5 .u8 (padI n z 8) ∧ Below w.heap.size w w' ∧ w.heap.size ≤ g := by
  obtain ⟨r, hr⟩ : ∃ r, r = n % 64 := ⟨_, rfl⟩
  have hr64 : r < 64 := by omega
  have e1 : (n : Int) % 64 = (r : Int) := by omega
  have hz2 : z = (119 - r) % 64 := by rw [hr]; exact hz
  have hzl : z < 64 := by omega
  have HZ := Lib.hid hz2
  have HN := Lib.hid hn
  clear hz hr hz2 hn
  go_enter Tryd.func31, Tryd.ntmps31
  have e3 : (128 - ((r : Int) + 1 + 8)) % 64 = (z : Int) := by have := HZ.out; omega
  obtain ⟨L, hL⟩ : ∃ L, L = z + 9 := ⟨_, rfl⟩
  have e4 : 1 + (z : Int) + 8 = (L : Int) := by omega
  have hmk := fun W => make_bytes W L (L : Int) rfl (by omega)
  have bL : (0 : Int) < (L : Int) := by omega
  have zr : zeroRow L = ((List.replicate L (0 : Int)).map (Value.int .u8)).toArray := by unfold zeroRow; rw [List.map_replicate, List.map_replicate]; rfl
  have r1 : IRow (w.alloc (.cells (zeroRow L) 5)) w.heap.size 5 .u8 (List.replicate L 0) := by rw [zr]; exact IRow.new w _ _ _
  have c0 := r1.cell (i := 0) (z := 0) (by rw [List.getElem?_replicate, if_pos (by omega)])
  have f0 := r1.free 0
  have r2 : IRow (w.alloc (.cells ((zeroRow L).setIfInBounds 0 (.int .u8 128)) 5)) w.heap.size 5 .u8 (padI n z 0) := by
    have h := IRow.new w 5 .u8 (padI n z 0)
    have e : ((padI n z 0).map (Value.int .u8)).toArray = (zeroRow L).setIfInBounds 0 (.int .u8 128) := by
      rw [← padI_zero, ← hL, zr, List.map_set]
      exact (List.setIfInBounds_toArray _ _ _).symm
    rw [e] at h
    exact h
  have b1 : Below w.heap.size w (w.alloc (.cells ((zeroRow L).setIfInBounds 0 (.int .u8 128)) 5)) := (Below.refl _ w).alloc (Nat.le_refl _) _
  have HR2 := Lib.hid r2
  have HB1 := Lib.hid b1
  have HL := Lib.hid hL
  clear r1 r2 b1 hL zr
  go_wp2_with fail
  go_loopw [32] (fun j wr => ∃ i : Nat, i ≤ 8 ∧ j = .int .i64 i ∧ IRow wr w.heap.size 5 .u8 (padI n z i) ∧ Below w.heap.size w wr) (fun j _ => 8 - (intOf j).toNat)
  case atStart => exact ⟨0, by omega, rfl, HR2.out, HB1.out⟩
  case round =>
    obtain ⟨i, hi, rfl, hra, hbel⟩ := hrel
    by_cases h8 : i < 8
    · obtain ⟨k, hk⟩ : ∃ k, k = z + 8 - i := ⟨_, rfl⟩
      have hat := hra.cell (padI_at h8)
      have hset := hra.set (z + 8 - i) ((8 * (n : Int) / 2 ^ (8 * i)) % 256)
      rw [padI_next h8] at hset
      have hfr := hra.free (z + 8 - i)
      rw [← hk] at hat hset hfr
      have hki : (L : Int) - 1 - (i : Int) = (k : Int) := by have := HL.out; omega
      have hkL : (k : Int) < (L : Int) := by have := HL.out; omega
      have b8 : (i : Int) < 8 := by omega
      have HSET := Lib.hid hset
      have HBEL2 := Lib.hid hbel
      clear hset hra hbel hk
      go_wp2_with fail
      have hw : IntKind.u64.wrap ((n : Int) * 8) = 8 * (n : Int) := by
        have := HN.out
        have e : IntKind.u64.wrap ((n : Int) * 8) = ((n : Int) * 8) % 18446744073709551616 := by simp [IntKind.wrap, IntKind.bits, IntKind.signed]
        rw [e]
        omega
      rw [hw]
      refine ⟨⟨i + 1, by omega, by go_num, HSET.out, ?_⟩, by simp [intOf]; omega⟩
      exact HBEL2.out.setCell (p := ⟨w.heap.size, k, none⟩) (Nat.le_refl _) _
    · obtain rfl : i = 8 := by omega
      have h8' : ((8 : Nat) : Int) = 8 := rfl
      rw [h8']
      have HRA := Lib.hid hra
      have HBEL := Lib.hid hbel
      clear h8' hra hbel hi h8
      go_wp2_with fail
      go_ret
      rw [← HL.out]
      exact ⟨_, rfl, HRA.out, HBEL.out, Nat.le_refl _⟩
end Go.Proofs.YtjdicifickjggaaDoor

/-
  hash.put32, walked. Conditions: four places are there, the row may be written.
-/
namespace Go.Proofs.YtjdicifickjggaaDoor
open Go.RowKit

/-- Four bytes of a word laid over a row. -/
def put4 (xs : List Int) (o : Nat) (x : Int) : List Int := (((xs.set o (x / 16777216 % 256)).set (o + 1) (x / 65536 % 256)).set (o + 2) (x / 256 % 256)).set (o + 3) (x % 256)
theorem put4_length (xs : List Int) (o : Nat) (x : Int) : (put4 xs o x).length = xs.length := by simp [put4]

set_option maxRecDepth 100000 in
set_option maxHeartbeats 1600000 in
theorem put32_any (b o len c : Nat) (t : TypeId) (xs : List Int) (x : Int) (w : World) (hr : IRow w b t .u8 xs) (hl : 4 ≤ len) (ho : o + 4 ≤ xs.length) :
    Calls Tryd.prog 32 #[.slice (some ⟨b, o, none⟩) len c, .int .u32 x] w fun e w' => e = .returned (.tuple #[]) ∧ IRow w' b t .u8 (put4 xs o x) ∧ ∀ B, B ≤ b → Below B w w' := by
  have i0 : (0 : Int) < (len : Int) := by omega
  have i1 : (1 : Int) < (len : Int) := by omega
  have i2 : (2 : Int) < (len : Int) := by omega
  have i3 : (3 : Int) < (len : Int) := by omega
  have r1 := hr.set o (x / 16777216 % 256)
  have r2 := r1.set (o + 1) (x / 65536 % 256)
  have r3 := r2.set (o + 2) (x / 256 % 256)
  have r4 := r3.set (o + 3) (x % 256)
  have k0 := hr.cell (i := o) (List.getElem?_eq_getElem (by omega))
  have k1 := r1.cell (i := o + 1) (List.getElem?_eq_getElem (by simp; omega))
  have k2 := r2.cell (i := o + 2) (List.getElem?_eq_getElem (by simp; omega))
  have k3 := r3.cell (i := o + 3) (List.getElem?_eq_getElem (by simp; omega))
  have f0 := hr.free o
  have f1 := r1.free (o + 1)
  have f2 := r2.free (o + 2)
  have f3 := r3.free (o + 3)
  have HR := Lib.hid r4
  clear hr r1 r2 r3 r4
  go_enter Tryd.func32, Tryd.ntmps32
  go_wp2
  refine bodyPost_end (results_none Tryd.results32 _ _ _) rfl ⟨rfl, HR.out, fun B hB => ((((Below.refl B w).setCell hB _).setCell hB _).setCell hB _).setCell hB _⟩
end Go.Proofs.YtjdicifickjggaaDoor

/-
  What closes a message and what a digest gives, as rows of numbers. Conditions: none (plain mathematics).
-/
namespace Go.Proofs.YtjdicifickjggaaDoor
open Go.RowKit

def nums (bs : List UInt8) : List Int := bs.map fun u => (u.toNat : Int)
theorem nums_append (a b : List UInt8) : nums (a ++ b) = nums a ++ nums b := by simp [nums]
theorem nums_length (a : List UInt8) : (nums a).length = a.length := by simp [nums]
theorem nums_bv (a : List UInt8) : (nums a).map (Value.int .u8) = a.map bv := by
  unfold nums bv
  rw [List.map_map]
  rfl
theorem byte_of {m : Nat} : ((UInt8.ofNat (m % 256)).toNat : Int) = ((m % 256 : Nat) : Int) := by
  rw [UInt8.toNat_ofNat']
  omega
theorem lenI_full (n : Nat) : lenI n 8 = nums (lenB n) := by
  unfold lenI nums lenB
  rw [List.map_map]
  refine List.map_congr_left fun j hj => ?_
  have hj8 : j < 8 := List.mem_range.1 hj
  rw [if_pos (by omega)]
  show _ = ((UInt8.ofNat (8 * n / 256 ^ (7 - j) % 256)).toNat : Int)
  rw [byte_of]
  have e : (2 : Int) ^ (8 * (7 - j)) = ((256 ^ (7 - j) : Nat) : Int) := by
    rw [Int.pow_mul, Int.natCast_pow]
    rfl
  rw [e]
  generalize 256 ^ (7 - j) = m
  rw [Int.natCast_emod, Int.natCast_ediv, Int.natCast_mul]
  rfl
theorem padI_full (n : Nat) : padI n ((119 - n % 64) % 64) 8 = nums (padB n) := by
  unfold padI padB
  rw [nums_append, nums_append, lenI_full]
  congr 1
  have h : ∀ k, nums (List.replicate k (0 : UInt8)) = List.replicate k (0 : Int) := fun k => by unfold nums; rw [List.map_replicate]; rfl
  rw [h]
  rfl

theorem outB_append (a b : List Int) : outB (a ++ b) = outB a ++ outB b := by simp [outB]
theorem word_bytes {x : Int} (h : U32 x) : nums (outB [x]) = [x / 16777216 % 256, x / 65536 % 256, x / 256 % 256, x % 256] := by
  obtain ⟨h0, h1⟩ := h
  have hb : ∀ y : Int, ((UInt8.ofNat (y % 256).toNat).toNat : Int) = y % 256 := fun y => by
    rw [UInt8.toNat_ofNat']
    omega
  simp only [nums, outB, List.flatMap_cons, List.flatMap_nil, List.append_nil, List.map_cons, List.map_nil, hb]
/-- A word more in a row of zeros. -/
theorem put4_next {m : Nat} {ws : List Int} {x : Int} (hx : U32 x) (h : (outB ws).length + 4 ≤ m) :
    put4 (padZ m (nums (outB ws))) (4 * ws.length) x = padZ m (nums (outB (ws ++ [x]))) := by
  have hl := outB_length ws
  have e0 : (nums (outB ws)).length = 4 * ws.length := by rw [nums_length, hl]
  rw [outB_append, nums_append, word_bytes hx]
  unfold put4
  have s0 := padZ_set (n := m) (l := nums (outB ws)) (z := x / 16777216 % 256) (by omega)
  have s1 := padZ_set (n := m) (l := nums (outB ws) ++ [x / 16777216 % 256]) (z := x / 65536 % 256) (by simp; omega)
  have s2 := padZ_set (n := m) (l := nums (outB ws) ++ [x / 16777216 % 256] ++ [x / 65536 % 256]) (z := x / 256 % 256) (by simp; omega)
  have s3 := padZ_set (n := m) (l := nums (outB ws) ++ [x / 16777216 % 256] ++ [x / 65536 % 256] ++ [x / 256 % 256]) (z := x % 256) (by simp; omega)
  simp only [List.length_append, List.length_cons, List.length_nil, e0] at s0 s1 s2 s3
  rw [s0, s1, s2, s3]
  simp only [List.append_assoc, List.cons_append, List.nil_append]
end Go.Proofs.YtjdicifickjggaaDoor

/-
  What an intake holds, on plain numbers. Conditions: none (plain mathematics).
-/
namespace Go.Proofs.YtjdicifickjggaaDoor

theorem join_drop {m b : List UInt8} {q : Nat} (hq : 64 * q ≤ m.length) : (m ++ b).drop (64 * q) = m.drop (64 * q) ++ b := List.drop_append_of_le_length hq
/-- The block that a piece fills up. -/
theorem join_block {m b : List UInt8} {n : Nat} (hn : n + m.length % 64 = 64) :
    ((m ++ b).drop (64 * (m.length / 64))).take 64 = m.drop (64 * (m.length / 64)) ++ b.take n := by
  rw [join_drop (by omega), List.take_append]
  have hl : (m.drop (64 * (m.length / 64))).length = m.length % 64 := by rw [List.length_drop]; omega
  rw [List.take_of_length_le (by omega), hl]
  congr 2
  omega
theorem join_rest {m b : List UInt8} {n : Nat} (hn : n + m.length % 64 = 64) : (m ++ b).drop (64 * (m.length / 64 + 1)) = b.drop n := by
  have e : 64 * (m.length / 64 + 1) = m.length + n := by omega
  rw [e, ← List.drop_drop, List.drop_left]
theorem blocks256_next {m b : List UInt8} {n : Nat} (hn : n + m.length % 64 = 64) :
    blocks256 (m ++ b) (m.length / 64 + 1) = comp256 (blocks256 m (m.length / 64)) (m.drop (64 * (m.length / 64)) ++ b.take n) := by
  rw [blocks256, blocks256_more b _ (by omega), join_block hn]
theorem blocks256_same (m b : List UInt8) : blocks256 (m ++ b) (m.length / 64) = blocks256 m (m.length / 64) := blocks256_more b _ (by omega)
/-- A message that is closed has whole blocks. -/
theorem full_blocks (m : List UInt8) : (full m).length % 64 = 0 := by
  unfold full
  rw [List.length_append]
  exact padB_fits m.length
/-- What an intake holds behind the bytes m: the words behind the whole blocks, and the rest before any other bytes. -/
structure Took (m : List UInt8) (ws : List Int) (rest : List Int) : Prop where
  size : rest.length = 128
  words : m ≠ [] → ws = (blocks256 m (m.length / 64)).list
  low : rest.take (m.length % 64) = nums (m.drop (64 * (m.length / 64)))
theorem Took.zero : Took [] (List.replicate 8 0) (List.replicate 128 0) := ⟨by rw [List.length_replicate], fun h => absurd rfl h, rfl⟩
/-- Row r with the numbers ns from place k on. -/
def laid (r : List Int) (k : Nat) (ns : List Int) : List Int := r.take k ++ ns ++ r.drop (k + ns.length)
theorem laid_length {r ns : List Int} {k : Nat} (h : k + ns.length ≤ r.length) : (laid r k ns).length = r.length := by
  unfold laid
  simp only [List.length_append, List.length_take, List.length_drop]
  omega
theorem laid_take {r ns : List Int} {k : Nat} (h : k + ns.length ≤ r.length) : (laid r k ns).take (k + ns.length) = r.take k ++ ns := by
  unfold laid
  exact List.take_left' (by rw [List.length_append, List.length_take]; omega)
/-- A piece that fills no block. -/
theorem Took.some {m b : List UInt8} {ws rest : List Int} (h : Took m ws rest) (hm : m ≠ []) (hb : m.length % 64 + b.length < 64) :
    Took (m ++ b) ws (laid rest (m.length % 64) (nums b)) := by
  have hl : (m ++ b).length = m.length + b.length := List.length_append
  have e1 : (m ++ b).length / 64 = m.length / 64 := by omega
  have e2 : (m ++ b).length % 64 = m.length % 64 + (nums b).length := by rw [nums_length]; omega
  have hf : m.length % 64 + (nums b).length ≤ rest.length := by rw [nums_length, h.size]; omega
  refine ⟨by rw [laid_length hf, h.size], fun _ => ?_, ?_⟩
  · rw [e1, blocks256_same]
    exact h.words hm
  · rw [e2, laid_take hf, e1, join_drop (by omega), nums_append, h.low]
/-- Behind the whole blocks of all that came. -/
theorem Took.done {m : List UInt8} {rest : List Int} (hr : rest.length = 128) :
    Took m (blocks256 m (m.length / 64)).list (laid rest 0 (nums (m.drop (64 * (m.length / 64))))) := by
  have hl : (nums (m.drop (64 * (m.length / 64)))).length = m.length % 64 := by rw [nums_length, List.length_drop]; omega
  have hf : 0 + (nums (m.drop (64 * (m.length / 64)))).length ≤ rest.length := by rw [hr, hl]; omega
  refine ⟨by rw [laid_length hf, hr], fun _ => rfl, ?_⟩
  have h := laid_take hf
  rw [Nat.zero_add, hl] at h
  rw [h]
  rfl
end Go.Proofs.YtjdicifickjggaaDoor

/-
  hash.Text: two digits for each byte, from the last. Conditions: none.
-/
namespace Go.Proofs.YtjdicifickjggaaDoor
open Go.RowKit

def digN (v : Nat) : Nat := if v < 10 then 48 + v else 87 + v
theorem digN_lt {v : Nat} (h : v < 16) : digN v < 128 := by unfold digN; split <;> omega
def hexL (q : UInt8) : List UInt8 := [b8 (digN (q.toNat / 16) : Nat), b8 (digN (q.toNat % 16) : Nat)]
def textB (bs : List UInt8) : List UInt8 := bs.reverse.flatMap hexL
theorem textB_length (bs : List UInt8) : (textB bs).length = 2 * bs.length := by
  induction bs with
  | nil => rfl
  | cons c bs ih => unfold textB at ih ⊢; rw [List.reverse_cons, List.flatMap_append, List.length_append, ih, List.length_cons]; simp [hexL]; omega
theorem textB_more {bs : List UInt8} {i : Nat} {q : UInt8} (h : bs[i]? = some q) : textB (bs.drop i) = textB (bs.drop (i + 1)) ++ hexL q := by
  obtain ⟨hlt, rfl⟩ := List.getElem?_eq_some_iff.1 h
  unfold textB
  rw [List.drop_eq_getElem_cons hlt, List.reverse_cons, List.flatMap_append]
  simp
theorem dig_at : ∀ (v : Nat), v < 16 → ∀ w, (Instr.index 9 (.string ⟨#[48, 49, 50, 51, 52, 53, 54, 55, 56, 57, 97, 98, 99, 100, 101, 102]⟩) (.int .u8 (v : Int))).run Tryd.prog w = .ok (.int .u8 (digN v : Nat)) w
  | 0, _ => fun w => by kernel_rfl
  | 1, _ => fun w => by kernel_rfl
  | 2, _ => fun w => by kernel_rfl
  | 3, _ => fun w => by kernel_rfl
  | 4, _ => fun w => by kernel_rfl
  | 5, _ => fun w => by kernel_rfl
  | 6, _ => fun w => by kernel_rfl
  | 7, _ => fun w => by kernel_rfl
  | 8, _ => fun w => by kernel_rfl
  | 9, _ => fun w => by kernel_rfl
  | 10, _ => fun w => by kernel_rfl
  | 11, _ => fun w => by kernel_rfl
  | 12, _ => fun w => by kernel_rfl
  | 13, _ => fun w => by kernel_rfl
  | 14, _ => fun w => by kernel_rfl
  | 15, _ => fun w => by kernel_rfl
  | v + 16, h => absurd h (by omega)

set_option maxRecDepth 100000 in
set_option maxHeartbeats 1600000 in
theorem htext_any (bs : List UInt8) (W0 : World) (hl : bs.length = 32) :
    Calls Tryd.prog 16 #[.agg ((nums bs).map (Value.int .u8)).toArray] W0 fun e w' => e = .returned (.string ⟨(textB bs).toArray⟩) ∧ Below W0.heap.size W0 w' := by
  obtain ⟨i0, hi, hz0, hz1, hz2⟩ := info_parts info_u8
  have r0 := IRow.new W0 41 .u8 (nums bs)
  have b0 : Below W0.heap.size W0 (W0.alloc (.cells ((nums bs).map (Value.int .u8)).toArray 41)) := (Below.refl _ W0).alloc (Nat.le_refl _) _
  have s0 : (W0.alloc (.cells ((nums bs).map (Value.int .u8)).toArray 41)).heap.size = W0.heap.size + 1 := by simp
  obtain ⟨w1, hw1⟩ : ∃ x, x = (W0.alloc (.cells ((nums bs).map (Value.int .u8)).toArray 41)) := ⟨_, rfl⟩
  rw [← hw1] at r0 b0 s0
  obtain ⟨w0, hmk, hown0, hg0⟩ := run_make_own (P := Tryd.prog) w1 (W0.heap.size + 1) 24 5 i0 (.int .u8 0) 1 slice_u8 hi hz0 hz1 .i64 .i64 64 (by rw [hz2]; omega) (by unfold maxLen; omega) (by omega)
  have e64 : ((64 : Nat) : Int) = 64 := rfl
  rw [e64] at hmk
  clear e64
  have hb1 : Below (W0.heap.size + 1) w1 w0 := (Below.refl _ _).grown hg0 (by omega) (fun k hk => by cases hk)
  have R0 := Lib.hid (r0.below hb1 (Nat.lt_succ_self _))
  have B0 := Lib.hid (b0.trans (hb1.mono (Nat.le_succ _)))
  have S0 := Lib.hid (show W0.heap.size + 1 ≤ w0.heap.size by have := hb1.size; omega)
  rw [s0] at hmk hown0
  rw [hw1] at hmk
  clear r0 b0 s0 hg0 hb1 hw1
  go_enter Tryd.func16, Tryd.ntmps16
  go_wp2_with fail
  clear hmk
  go_loopw [4, 3] (fun j v wr => ∃ i : Nat, i ≤ 32 ∧ j = .int .i64 ((i : Int) - 1) ∧ wr.ownsRow (W0.heap.size + 1) 5 1 v (textB (bs.drop i)).length ((textB (bs.drop i)).map bv) ∧ IRow wr W0.heap.size 41 .u8 (nums bs) ∧ Below W0.heap.size W0 wr ∧ W0.heap.size + 1 ≤ wr.heap.size) (fun j _ _ => (intOf j + 1).toNat)
  case atStart => exact ⟨32, by omega, rfl, by rw [List.drop_eq_nil_of_le (by omega)]; exact hown0, R0.out, B0.out, S0.out⟩
  case round =>
    obtain ⟨i, hi2, rfl, hown, hrow, hbel, hsz⟩ := hrel
    by_cases hlt : 0 < i
    · obtain ⟨k, hk⟩ : ∃ k, i = k + 1 := ⟨i - 1, by omega⟩
      have ek : (i : Int) - 1 = (k : Int) := by omega
      obtain ⟨q, hq⟩ : ∃ q, bs[k]? = some q := ⟨_, List.getElem?_eq_getElem (by omega)⟩
      have hci : wr.cell? ⟨W0.heap.size, k, none⟩ = some (.int .u8 (q.toNat : Int)) := hrow.cell (by unfold nums; rw [List.getElem?_map, hq]; rfl)
      have k32 : (k : Int) < 32 := by omega
      have hsn := textB_more hq
      rw [← hk] at hsn
      obtain ⟨zs, hzs⟩ : ∃ zs, zs = textB (bs.drop i) := ⟨_, rfl⟩
      have hzl : zs.length ≤ 64 := by rw [hzs, textB_length, List.length_drop]; omega
      rw [← hzs] at hown hsn
      have hq256 := q.toNat_lt
      obtain ⟨v, hv⟩ : ∃ v, v = q.toNat / 16 := ⟨_, rfl⟩
      obtain ⟨u, hu⟩ : ∃ u, u = q.toNat % 16 := ⟨_, rfl⟩
      have ev : (q.toNat : Int) / 16 = (v : Int) := by omega
      have eu : (q.toNat : Int) % 16 = (u : Int) := by omega
      have eu2 : (q.toNat : Int).tmod 16 = (u : Int) := by rw [Int.tmod_eq_emod_of_nonneg (by omega)]; exact eu
      have eu3 : bits .and .u8 (q.toNat : Int) 15 = (u : Int) := by
        have h := bits_mask .u8 8 (by decide) (fun n h0 h1 => by rw [IntKind.wrap_u8]; omega) 4 (by decide) (q.toNat : Int) (by omega) (by omega)
        have e1 : ((2 : Int) ^ 4 - 1) = 15 := by decide
        rw [e1] at h
        rw [h, ← eu]
        rfl
      have I1 := dig_at v (by omega)
      have I2 := dig_at u (by omega)
      have hd1 := digN_lt (v := v) (by omega)
      have hd2 := digN_lt (v := u) (by omega)
      obtain ⟨y1, hy1⟩ : ∃ y1, y1 = digN v := ⟨_, rfl⟩
      obtain ⟨y2, hy2⟩ : ∃ y2, y2 = digN u := ⟨_, rfl⟩
      have hdq : hexL q = [b8 (y1 : Int), b8 (y2 : Int)] := by rw [hy1, hy2, hv, hu]; rfl
      rw [← hy1] at hd1 I1
      rw [← hy2] at hd2 I2
      rw [hdq] at hsn
      have hmade : Byt (wr.alloc (.cells #[.int .u8 (y1 : Int), .int .u8 (y2 : Int)] 5)).drew (wr.heap.size + 1) (.slice (some ⟨wr.heap.size, 0, none⟩) 2 2) [b8 (y1 : Int), b8 (y2 : Int)] :=
        (Byt.made wr _ [_, _] [b8 (y1 : Int), b8 (y2 : Int)] (by rw [List.map_cons, List.map_cons, List.map_nil, bv_b8_of (by omega) (by omega), bv_b8_of (by omega) (by omega)]) (by unfold maxLen; simp)).keep (fun _ _ _ => rfl)
      obtain ⟨As, cs, rfl⟩ := own_form hown
      have HS := Lib.hid hsn
      have HROW := Lib.hid hrow
      have hod : (wr.alloc (.cells #[.int .u8 (y1 : Int), .int .u8 (y2 : Int)] 5)).drew.ownsRow (W0.heap.size + 1) 5 1 (.slice As zs.length cs) zs.length (zs.map bv) := (hown.alloc _).drew
      have HOD := Lib.hid hod
      have HBB := Lib.hid hbel
      have HSZ := Lib.hid hsz
      have EK := Lib.hid ek
      rw [ek]
      clear hq hsn hzs hy1 hy2 hdq hod hv hu hk ek hrow hown hbel hsz
      go_wp2_with fail
      refine wp_region_held_drew (S := (fun w' => w'.cell? ⟨W0.heap.size, k, none⟩ = some (.int .u8 (q.toNat : Int)))) (by kernel_rfl) ?_ (fun hHeld => ?_)
      · exact hci
      refine wpAnyH_take (i := 0) (oi := { dst := some 10, op := Go.Op.move (Go.Operand.tmp 3), type := 24, pos := "text.go:15", after := #[], guard := none }) (v := ?av0) rfl (by kernel_rfl) (by kernel_rfl) (by kernel_rfl) (fun _ _ _ h => h) (Or.inl ⟨by rfl, ?ay0⟩) (by assumption) ?ar0
      case ay0 => (intro w hSw; (try dsimp only at hSw); go_simp; try (with_reducible rfl))
      case ar0 =>
      try simp only [Act.put, List.setIfInBounds_toArray, List.set_cons_zero, List.set_cons_succ]
      refine wpAnyH_take (i := 1) (oi := { dst := some 11, op := Go.Op.move (Go.Operand.tmp 4), type := 3, pos := "text.go:15", after := #[], guard := none }) (v := ?av1) rfl (by kernel_rfl) (by kernel_rfl) (by kernel_rfl) (fun _ _ _ h => h) (Or.inl ⟨by rfl, ?ay1⟩) (by assumption) ?ar1
      case ay1 => (intro w hSw; (try dsimp only at hSw); go_simp; try (with_reducible rfl))
      case ar1 =>
      try simp only [Act.put, List.setIfInBounds_toArray, List.set_cons_zero, List.set_cons_succ]
      refine wpAnyH_take (i := 2) (oi := { dst := some 12, op := Go.Op.indexAddr 41 (Go.Operand.tmp 1) (Go.Operand.tmp 11), type := 0, pos := "text.go:15", after := #[{ on := 1, ground := Go.Ground.data }], guard := none }) (v := ?av2) rfl (by kernel_rfl) (by kernel_rfl) (by kernel_rfl) (fun _ _ _ h => h) (Or.inl ⟨by rfl, ?ay2⟩) (by assumption) ?ar2
      case ay2 => (intro w hSw; (try dsimp only at hSw); go_simp; try (with_reducible rfl))
      case ar2 =>
      try simp only [Act.put, List.setIfInBounds_toArray, List.set_cons_zero, List.set_cons_succ]
      refine wpAnyH_take (i := 3) (oi := { dst := some 13, op := Go.Op.load 5 (Go.Operand.tmp 12), type := 5, pos := "text.go:15", after := #[{ on := 2, ground := Go.Ground.data }], guard := none }) (v := ?av3) rfl (by kernel_rfl) (by kernel_rfl) (by kernel_rfl) (fun _ _ _ h => h) (Or.inl ⟨by rfl, ?ay3⟩) (by assumption) ?ar3
      case ay3 => (intro w hSw; (try dsimp only at hSw); go_simp; try (with_reducible rfl))
      case ar3 =>
      try simp only [Act.put, List.setIfInBounds_toArray, List.set_cons_zero, List.set_cons_succ]
      refine wpAnyH_take (i := 4) (oi := { dst := some 14, op := Go.Op.binOp Go.BinOp.shr 5 (Go.Operand.tmp 13) (Go.Operand.const (Go.Value.int Go.IntKind.u64 4)) 59, type := 5, pos := "text.go:15", after := #[{ on := 3, ground := Go.Ground.data }], guard := none }) (v := ?av4) rfl (by kernel_rfl) (by kernel_rfl) (by kernel_rfl) (fun _ _ _ h => h) (Or.inl ⟨by rfl, ?ay4⟩) (by assumption) ?ar4
      case ay4 => (intro w hSw; (try dsimp only at hSw); go_simp; try (with_reducible rfl))
      case ar4 =>
      try simp only [Act.put, List.setIfInBounds_toArray, List.set_cons_zero, List.set_cons_succ]
      refine wpAnyH_take (i := 5) (oi := { dst := some 15, op := Go.Op.index 9 (Go.Operand.const (Go.Value.string { data := #[48, 49, 50, 51, 52, 53, 54, 55, 56, 57, 97, 98, 99, 100, 101, 102] })) (Go.Operand.tmp 14), type := 5, pos := "text.go:15", after := #[{ on := 4, ground := Go.Ground.data }], guard := none }) (v := ?av5) rfl (by kernel_rfl) (by kernel_rfl) (by kernel_rfl) (fun _ _ _ h => h) (Or.inl ⟨by rfl, ?ay5⟩) (by assumption) ?ar5
      case ay5 => (intro w hSw; (try dsimp only at hSw); go_simp; try (with_reducible rfl))
      case ar5 =>
      try simp only [Act.put, List.setIfInBounds_toArray, List.set_cons_zero, List.set_cons_succ]
      refine wpAnyH_take (i := 6) (oi := { dst := some 16, op := Go.Op.move (Go.Operand.tmp 4), type := 3, pos := "text.go:15", after := #[], guard := none }) (v := ?av6) rfl (by kernel_rfl) (by kernel_rfl) (by kernel_rfl) (fun _ _ _ h => h) (Or.inl ⟨by rfl, ?ay6⟩) (by assumption) ?ar6
      case ay6 => (intro w hSw; (try dsimp only at hSw); go_simp; try (with_reducible rfl))
      case ar6 =>
      try simp only [Act.put, List.setIfInBounds_toArray, List.set_cons_zero, List.set_cons_succ]
      refine wpAnyH_take (i := 7) (oi := { dst := some 17, op := Go.Op.indexAddr 41 (Go.Operand.tmp 1) (Go.Operand.tmp 16), type := 0, pos := "text.go:15", after := #[{ on := 6, ground := Go.Ground.data }], guard := none }) (v := ?av7) rfl (by kernel_rfl) (by kernel_rfl) (by kernel_rfl) (fun _ _ _ h => h) (Or.inl ⟨by rfl, ?ay7⟩) (by assumption) ?ar7
      case ay7 => (intro w hSw; (try dsimp only at hSw); go_simp; try (with_reducible rfl))
      case ar7 =>
      try simp only [Act.put, List.setIfInBounds_toArray, List.set_cons_zero, List.set_cons_succ]
      refine wpAnyH_take (i := 8) (oi := { dst := some 18, op := Go.Op.load 5 (Go.Operand.tmp 17), type := 5, pos := "text.go:15", after := #[{ on := 7, ground := Go.Ground.data }], guard := none }) (v := ?av8) rfl (by kernel_rfl) (by kernel_rfl) (by kernel_rfl) (fun _ _ _ h => h) (Or.inl ⟨by rfl, ?ay8⟩) (by assumption) ?ar8
      case ay8 => (intro w hSw; (try dsimp only at hSw); go_simp; try (with_reducible rfl))
      case ar8 =>
      try simp only [Act.put, List.setIfInBounds_toArray, List.set_cons_zero, List.set_cons_succ]
      refine wpAnyH_take (i := 9) (oi := { dst := some 19, op := Go.Op.binOp Go.BinOp.and 5 (Go.Operand.tmp 18) (Go.Operand.const (Go.Value.int Go.IntKind.u8 15)) 5, type := 5, pos := "text.go:15", after := #[{ on := 8, ground := Go.Ground.data }], guard := none }) (v := ?av9) rfl (by kernel_rfl) (by kernel_rfl) (by kernel_rfl) (fun _ _ _ h => h) (Or.inl ⟨by rfl, ?ay9⟩) (by assumption) ?ar9
      case ay9 => (intro w hSw; (try dsimp only at hSw); go_simp; try (with_reducible rfl))
      case ar9 =>
      try simp only [Act.put, List.setIfInBounds_toArray, List.set_cons_zero, List.set_cons_succ]
      refine wpAnyH_take (i := 10) (oi := { dst := some 20, op := Go.Op.index 9 (Go.Operand.const (Go.Value.string { data := #[48, 49, 50, 51, 52, 53, 54, 55, 56, 57, 97, 98, 99, 100, 101, 102] })) (Go.Operand.tmp 19), type := 5, pos := "text.go:15", after := #[{ on := 9, ground := Go.Ground.data }], guard := none }) (v := ?av10) rfl (by kernel_rfl) (by kernel_rfl) (by kernel_rfl) (fun _ _ _ h => h) (Or.inl ⟨by rfl, ?ay10⟩) (by assumption) ?ar10
      case ay10 => (intro w hSw; (try dsimp only at hSw); go_simp; try (with_reducible rfl))
      case ar10 =>
      try simp only [Act.put, List.setIfInBounds_toArray, List.set_cons_zero, List.set_cons_succ]
      refine wpAnyH_ready (rs := [11]) (by kernel_rfl) (by simp) ?_
      refine AllReadyH.cons (o := { dst := some 21, op := Go.Op.buildSlice 24 2 #[(0, Go.Operand.tmp 15), (1, Go.Operand.tmp 20)], type := 24, pos := "text.go:15", after := #[{ on := 5, ground := Go.Ground.data }, { on := 10, ground := Go.Ground.data }], guard := none }) rfl (fun K hK => ?_) (AllReadyH.nil)
      go_simp
      refine hK.out _ _ ?_ (fun hHeld => ?_)
      · exact (World.cell?_alloc_lt wr _ _ (by show W0.heap.size < _; have := HSZ.out; omega)).trans hci
      clear hK K
      try simp only [Act.put, List.setIfInBounds_toArray, List.set_cons_zero, List.set_cons_succ]
      refine wpAnyH_ready (rs := [12]) (by kernel_rfl) (by simp) ?_
      refine AllReadyH.cons (o := { dst := some 22, op := Go.Op.call { callee := Go.Callee.builtin Go.Builtin.append, args := #[Go.Operand.tmp 10, Go.Operand.tmp 21], argTypes := #[24, 24] }, type := 24, pos := "text.go:15", after := #[{ on := 0, ground := Go.Ground.data }, { on := 11, ground := Go.Ground.data }], guard := none }) rfl (fun K hK => ?_) (AllReadyH.nil)
      simp only [Region.wanted, if_true]
      refine op_append_bytes (.tmp 10) (.tmp 21) 24 rfl (W0.heap.size + 1) 5 i0 slice_u8 hi hz0 hz1 hz2 _ zs.length (zs.map bv) rfl HOD.out (wr.heap.size + 1) _ [b8 (y1 : Int), b8 (y2 : Int)] rfl hmade (by simp; omega) (by have := HSZ.out; simp; omega) ?_
      intro v1 w1 hown1 hg1 hat1
      have hbR : Below (W0.heap.size + 1) wr w1 := ((((Below.refl (W0.heap.size + 1) wr).alloc HSZ.out _).drew)).grown hg1 (by have := HSZ.out; simp; omega) (fun j hj => (HOD.out.lt j hj).1)
      have hcw1 : w1.cell? ⟨W0.heap.size, k, none⟩ = some (.int .u8 (q.toNat : Int)) := (hbR.cell (p := ⟨W0.heap.size, _, none⟩) (by show W0.heap.size < _; omega)).trans hci
      have HH := Lib.hid hown1
      have HBR := Lib.hid hbR
      clear hown1 hg1 hat1 hbR
      refine hK.out _ _ ?_ (fun hHeld => ?_)
      · exact hcw1
      clear hK K
      try simp only [Act.put, List.setIfInBounds_toArray, List.set_cons_zero, List.set_cons_succ]
      refine wpAnyH_take (i := 13) (oi := { dst := some 3, op := Go.Op.assign (Go.Operand.tmp 22), type := 24, pos := "text.go:15", after := #[{ on := 12, ground := Go.Ground.data }, { on := 12, ground := Go.Ground.chain }, { on := 0, ground := Go.Ground.phase }, { on := 1, ground := Go.Ground.phase }, { on := 2, ground := Go.Ground.phase }, { on := 3, ground := Go.Ground.phase }, { on := 4, ground := Go.Ground.phase }, { on := 5, ground := Go.Ground.phase }, { on := 6, ground := Go.Ground.phase }, { on := 7, ground := Go.Ground.phase }, { on := 8, ground := Go.Ground.phase }, { on := 9, ground := Go.Ground.phase }, { on := 10, ground := Go.Ground.phase }, { on := 11, ground := Go.Ground.phase }, { on := 12, ground := Go.Ground.phase }], guard := none }) (v := ?a_11_12v13) rfl (by kernel_rfl) (by kernel_rfl) (by kernel_rfl) (fun _ _ _ h => h) (Or.inl ⟨by rfl, ?a_11_12y13⟩) (by assumption) ?a_11_12r13
      case a_11_12y13 => (intro w hSw; (try dsimp only at hSw); go_simp; try (with_reducible rfl))
      case a_11_12r13 =>
      try simp only [Act.put, List.setIfInBounds_toArray, List.set_cons_zero, List.set_cons_succ]
      refine wpAnyH_done (by kernel_rfl) ?_ _
      go_wp2
      refine ⟨⟨k, by omega, by have := EK.out; go_num, ?_, HROW.out.below HBR.out (Nat.lt_succ_self _), HBB.out.trans (HBR.out.mono (Nat.le_succ _)), by have := HBR.out.size; have := HSZ.out; omega⟩, by have := EK.out; simp [intOf]⟩
      rw [HS.out, List.length_append, List.map_append]
      exact HH.out
    · obtain rfl : i = 0 := by omega
      rw [List.drop_zero] at hown
      have hby := Byt.of_own hown
      obtain ⟨As, cs, rfl⟩ := own_form hown
      have hrs := run_string_of (P := Tryd.prog) wr 24 9 5 slice_u8 Tryd.underlying5 Tryd.underlying9 _ _ (textB bs) hby
      have e0 : ((0 : Nat) : Int) - 1 = -1 := rfl
      rw [e0]
      clear hown hby e0
      go_wp2
      go_ret
      exact ⟨rfl, hbel⟩
end Go.Proofs.YtjdicifickjggaaDoor
