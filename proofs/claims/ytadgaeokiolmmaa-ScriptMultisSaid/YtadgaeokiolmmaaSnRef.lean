/-
  The reference's Number of layer 11. Conditions: none.
-/
import Derived.Test.YtadgaeokiolmmaaSnNum
namespace Go.Proofs.Ytadgaeokiolmmaa
open Go.RowKit

set_option maxRecDepth 100000 in
set_option maxHeartbeats 1600000 in
theorem rnumber_neg (n : Int) (w : World) (h0 : -9223372036854775807 ≤ n) (hneg : n < 0) :
    Calls Try.prog 21 #[.int .i64 n] w (Fresh w (numB n)) := by
  obtain ⟨i0, hi, hz0, hz1, hz2⟩ := info_parts info_u8
  have h8 := bytesN_eight n (by omega) (by omega)
  have hmg := mag_le n (by omega) (by omega)
  have hmn : (mag n : Int) = -n := by unfold mag; rw [if_neg (by omega)]; omega
  have hm0 : ¬ n = 0 := by omega
  have hw1 : IntKind.u64.wrap (-IntKind.u64.wrap n) = (mag n : Nat) := by rw [hmn, IntKind.wrap_u64, IntKind.wrap_u64]; omega
  have hw2 : (((mag n : Nat) : Int) == 9223372036854775808) = false := by simp; omega
  clear hmn
  go_enter Try.func21, Try.ntmps21
  go_wp2_with fail
  clear hw1 hw2
  go_loopw [3, 4] (fun v x wr => ∃ (m : Nat) (zs : List UInt8), x = .int .u64 (m : Int) ∧ m ≤ 9223372036854775807 ∧ zs.length ≤ 8 ∧ Hid (bytesN (mag n) = zs ++ bytesN m) ∧ OwnB wr w.heap.size v zs ∧ Below w.heap.size w wr) (fun _ x _ => (intOf x).toNat)
  case atStart => exact ⟨mag n, [], rfl, hmg, by simp, Lib.hid (by simp), OwnB.nil _ _, Below.refl _ _⟩
  case round =>
    obtain ⟨m, zs, rfl, hm, hzl, hz, hown, hbel⟩ := hrel
    by_cases hlt : 0 < m
    · have hmade : Byt (wr.alloc (.cells #[.int .u8 ((m : Int) % 256)] 5)) (wr.heap.size + 1) (.slice (some ⟨wr.heap.size, 0, none⟩) 1 1) [b8 (m : Int)] := Byt.made wr _ [_] [b8 (m : Int)] (by simp [bv_b8]) (by unfold maxLen; simp)
      unfold OwnB at hown
      have hstep := Lib.hid (bytesN_go hz.out hlt)
      have hzl2 : (zs ++ [b8 (m : Int)]).length ≤ 8 := by
        have h := congrArg List.length hstep.out
        rw [List.length_append] at h
        omega
      have HZ2 := Lib.hid hzl2
      clear hzl2
      go_wp2_with (at_builtin; refine wpList_append_bytes rfl (.tmp 17) (.tmp 21) 22 rfl w.heap.size 5 i0 slice_u8 hi hz0 hz1 hz2 _ zs.length (zs.map bv) rfl (World.ownsRow.alloc hown _) (wr.heap.size + 1) _ [b8 (m : Int)] rfl hmade (by simp; omega) (by have := hbel.size; simp; omega) ?_; intro v1 w1 hown1 hg1 hat1)
      have hb1 : Below w.heap.size w w1 := (hbel.alloc hbel.size _).grown hg1 (by have := hbel.size; simp; omega) (fun j hj => (World.ownsRow.lt hown j hj).1)
      go_roundw
      case rel => exact ⟨m / 256, zs ++ [b8 (m : Int)], by simp, by omega, HZ2.out, hstep, by unfold OwnB; simpa using hown1, hb1⟩
      case measure => simp [intOf]; omega
    · obtain rfl : m = 0 := by omega
      have hz' : zs = bytesN (mag n) := by have := hz.out; rw [bytesN_zero, List.append_nil] at this; exact this.symm
      clear hz
      have hz0m : [] = bytesN (mag n) → n = 0 := fun h => by
        have hv := valN_bytesN (mag n)
        rw [← h] at hv
        have : mag n = 0 := hv.symm
        unfold mag at this
        split at this <;> omega
      rcases snoc_cases zs with rfl | ⟨fr, x, rfl⟩
      · exact absurd (hz0m hz') hm0
      · have hZ := Lib.hid hz'
        clear hz' hz0m
        have hbsz := hbel.size
        obtain ⟨g, c, rfl, hg1, hg2, hg3⟩ := hown.block (by simp)
        have hcell : wr.cell? ⟨g, fr.length, none⟩ = some (.int .u8 (x.toNat : Int)) := hown.cell (k := fr.length) (q := x) (by simp)
        have hfree := hown.free fr.length
        have HO := Lib.hid hown
        clear hown
        rw [List.length_append, List.length_cons, List.length_nil, Nat.zero_add] at hzl hg3 HO ⊢
        have hx256 := x.toNat_lt
        by_cases hx : 128 ≤ x.toNat
        · have hmade : Byt (wr.alloc (.cells #[.int .u8 0] 5)) (wr.heap.size + 1) (.slice (some ⟨wr.heap.size, 0, none⟩) 1 1) [0] := Byt.made wr _ [_] [0] (by simp [bv]) (by unfold maxLen; simp)
          have hown2 : wr.ownsRow w.heap.size 5 1 (.slice (some ⟨g, 0, none⟩) (fr.length + 1) c) (fr.length + 1) ((fr ++ [x]).map bv) := by have := HO.out; unfold OwnB at this; rwa [List.length_append, List.length_cons, List.length_nil, Nat.zero_add] at this
          have HH := Lib.hid hown2
          clear hown2
          have hnum : numB n = fr ++ [x] ++ [128] := by unfold numB; rw [if_pos hneg, ← hZ.out, topped_hi hx, signd_snoc]; rfl
          have HN := Lib.hid hnum
          clear hnum
          go_wp2_with (at_builtin; refine wpList_append_bytes rfl (.tmp 37) (.tmp 38) 22 rfl w.heap.size 5 i0 slice_u8 hi hz0 hz1 hz2 _ (fr.length + 1) ((fr ++ [x]).map bv) rfl (World.ownsRow.alloc HH.out _) (wr.heap.size + 1) _ [0] rfl hmade (by simp; omega) (by simp; omega) ?_; intro v1 w1 hown1 hg1 hat1; have hb1 : Below w.heap.size w w1 := (hbel.alloc hbsz _).grown hg1 (by simp; omega) (fun j hj => (World.ownsRow.lt HH.out j hj).1); have hO1 := own_b hown1 (by simp); obtain ⟨g1, c1, rfl, hg11, hg12, hg13⟩ := hO1.block (by simp); have hcell1 : w1.cell? ⟨g1, fr.length + 1, none⟩ = some (.int .u8 0) := hO1.cell (k := fr.length + 1) (q := 0) (by simp); have hfree1 := hO1.free (fr.length + 1); have hset1 := Lib.hid (hO1.set (fr.length + 1) 128); have HO1 := Lib.hid hO1; have HB1 := Lib.hid hb1; clear hO1 hb1 hown1 hg1 hat1; rw [List.length_append, List.length_append, List.length_cons, List.length_nil, List.length_cons, List.length_nil, Nat.zero_add] at hg13 hset1 HO1 ⊢)
          go_ret
          rw [HN.out]
          exact fresh_own (by have := hset1.out; rw [set_snoc1] at this; exact this) (HB1.out.setCell (by show w.heap.size ≤ g1; omega) _)
        · have hxn : x.toNat < 128 := by omega
          have hnum : numB n = fr ++ [UInt8.ofNat (x.toNat % 128 + 128)] := by unfold numB; rw [if_pos hneg, ← hZ.out, topped_lo (by omega), signd_snoc]
          have HN := Lib.hid hnum
          have hset := Lib.hid (HO.out.set fr.length (UInt8.ofNat (x.toNat % 128 + 128)))
          have hhi : ((UInt8.ofNat (x.toNat % 128 + 128)).toNat : Int) = (x.toNat : Int) + 128 := by rw [to_hi]; omega
          have HHI := Lib.hid hhi
          clear hnum hhi
          go_wp2_with fail
          go_ret
          rw [HN.out]
          exact fresh_own (by have := hset.out; rw [set_snoc] at this; unfold bv at this; rw [HHI.out] at this; exact this) (hbel.setCell (by show w.heap.size ≤ g; omega) _)

set_option maxRecDepth 100000 in
set_option maxHeartbeats 1600000 in
theorem rnumber_pos (n : Int) (w : World) (h0 : 0 ≤ n) (h1 : n ≤ 9223372036854775807) :
    Calls Try.prog 21 #[.int .i64 n] w (Fresh w (numB n)) := by
  obtain ⟨i0, hi, hz0, hz1, hz2⟩ := info_parts info_u8
  have h8 := bytesN_eight n (by omega) (by omega)
  have hmg := mag_le n (by omega) (by omega)
  have hmn : (mag n : Int) = n := by unfold mag; rw [if_neg (by omega)]; omega
  have HM := Lib.hid hmn
  have hneg : ¬ n < 0 := by omega
  clear hmn
  go_enter Try.func21, Try.ntmps21
  go_wp2_with fail
  go_loopw [3, 4] (fun v x wr => ∃ (m : Nat) (zs : List UInt8), x = .int .u64 (m : Int) ∧ m ≤ 9223372036854775807 ∧ zs.length ≤ 8 ∧ Hid (bytesN (mag n) = zs ++ bytesN m) ∧ OwnB wr w.heap.size v zs ∧ Below w.heap.size w wr) (fun _ x _ => (intOf x).toNat)
  case atStart => exact ⟨mag n, [], by rw [HM.out], hmg, by simp, Lib.hid (by simp), OwnB.nil _ _, Below.refl _ _⟩
  case round =>
    obtain ⟨m, zs, rfl, hm, hzl, hz, hown, hbel⟩ := hrel
    by_cases hlt : 0 < m
    · have hmade : Byt (wr.alloc (.cells #[.int .u8 ((m : Int) % 256)] 5)) (wr.heap.size + 1) (.slice (some ⟨wr.heap.size, 0, none⟩) 1 1) [b8 (m : Int)] := Byt.made wr _ [_] [b8 (m : Int)] (by simp [bv_b8]) (by unfold maxLen; simp)
      unfold OwnB at hown
      have hstep := Lib.hid (bytesN_go hz.out hlt)
      have hzl2 : (zs ++ [b8 (m : Int)]).length ≤ 8 := by
        have h := congrArg List.length hstep.out
        rw [List.length_append] at h
        omega
      have HZ2 := Lib.hid hzl2
      clear hzl2
      go_wp2_with (at_builtin; refine wpList_append_bytes rfl (.tmp 17) (.tmp 21) 22 rfl w.heap.size 5 i0 slice_u8 hi hz0 hz1 hz2 _ zs.length (zs.map bv) rfl (World.ownsRow.alloc hown _) (wr.heap.size + 1) _ [b8 (m : Int)] rfl hmade (by simp; omega) (by have := hbel.size; simp; omega) ?_; intro v1 w1 hown1 hg1 hat1)
      have hb1 : Below w.heap.size w w1 := (hbel.alloc hbel.size _).grown hg1 (by have := hbel.size; simp; omega) (fun j hj => (World.ownsRow.lt hown j hj).1)
      go_roundw
      case rel => exact ⟨m / 256, zs ++ [b8 (m : Int)], by simp, by omega, HZ2.out, hstep, by unfold OwnB; simpa using hown1, hb1⟩
      case measure => simp [intOf]; omega
    · obtain rfl : m = 0 := by omega
      have hz' : zs = bytesN (mag n) := by have := hz.out; rw [bytesN_zero, List.append_nil] at this; exact this.symm
      clear hz
      have hz0m : [] = bytesN (mag n) → n = 0 := fun h => by
        have hv := valN_bytesN (mag n)
        rw [← h] at hv
        have : mag n = 0 := hv.symm
        unfold mag at this
        split at this <;> omega
      rcases snoc_cases zs with rfl | ⟨fr, x, rfl⟩
      · obtain rfl : n = 0 := hz0m hz'
        have hnum : numB 0 = [] := numB_neg0
        have HN := Lib.hid hnum
        clear hnum hz'
        obtain ⟨A, c, rfl⟩ := hown.form
        go_wp2_with fail
        go_ret
        rw [HN.out]
        exact fresh_of hown hbel
      · have hZ := Lib.hid hz'
        clear hz' hz0m
        have hbsz := hbel.size
        obtain ⟨g, c, rfl, hg1, hg2, hg3⟩ := hown.block (by simp)
        have hcell : wr.cell? ⟨g, fr.length, none⟩ = some (.int .u8 (x.toNat : Int)) := hown.cell (k := fr.length) (q := x) (by simp)
        have hfree := hown.free fr.length
        have HO := Lib.hid hown
        clear hown
        rw [List.length_append, List.length_cons, List.length_nil, Nat.zero_add] at hzl hg3 HO ⊢
        have hx256 := x.toNat_lt
        by_cases hx : 128 ≤ x.toNat
        · have hmade : Byt (wr.alloc (.cells #[.int .u8 0] 5)) (wr.heap.size + 1) (.slice (some ⟨wr.heap.size, 0, none⟩) 1 1) [0] := Byt.made wr _ [_] [0] (by simp [bv]) (by unfold maxLen; simp)
          have hown2 : wr.ownsRow w.heap.size 5 1 (.slice (some ⟨g, 0, none⟩) (fr.length + 1) c) (fr.length + 1) ((fr ++ [x]).map bv) := by have := HO.out; unfold OwnB at this; rwa [List.length_append, List.length_cons, List.length_nil, Nat.zero_add] at this
          have HH := Lib.hid hown2
          clear hown2
          have hnum : numB n = fr ++ [x] ++ [0] := by unfold numB; rw [if_neg (show ¬ n < 0 by omega), ← hZ.out, topped_hi hx]
          have HN := Lib.hid hnum
          clear hnum
          go_wp2_with (at_builtin; refine wpList_append_bytes rfl (.tmp 37) (.tmp 38) 22 rfl w.heap.size 5 i0 slice_u8 hi hz0 hz1 hz2 _ (fr.length + 1) ((fr ++ [x]).map bv) rfl (World.ownsRow.alloc HH.out _) (wr.heap.size + 1) _ [0] rfl hmade (by simp; omega) (by simp; omega) ?_; intro v1 w1 hown1 hg1 hat1; have hb1 : Below w.heap.size w w1 := (hbel.alloc hbsz _).grown hg1 (by simp; omega) (fun j hj => (World.ownsRow.lt HH.out j hj).1); have hO1 := own_b hown1 (by simp); obtain ⟨g1, c1, rfl, hg11, hg12, hg13⟩ := hO1.block (by simp); have hcell1 : w1.cell? ⟨g1, fr.length + 1, none⟩ = some (.int .u8 0) := hO1.cell (k := fr.length + 1) (q := 0) (by simp); have hfree1 := hO1.free (fr.length + 1); have hset1 := Lib.hid (hO1.set (fr.length + 1) 128); have HO1 := Lib.hid hO1; have HB1 := Lib.hid hb1; clear hO1 hb1 hown1 hg1 hat1; rw [List.length_append, List.length_append, List.length_cons, List.length_nil, List.length_cons, List.length_nil, Nat.zero_add] at hg13 hset1 HO1 ⊢)
          go_ret
          rw [HN.out]
          exact fresh_own HO1.out HB1.out
        · have hxn : x.toNat < 128 := by omega
          have hnum : numB n = fr ++ [x] := by unfold numB; rw [if_neg (show ¬ n < 0 by omega), ← hZ.out, topped_lo (by omega)]
          have HN := Lib.hid hnum
          clear hnum
          go_wp2_with fail
          go_ret
          rw [HN.out]
          exact fresh_own HO.out hbel

set_option maxRecDepth 100000 in
set_option maxHeartbeats 1600000 in
theorem rnumber_min (w : World)  :
    Calls Try.prog 21 #[.int .i64 (-9223372036854775808)] w (Fresh w (numB (-9223372036854775808))) := by
  obtain ⟨i0, hi, hz0, hz1, hz2⟩ := info_parts info_u8
  have h8 := bytesN_eight (-9223372036854775808) (by omega) (by omega)
  have hmg := mag_le (-9223372036854775808) (by omega) (by omega)
  have hneg : (-9223372036854775808 : Int) < 0 := by decide
  have hm0 : ¬ (-9223372036854775808 : Int) = 0 := by decide
  have hw1 : IntKind.u64.wrap (IntKind.u64.wrap (-IntKind.u64.wrap (-9223372036854775808)) - 1) = (mag (-9223372036854775808) : Nat) := by decide
  have hw2 : (IntKind.u64.wrap (-IntKind.u64.wrap (-9223372036854775808)) == 9223372036854775808) = true := by decide
  go_enter Try.func21, Try.ntmps21
  go_wp2_with fail
  clear hw1 hw2
  go_loopw [3, 4] (fun v x wr => ∃ (m : Nat) (zs : List UInt8), x = .int .u64 (m : Int) ∧ m ≤ 9223372036854775807 ∧ zs.length ≤ 8 ∧ Hid (bytesN (mag (-9223372036854775808)) = zs ++ bytesN m) ∧ OwnB wr w.heap.size v zs ∧ Below w.heap.size w wr) (fun _ x _ => (intOf x).toNat)
  case atStart => exact ⟨mag (-9223372036854775808), [], rfl, hmg, by simp, Lib.hid (by simp), OwnB.nil _ _, Below.refl _ _⟩
  case round =>
    obtain ⟨m, zs, rfl, hm, hzl, hz, hown, hbel⟩ := hrel
    by_cases hlt : 0 < m
    · have hmade : Byt (wr.alloc (.cells #[.int .u8 ((m : Int) % 256)] 5)) (wr.heap.size + 1) (.slice (some ⟨wr.heap.size, 0, none⟩) 1 1) [b8 (m : Int)] := Byt.made wr _ [_] [b8 (m : Int)] (by simp [bv_b8]) (by unfold maxLen; simp)
      unfold OwnB at hown
      have hstep := Lib.hid (bytesN_go hz.out hlt)
      have hzl2 : (zs ++ [b8 (m : Int)]).length ≤ 8 := by
        have h := congrArg List.length hstep.out
        rw [List.length_append] at h
        omega
      have HZ2 := Lib.hid hzl2
      clear hzl2
      go_wp2_with (at_builtin; refine wpList_append_bytes rfl (.tmp 17) (.tmp 21) 22 rfl w.heap.size 5 i0 slice_u8 hi hz0 hz1 hz2 _ zs.length (zs.map bv) rfl (World.ownsRow.alloc hown _) (wr.heap.size + 1) _ [b8 (m : Int)] rfl hmade (by simp; omega) (by have := hbel.size; simp; omega) ?_; intro v1 w1 hown1 hg1 hat1)
      have hb1 : Below w.heap.size w w1 := (hbel.alloc hbel.size _).grown hg1 (by have := hbel.size; simp; omega) (fun j hj => (World.ownsRow.lt hown j hj).1)
      go_roundw
      case rel => exact ⟨m / 256, zs ++ [b8 (m : Int)], by simp, by omega, HZ2.out, hstep, by unfold OwnB; simpa using hown1, hb1⟩
      case measure => simp [intOf]; omega
    · obtain rfl : m = 0 := by omega
      have hz' : zs = bytesN (mag (-9223372036854775808)) := by have := hz.out; rw [bytesN_zero, List.append_nil] at this; exact this.symm
      clear hz
      have hz0m : [] = bytesN (mag (-9223372036854775808)) → (-9223372036854775808) = 0 := fun h => by
        have hv := valN_bytesN (mag (-9223372036854775808))
        rw [← h] at hv
        have : mag (-9223372036854775808) = 0 := hv.symm
        unfold mag at this
        split at this <;> omega
      rcases snoc_cases zs with rfl | ⟨fr, x, rfl⟩
      · exact absurd (hz0m hz') hm0
      · have hZ := Lib.hid hz'
        clear hz' hz0m
        have hbsz := hbel.size
        obtain ⟨g, c, rfl, hg1, hg2, hg3⟩ := hown.block (by simp)
        have hcell : wr.cell? ⟨g, fr.length, none⟩ = some (.int .u8 (x.toNat : Int)) := hown.cell (k := fr.length) (q := x) (by simp)
        have hfree := hown.free fr.length
        have HO := Lib.hid hown
        clear hown
        rw [List.length_append, List.length_cons, List.length_nil, Nat.zero_add] at hzl hg3 HO ⊢
        have hx256 := x.toNat_lt
        by_cases hx : 128 ≤ x.toNat
        · have hmade : Byt (wr.alloc (.cells #[.int .u8 0] 5)) (wr.heap.size + 1) (.slice (some ⟨wr.heap.size, 0, none⟩) 1 1) [0] := Byt.made wr _ [_] [0] (by simp [bv]) (by unfold maxLen; simp)
          have hown2 : wr.ownsRow w.heap.size 5 1 (.slice (some ⟨g, 0, none⟩) (fr.length + 1) c) (fr.length + 1) ((fr ++ [x]).map bv) := by have := HO.out; unfold OwnB at this; rwa [List.length_append, List.length_cons, List.length_nil, Nat.zero_add] at this
          have HH := Lib.hid hown2
          clear hown2
          have hnum : numB (-9223372036854775808) = fr ++ [x] ++ [128] := by unfold numB; rw [if_pos hneg, ← hZ.out, topped_hi hx, signd_snoc]; rfl
          have HN := Lib.hid hnum
          clear hnum
          go_wp2_with (at_builtin; refine wpList_append_bytes rfl (.tmp 37) (.tmp 38) 22 rfl w.heap.size 5 i0 slice_u8 hi hz0 hz1 hz2 _ (fr.length + 1) ((fr ++ [x]).map bv) rfl (World.ownsRow.alloc HH.out _) (wr.heap.size + 1) _ [0] rfl hmade (by simp; omega) (by simp; omega) ?_; intro v1 w1 hown1 hg1 hat1; have hb1 : Below w.heap.size w w1 := (hbel.alloc hbsz _).grown hg1 (by simp; omega) (fun j hj => (World.ownsRow.lt HH.out j hj).1); have hO1 := own_b hown1 (by simp); obtain ⟨g1, c1, rfl, hg11, hg12, hg13⟩ := hO1.block (by simp); have hcell1 : w1.cell? ⟨g1, fr.length + 1, none⟩ = some (.int .u8 0) := hO1.cell (k := fr.length + 1) (q := 0) (by simp); have hfree1 := hO1.free (fr.length + 1); have hset1 := Lib.hid (hO1.set (fr.length + 1) 128); have HO1 := Lib.hid hO1; have HB1 := Lib.hid hb1; clear hO1 hb1 hown1 hg1 hat1; rw [List.length_append, List.length_append, List.length_cons, List.length_nil, List.length_cons, List.length_nil, Nat.zero_add] at hg13 hset1 HO1 ⊢)
          go_ret
          rw [HN.out]
          exact fresh_own (by have := hset1.out; rw [set_snoc1] at this; exact this) (HB1.out.setCell (by show w.heap.size ≤ g1; omega) _)
        · have hxn : x.toNat < 128 := by omega
          have hnum : numB (-9223372036854775808) = fr ++ [UInt8.ofNat (x.toNat % 128 + 128)] := by unfold numB; rw [if_pos hneg, ← hZ.out, topped_lo (by omega), signd_snoc]
          have HN := Lib.hid hnum
          have hset := Lib.hid (HO.out.set fr.length (UInt8.ofNat (x.toNat % 128 + 128)))
          have hhi : ((UInt8.ofNat (x.toNat % 128 + 128)).toNat : Int) = (x.toNat : Int) + 128 := by rw [to_hi]; omega
          have HHI := Lib.hid hhi
          clear hnum hhi
          go_wp2_with fail
          go_ret
          rw [HN.out]
          exact fresh_own (by have := hset.out; rw [set_snoc] at this; unfold bv at this; rw [HHI.out] at this; exact this) (hbel.setCell (by show w.heap.size ≤ g; omega) _)

theorem rnumber_any (n : Int) (w : World) (h0 : -9223372036854775808 ≤ n) (h1 : n ≤ 9223372036854775807) :
    Calls Try.prog 21 #[.int .i64 n] w (Fresh w (numB n)) := by
  by_cases hm : n = -9223372036854775808
  · subst hm; exact rnumber_min w
  · by_cases hn : n < 0
    · exact rnumber_neg n w (by omega) hn
    · exact rnumber_pos n w (by omega) h1
end Go.Proofs.Ytadgaeokiolmmaa
