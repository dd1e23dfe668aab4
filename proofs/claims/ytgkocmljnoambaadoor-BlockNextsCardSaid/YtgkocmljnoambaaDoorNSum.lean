/-
  The reference's Sum: two numbers added, or the greatest one. Conditions: none.
-/
import Derived.Test.YtgkocmljnoambaaDoorNLess
namespace Go.Proofs.YtgkocmljnoambaaDoor
open Go.RowKit

/-- The sum, or the greatest number. -/
def sumN (a b : Nat) : Nat := if a + b < top then a + b else top - 1
theorem sumN_lt (a b : Nat) : sumN a b < top := by
  have := top_pos
  unfold sumN
  split <;> omega
theorem sumN_comm (a b : Nat) : sumN a b = sumN b a := by unfold sumN; rw [Nat.add_comm]
/-- Every byte is 255. -/
theorem dg_max (i : Nat) (hi : i < 32) : dg (top - 1) i = 255 := by
  have h1 : top - 1 = (256 ^ (i + 1) - 1) * 256 ^ (31 - i) + (256 ^ (31 - i) - 1) := by
    unfold top
    have h2 : (256 : Nat) ^ 32 = 256 ^ (i + 1) * 256 ^ (31 - i) := by rw [← Nat.pow_add]; congr 1; omega
    have h3 : 0 < (256 : Nat) ^ (31 - i) := Nat.pow_pos (by omega)
    have h4 : 0 < (256 : Nat) ^ (i + 1) := Nat.pow_pos (by omega)
    rw [h2, Nat.sub_mul]
    have h5 : 1 * 256 ^ (31 - i) ≤ 256 ^ (i + 1) * 256 ^ (31 - i) := Nat.mul_le_mul_right _ h4
    omega
  unfold dg
  have h3 : 0 < (256 : Nat) ^ (31 - i) := Nat.pow_pos (by omega)
  rw [h1, Nat.add_comm, Nat.add_mul_div_right _ _ h3, Nat.div_eq_of_lt (by omega), Nat.pow_succ]
  have h4 : 0 < (256 : Nat) ^ i := Nat.pow_pos (by omega)
  omega

theorem zero_row (w : World) (t : TypeId) : IRow (w.alloc (.cells zeroA t)) w.heap.size t .u8 (num 0) := by
  rw [← numA_zero]
  exact IRow.new w t .u8 (num 0)
theorem zero_row_at (w : World) (t : TypeId) {g : Nat} (hg : w.heap.size = g) : IRow (w.alloc (.cells zeroA t)) g t .u8 (num 0) := hg ▸ zero_row w t
/-- Two boxes, and n rows of zeros. -/
theorem boxes3 (w : World) (t : TypeId) (a b : Nat) : ∃ W, ((w.alloc (.cells (numA a) t)).alloc (.cells (numA b) t)).alloc (.cells zeroA t) = W ∧ IRow W w.heap.size t .u8 (num a) ∧ IRow W (w.heap.size + 1) t .u8 (num b) ∧
    IRow W (w.heap.size + 2) t .u8 (num 0) ∧ Below w.heap.size w W ∧ W.heap.size = w.heap.size + 3 := by
  obtain ⟨r1, r2, bA⟩ := boxes2 w t (num a) (num b) .u8
  have hs : ((w.alloc (.cells (numA a) t)).alloc (.cells (numA b) t)).heap.size = w.heap.size + 2 := by simp
  exact ⟨_, rfl, r1.alloc _, r2.alloc _, zero_row_at _ _ hs, bA.alloc bA.size _, by simp⟩
theorem boxes4 (w : World) (t : TypeId) (a b : Nat) : ∃ W, (((w.alloc (.cells (numA a) t)).alloc (.cells (numA b) t)).alloc (.cells zeroA t)).alloc (.cells zeroA t) = W ∧ IRow W w.heap.size t .u8 (num a) ∧ IRow W (w.heap.size + 1) t .u8 (num b) ∧
    IRow W (w.heap.size + 2) t .u8 (num 0) ∧ IRow W (w.heap.size + 3) t .u8 (num 0) ∧ Below w.heap.size w W ∧ W.heap.size = w.heap.size + 4 := by
  obtain ⟨W, hW, r1, r2, r3, bA, hs⟩ := boxes3 w t a b
  rw [hW]
  exact ⟨_, rfl, r1.alloc _, r2.alloc _, r3.alloc _, zero_row_at _ _ hs, bA.alloc (by omega) _, by simp [hs]⟩
theorem size_num (n : Nat) : (Tryd.prog.info? 23).map (·.size) = some (num n).length := by rw [num_length]; exact info_32
theorem size_numA (n : Nat) : (Tryd.prog.info? 23).map (·.size) = some (numA n).size := by
  unfold numA
  rw [List.size_toArray, List.length_map, num_length]
  exact info_32
theorem same_length (a b : Nat) : (num a).length = (num b).length := by rw [num_length, num_length]
theorem i64_cast {n : Int} (h0 : 0 ≤ n) (h1 : n ≤ 9223372036854775807) : IntKind.i64.wrap n = n := IntWalk.i64_in _ (by omega)

/-- What the loop of Sum keeps. -/
structure SumAt (w : World) (a b j : Nat) (c : Nat) (wr : World) : Prop where
  r1 : IRow wr w.heap.size 23 .u8 (num a)
  r2 : IRow wr (w.heap.size + 1) 23 .u8 (num b)
  r3 : IRow wr (w.heap.size + 2) 23 .u8 (num 0)
  r4 : IRow wr (w.heap.size + 3) 23 .u8 (mixd (a + b) 0 j)
  bel : Below w.heap.size w wr
  eq : up (a + b) j = up a j + up b j + c
  small : c ≤ 1

set_option maxRecDepth 100000 in
set_option maxHeartbeats 3200000 in
theorem sum_any (a b : Nat) (w : World) (ha : a < top) (hb : b < top) :
    Calls Tryd.prog 16 #[numV a, numV b] w fun e w' => e = .returned (numV (sumN a b)) ∧ Below w.heap.size w w' := by
  obtain ⟨W, hW, r1, r2, r3, r4, bA, hs⟩ := boxes4 w 23 a b
  have S0 := Lib.hid (show SumAt w a b 0 0 W from ⟨r1, r2, r3, by rw [mixd_zero]; exact r4, bA, by rw [up_zero, up_zero, up_zero]; rfl, by omega⟩)
  have HT := Lib.hid (up_full ha)
  have HT2 := Lib.hid (up_full hb)
  clear ha hb r1 r2 r3 r4 bA hs
  obtain ⟨n, hn⟩ : ∃ n, n = sumN a b := ⟨_, rfl⟩
  rw [← hn]
  have HN := Lib.hid hn
  clear hn
  unfold numV
  go_enter Tryd.func16, Tryd.ntmps16
  go_wp2_with fail
  change Code.wp _ _ _ _ ((((w.alloc (.cells (numA a) 23)).alloc (.cells (numA b) 23)).alloc (.cells zeroA 23)).alloc (.cells zeroA 23))
  rw [hW, show w.heap.size + 2 + 1 = w.heap.size + 3 from rfl]
  clear hW
  go_loopw [7, 6] (fun iv cv wr => ∃ j c : Nat, j ≤ 32 ∧ iv = .int .i64 ((31 : Int) - j) ∧ cv = .int .i64 c ∧ SumAt w a b j c wr) (fun iv _ _ => (intOf iv + 1).toNat)
  case atStart => exact ⟨0, 0, by omega, rfl, rfl, S0.out⟩
  case round =>
    obtain ⟨j, c, hj, rfl, rfl, hS⟩ := hrel
    by_cases hlt : j < 32
    · obtain ⟨i, hi⟩ : ∃ i : Nat, i + j = 31 := ⟨31 - j, by omega⟩
      have ei : (31 : Int) - (j : Int) = (i : Int) := by omega
      have hi32 : i < 32 := by omega
      have c1 : wr.cell? ⟨w.heap.size, i, none⟩ = some (.int .u8 ((dg a i : Nat) : Int)) := hS.r1.cell (num_at a hi32)
      have c2 : wr.cell? ⟨w.heap.size + 1, i, none⟩ = some (.int .u8 ((dg b i : Nat) : Int)) := hS.r2.cell (num_at b hi32)
      have c4 : wr.cell? ⟨w.heap.size + 3, i, none⟩ = some (.int .u8 0) := hS.r4.cell (by rw [mixd_at _ _ _ hi32 (by omega)]; simp [dg])
      have f4 : wr.frozen? ⟨w.heap.size + 3, i, none⟩ = false := hS.r4.free i
      have hda := dg_lt a i
      have hdb := dg_lt b i
      have hc := hS.small
      obtain ⟨da, hda2⟩ : ∃ da, da = dg a i := ⟨_, rfl⟩
      obtain ⟨db, hdb2⟩ : ∃ db, db = dg b i := ⟨_, rfl⟩
      rw [← hda2] at c1 hda
      rw [← hdb2] at c2 hdb
      have w1 : IntKind.i64.wrap (da : Int) = da := i64_cast (by omega) (by omega)
      have w2 : IntKind.i64.wrap (db : Int) = db := i64_cast (by omega) (by omega)
      have w3 : IntKind.i64.wrap ((da : Int) + db) = (da : Int) + db := i64_cast (by omega) (by omega)
      have w4 : IntKind.i64.wrap ((da : Int) + db + c) = (da : Int) + db + c := i64_cast (by omega) (by omega)
      have HS := Lib.hid hS
      have HDA := Lib.hid hda2
      have HDB := Lib.hid hdb2
      have EI := Lib.hid ei
      rw [ei]
      clear ei hS hda2 hdb2
      go_wp2_with fail
      go_quiet (fail)
      go_wp2_with fail
      go_roundw
      case rel =>
        have hda2 := HDA.out
        have hdb2 := HDB.out
        have hei := EI.out
        have hn := carry_next HS.out.eq
        rw [up_mod _ hi, up_mod a hi, up_mod b hi, ← up_succ, ← up_succ, ← up_succ, ← hda2, ← hdb2] at hn
        refine ⟨j + 1, (da + db + c) / 256, by omega, by congr 1; omega, by go_num, (HS.out.r1.drewN _).setCell (by show w.heap.size + 3 ≠ _; omega) _, (HS.out.r2.drewN _).setCell (by show w.heap.size + 3 ≠ _; omega) _, (HS.out.r3.drewN _).setCell (by show w.heap.size + 3 ≠ _; omega) _, ?_, (below_drewN HS.out.bel _).setCell (by show _ ≤ w.heap.size + 3; omega) _, hn.2, by omega⟩
        rw [← mixd_set (a + b) 0 hi (z := ((da : Int) + db + c) % 256) (by rw [hn.1]; omega)]
        exact (HS.out.r4.drewN _).set i _
      case measure => simp [intOf]
    · obtain rfl : j = 32 := by omega
      have he := hS.eq
      rw [HT.out, HT2.out] at he
      by_cases hc : 0 < c
      · have hcd : decide ((0 : Int) < (c : Int)) = true := decide_eq_true (by omega)
        have hres : sumN a b = top - 1 := by
          unfold sumN
          rw [if_neg]
          intro h
          have := up_full h
          omega
        have HR := Lib.hid hres
        have HS := Lib.hid hS
        clear hres hS he
        go_wp2_with fail
        go_loopw [9] (fun iv wr2 => ∃ k : Nat, k ≤ 32 ∧ iv = .int .i64 k ∧ IRow wr2 (w.heap.size + 2) 23 .u8 (num 0) ∧ IRow wr2 (w.heap.size + 3) 23 .u8 (mixu (top - 1) (a + b) k) ∧ Below w.heap.size w wr2) (fun iv _ => 32 - (intOf iv).toNat)
        case atStart => exact ⟨0, by omega, rfl, HS.out.r3, by rw [mixu_zero, ← mixd_full (a + b) 0]; exact HS.out.r4, HS.out.bel⟩
        case round =>
          obtain ⟨k, hk, rfl, q3, q4, hbel⟩ := hrel
          by_cases hlt : k < 32
          · have c4 : wr.cell? ⟨w.heap.size + 3, k, none⟩ = some (.int .u8 ((dg (a + b) k : Nat) : Int)) := q4.cell (mixu_at _ _ _ hlt (by omega))
            have f4 : wr.frozen? ⟨w.heap.size + 3, k, none⟩ = false := q4.free k
            have Q3 := Lib.hid q3
            have Q4 := Lib.hid q4
            have HB := Lib.hid hbel
            clear q3 q4 hbel
            go_wp2_with fail
            go_roundw
            case rel =>
              refine ⟨k + 1, by omega, by go_num, Q3.out.setCell (by show w.heap.size + 3 ≠ _; omega) _, ?_, HB.out.setCell (by show _ ≤ w.heap.size + 3; omega) _⟩
              rw [← mixu_set (top - 1) (a + b) hlt (z := 255) (by rw [dg_max k hlt]; rfl)]
              exact Q4.out.set k _
            case measure => simp [intOf]; try omega
          · obtain rfl : k = 32 := by omega
            have q4' : IRow wr (w.heap.size + 3) 23 .u8 (num n) := by rw [HN.out, HR.out, ← mixu_full (top - 1) (a + b)]; exact q4
            have Q3 := Lib.hid q3
            have Q4 := Lib.hid q4'
            have QF := Lib.hid (setRow_irow (ys := num n) q3)
            have HB := Lib.hid (below_setRow hbel (g := w.heap.size + 2) (by omega) (numA n))
            clear q3 q4 q4' hbel HR
            go_wp2_with (first
              | (refine wpList_load_irow rfl 23 (.tmp 5) rfl (g := w.heap.size + 3) (t := 23) (k := .u8) (xs := num n) rfl Q4.out Tryd.underlying23 (size_num n) ?_)
              | (refine wpList_store_irow rfl 23 (.tmp 4) (.tmp 40) rfl (g := w.heap.size + 2) (t := 23) (k := .u8) (xs := num 0) (ys := num n) rfl rfl Q3.out (size_num n) (same_length _ _) ?_))
            refine bodyPost_ret (v := numV n) ?_ rfl ⟨rfl, HB.out⟩
            exact results_cell_row Tryd.results16 _ _ (w.heap.size + 2) 23 (numA n) (0, 0) _ rfl QF.out Tryd.underlying23 rfl (size_numA n)
      · have hc0 : c = 0 := by omega
        have hres : sumN a b = a + b := by
          unfold sumN
          rw [if_pos (up_top (by omega))]
        have q4' : IRow wr (w.heap.size + 3) 23 .u8 (num n) := by rw [HN.out, hres, ← mixd_full (a + b) 0]; exact hS.r4
        have Q3 := Lib.hid hS.r3
        have Q4 := Lib.hid q4'
        have QF := Lib.hid (setRow_irow (ys := num n) hS.r3)
        have HB := Lib.hid (below_setRow hS.bel (g := w.heap.size + 2) (by omega) (numA n))
        clear q4' hS hres he hc
        subst hc0
        go_wp2_with (first
          | (refine wpList_load_irow rfl 23 (.tmp 5) rfl (g := w.heap.size + 3) (t := 23) (k := .u8) (xs := num n) rfl Q4.out Tryd.underlying23 (size_num n) ?_)
          | (refine wpList_store_irow rfl 23 (.tmp 4) (.tmp 40) rfl (g := w.heap.size + 2) (t := 23) (k := .u8) (xs := num 0) (ys := num n) rfl rfl Q3.out (size_num n) (same_length _ _) ?_))
        refine bodyPost_ret (v := numV n) ?_ rfl ⟨rfl, HB.out⟩
        exact results_cell_row Tryd.results16 _ _ (w.heap.size + 2) 23 (numA n) (0, 0) _ rfl QF.out Tryd.underlying23 rfl (size_numA n)
end Go.Proofs.YtgkocmljnoambaaDoor
