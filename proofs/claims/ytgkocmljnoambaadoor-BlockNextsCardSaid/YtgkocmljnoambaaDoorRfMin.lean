/-
  The reference's minus and double. Conditions: what is taken away is no greater; what is doubled stays below 2^256.
-/
import Derived.Test.YtgkocmljnoambaaDoorRfBits
namespace Go.Proofs.YtgkocmljnoambaaDoor
open Go.RowKit

/-- What the loop of minus keeps. -/
structure MinAt (w : World) (a b j : Nat) (c : Nat) (wr : World) : Prop where
  r1 : IRow wr w.heap.size 23 .u8 (mixd (a - b) a j)
  r2 : IRow wr (w.heap.size + 1) 23 .u8 (num b)
  r3 : IRow wr (w.heap.size + 2) 23 .u8 (num 0)
  bel : Below w.heap.size w wr
  eq : up a j = up (a - b) j + up b j + c
  small : c ≤ 1

set_option maxRecDepth 100000 in
set_option maxHeartbeats 3200000 in
theorem minus_any (a b : Nat) (w : World) (hba : b ≤ a) :
    Calls Tryd.prog 29 #[numV a, numV b] w fun e w' => e = .returned (numV (a - b)) ∧ Below w.heap.size w w' := by
  obtain ⟨n, hn⟩ : ∃ n, n = a - b := ⟨_, rfl⟩
  obtain ⟨W, hW, r1, r2, r3, bA, hs⟩ := boxes3 w 23 a b
  have S0 := Lib.hid (show MinAt w a b 0 0 W from ⟨by rw [mixd_zero]; exact r1, r2, r3, bA, by rw [up_zero, up_zero, up_zero]; omega, by omega⟩)
  rw [← hn]
  have HN := Lib.hid hn
  clear r1 r2 r3 bA hs hn
  unfold numV
  go_enter Tryd.func29, Tryd.ntmps29
  go_wp2_with fail
  change Code.wp _ _ _ _ (((w.alloc (.cells (numA a) 23)).alloc (.cells (numA b) 23)).alloc (.cells zeroA 23))
  rw [hW]
  clear hW
  go_loopw [6, 5] (fun iv cv wr => ∃ j c : Nat, j ≤ 32 ∧ iv = .int .i64 ((31 : Int) - j) ∧ cv = .int .i64 c ∧ MinAt w a b j c wr) (fun iv _ _ => (intOf iv + 1).toNat)
  case atStart => exact ⟨0, 0, by omega, rfl, rfl, S0.out⟩
  case round =>
    obtain ⟨j, c, hj, rfl, rfl, hS⟩ := hrel
    by_cases hlt : j < 32
    · obtain ⟨i, hi⟩ : ∃ i : Nat, i + j = 31 := ⟨31 - j, by omega⟩
      have ei : (31 : Int) - (j : Int) = (i : Int) := by omega
      have hi32 : i < 32 := by omega
      have c1 : wr.cell? ⟨w.heap.size, i, none⟩ = some (.int .u8 ((dg a i : Nat) : Int)) := hS.r1.cell (mixd_at _ _ _ hi32 (by omega))
      have c2 : wr.cell? ⟨w.heap.size + 1, i, none⟩ = some (.int .u8 ((dg b i : Nat) : Int)) := hS.r2.cell (num_at b hi32)
      have f1 : wr.frozen? ⟨w.heap.size, i, none⟩ = false := hS.r1.free i
      have hda := dg_lt a i
      have hdb := dg_lt b i
      have hc := hS.small
      obtain ⟨c', hc', hx, hn'⟩ := borrow_next hS.eq hc
      rw [up_mod (a - b) hi, up_mod a hi, up_mod b hi] at hx
      rw [← up_succ, ← up_succ, ← up_succ] at hn'
      have hds := dg_lt (a - b) i
      obtain ⟨da, hda2⟩ : ∃ da, da = dg a i := ⟨_, rfl⟩
      obtain ⟨db, hdb2⟩ : ∃ db, db = dg b i := ⟨_, rfl⟩
      obtain ⟨ds, hds2⟩ : ∃ ds, ds = dg (a - b) i := ⟨_, rfl⟩
      rw [← hda2] at c1 hda hx
      rw [← hdb2] at c2 hdb hx
      rw [← hds2] at hds hx
      have w1 : IntKind.i64.wrap (da : Int) = da := i64_cast (by omega) (by omega)
      have w2 : IntKind.i64.wrap (db : Int) = db := i64_cast (by omega) (by omega)
      have w3 : IntKind.i64.wrap ((da : Int) - db) = (da : Int) - db := IntWalk.i64_in _ (by omega)
      have w4 : IntKind.i64.wrap ((da : Int) - db - c) = (ds : Int) - 256 * c' := by rw [← hx]; exact IntWalk.i64_in _ (by omega)
      have hrow := mixd_set (a - b) a hi (z := (ds : Int)) (by rw [hds2])
      have HROW := Lib.hid hrow
      have HNX := Lib.hid hn'
      have HS := Lib.hid hS
      have EI := Lib.hid ei
      rw [ei]
      clear ei hS hda2 hdb2 hds2 hrow hn'
      go_wp2_with fail
      go_quiet (fail)
      rcases Nat.lt_or_ge 0 c' with h1 | h1
      · obtain rfl : c' = 1 := by omega
        have hneg : (ds : Int) - 256 * ((1 : Nat) : Int) < 0 := by omega
        obtain ⟨x, hx2⟩ : ∃ x : Int, x = (ds : Int) - 256 * ((1 : Nat) : Int) := ⟨_, rfl⟩
        have hx3 : x + 256 = (ds : Int) := by omega
        have hx4 : x < 0 := by omega
        have hx5 : -300 < x := by omega
        rw [← hx2]
        clear hx hx2 hneg w4
        go_wp2_with fail
        go_roundw
        case rel =>
          refine ⟨j + 1, 1, by omega, by congr 1; have := EI.out; omega, rfl, ?_, (HS.out.r2.drewN _).setCell (by show w.heap.size ≠ _; omega) _, (HS.out.r3.drewN _).setCell (by show w.heap.size ≠ _; omega) _, (below_drewN HS.out.bel _).setCell (p := ⟨w.heap.size, i, none⟩) (Nat.le_refl _) _, HNX.out, by omega⟩
          rw [← HROW.out]
          exact (HS.out.r1.drewN _).set i _
        case measure => simp [intOf]
      · obtain rfl : c' = 0 := by omega
        have hx3 : (ds : Int) - 256 * ((0 : Nat) : Int) = ds := by omega
        have hx4 : ¬ (ds : Int) < 0 := by omega
        rw [hx3]
        clear hx hx3 w4
        go_wp2_with fail
        go_roundw
        case rel =>
          refine ⟨j + 1, 0, by omega, by congr 1; have := EI.out; omega, rfl, ?_, (HS.out.r2.drewN _).setCell (by show w.heap.size ≠ _; omega) _, (HS.out.r3.drewN _).setCell (by show w.heap.size ≠ _; omega) _, (below_drewN HS.out.bel _).setCell (p := ⟨w.heap.size, i, none⟩) (Nat.le_refl _) _, HNX.out, by omega⟩
          rw [← HROW.out]
          exact (HS.out.r1.drewN _).set i _
        case measure => simp [intOf]
    · obtain rfl : j = 32 := by omega
      have q1 : IRow wr w.heap.size 23 .u8 (num n) := by rw [HN.out, ← mixd_full (a - b) a]; exact hS.r1
      have Q1 := Lib.hid q1
      have Q3 := Lib.hid hS.r3
      have QF := Lib.hid (setRow_irow (ys := num n) hS.r3)
      have HB := Lib.hid (below_setRow hS.bel (g := w.heap.size + 2) (by omega) (numA n))
      clear q1 hS
      go_wp2_with (first
        | (refine wpList_load_irow rfl 23 (.tmp 2) rfl (g := w.heap.size) (t := 23) (k := .u8) (xs := num n) rfl Q1.out Tryd.underlying23 (size_num n) ?_)
        | (refine wpList_store_irow rfl 23 (.tmp 4) (.tmp 31) rfl (g := w.heap.size + 2) (t := 23) (k := .u8) (xs := num 0) (ys := num n) rfl rfl Q3.out (size_num n) (same_length _ _) ?_))
      refine bodyPost_ret (v := numV n) ?_ rfl ⟨rfl, HB.out⟩
      exact results_cell_row Tryd.results29 _ _ (w.heap.size + 2) 23 (numA n) (0, 0) _ rfl QF.out Tryd.underlying23 rfl (size_numA n)

/-- What the loop of double keeps. -/
structure DblAt (w : World) (a s j : Nat) (c : Nat) (wr : World) : Prop where
  r1 : IRow wr w.heap.size 23 .u8 (mixd s a j)
  r3 : IRow wr (w.heap.size + 1) 23 .u8 (num 0)
  bel : Below w.heap.size w wr
  eq : up s j = 2 * up a j + c
  small : c ≤ 1
set_option maxRecDepth 100000 in
set_option maxHeartbeats 3200000 in
theorem double_any (a k : Nat) (w : World) (hk : k ≤ 1) (hs : 2 * a + k < top) :
    Calls Tryd.prog 28 #[numV a, .int .u8 (k : Int)] w fun e w' => e = .returned (.tuple #[numV (2 * a + k), .bool false]) ∧ Below w.heap.size w w' := by
  obtain ⟨n, hn⟩ : ∃ n, n = 2 * a + k := ⟨_, rfl⟩
  rw [← hn] at hs ⊢
  have r1 := (IRow.new w 23 .u8 (num a)).alloc (.cells zeroA 23)
  have r3 := zero_row_at (w.alloc (.cells (numA a) 23)) 23 (g := w.heap.size + 1) (by simp)
  obtain ⟨W, hW⟩ : ∃ W, (w.alloc (.cells (numA a) 23)).alloc (.cells zeroA 23) = W := ⟨_, rfl⟩
  change IRow ((w.alloc (.cells (numA a) 23)).alloc (.cells zeroA 23)) _ _ _ _ at r1
  rw [hW] at r1 r3
  have bA : Below w.heap.size w W := by rw [← hW]; exact ((Below.refl _ w).alloc (Nat.le_refl _) _).alloc (by simp) _
  have S0 := Lib.hid (show DblAt w a n 0 k W from ⟨by rw [mixd_zero]; exact r1, r3, bA, by rw [up_zero, up_zero]; exact hn, hk⟩)
  have HT := Lib.hid (up_full hs)
  have HTA := Lib.hid (up_full (show a < top by omega))
  have HW := Lib.hid hW
  clear r1 r3 bA hW hn hs
  unfold numV
  go_enter Tryd.func28, Tryd.ntmps28
  go_wp2_with fail
  change Code.wp _ _ _ _ ((w.alloc (.cells (numA a) 23)).alloc (.cells zeroA 23))
  rw [HW.out]
  go_loopw [7, 6] (fun iv cv wr => ∃ j c : Nat, j ≤ 32 ∧ iv = .int .i64 ((31 : Int) - j) ∧ cv = .int .u8 c ∧ DblAt w a n j c wr) (fun iv _ _ => (intOf iv + 1).toNat)
  case atStart => exact ⟨0, k, by omega, rfl, rfl, S0.out⟩
  case round =>
    obtain ⟨j, c, hj, rfl, rfl, hS⟩ := hrel
    by_cases hlt : j < 32
    · obtain ⟨i, hi⟩ : ∃ i : Nat, i + j = 31 := ⟨31 - j, by omega⟩
      have ei : (31 : Int) - (j : Int) = (i : Int) := by omega
      have hi32 : i < 32 := by omega
      have c1 : wr.cell? ⟨w.heap.size, i, none⟩ = some (.int .u8 ((dg a i : Nat) : Int)) := hS.r1.cell (mixd_at _ _ _ hi32 (by omega))
      have f1 : wr.frozen? ⟨w.heap.size, i, none⟩ = false := hS.r1.free i
      have hda := dg_lt a i
      have hc := hS.small
      have hn := double_next hS.eq hc
      rw [up_mod _ hi, up_mod a hi, ← up_succ, ← up_succ] at hn
      obtain ⟨da, hda2⟩ : ∃ da, da = dg a i := ⟨_, rfl⟩
      rw [← hda2] at c1 hda hn
      have hrow := fun z hz => mixd_set n a hi (z := z) hz
      have HROW := Lib.hid hrow
      have HNX := Lib.hid hn
      have HS := Lib.hid hS
      have EI := Lib.hid ei
      rw [ei]
      clear ei hS hda2 hrow hn
      go_wp2_with fail
      refine ⟨⟨j + 1, da / 128, by omega, by congr 1; have := EI.out; omega, by go_num, ?_, HS.out.r3.setCell (by show w.heap.size ≠ _; omega) _, HS.out.bel.setCell (p := ⟨w.heap.size, i, none⟩) (Nat.le_refl _) _, HNX.out.2, by omega⟩, by simp [intOf]⟩
      rw [← HROW.out ((da : Int) * 2 % 256 + c) (by rw [HNX.out.1]; omega)]
      exact HS.out.r1.set i _
    · obtain rfl : j = 32 := by omega
      have hc0 : c = 0 := by
        have h := hS.eq
        rw [HT.out, HTA.out] at h
        omega
      subst hc0
      have q1 : IRow wr w.heap.size 23 .u8 (num n) := by rw [← mixd_full n a]; exact hS.r1
      have Q1 := Lib.hid q1
      have Q3 := Lib.hid hS.r3
      have QF := Lib.hid (setRow_irow (ys := num n) hS.r3)
      have HB := Lib.hid (below_setRow hS.bel (g := w.heap.size + 1) (by omega) (numA n))
      clear q1 hS
      go_wp2_with (first
        | (refine wpList_load_irow rfl 23 (.tmp 2) rfl (g := w.heap.size) (t := 23) (k := .u8) (xs := num n) rfl Q1.out Tryd.underlying23 (size_num n) ?_)
        | (refine wpList_store_irow rfl 23 (.tmp 4) (.tmp 27) rfl (g := w.heap.size + 1) (t := 23) (k := .u8) (xs := num 0) (ys := num n) rfl rfl Q3.out (size_num n) (same_length _ _) ?_))
      refine bodyPost_ret (v := .tuple #[numV n, .bool false]) ?_ rfl ⟨rfl, HB.out⟩
      exact results_row_tmp Tryd.results28 _ _ (w.heap.size + 1) 23 (numA n) (0, 0) _ _ rfl rfl QF.out Tryd.underlying23 rfl (size_numA n)
end Go.Proofs.YtgkocmljnoambaaDoor
