/-
  block.invert: 2^256 divided by a number, bit by bit. Conditions: the number is 2 to 2^255.
-/
import Derived.Test.YtgkocmljnoambaaDoorNInvB
namespace Go.Proofs.YtgkocmljnoambaaDoor
open Go.RowKit

theorem cmp_nonneg {a b : Nat} (h : b ≤ a) : 0 ≤ cmpN a b := by
  unfold cmpN
  rw [if_neg (by omega)]
  split <;> omega
theorem cmp_neg {a b : Nat} (h : ¬b ≤ a) : cmpN a b < 0 := by
  unfold cmpN
  rw [if_pos (by omega)]
  omega
theorem sum_twice {a : Nat} (h : 2 * a < top) : sumN a a = 2 * a := by
  unfold sumN
  rw [if_pos (by omega)]
  omega
theorem irow_start {w : World} {G d : Nat} {W : World} (h2 : 2 ≤ d) (h : InvAt w G d 0 1 W) : InvAt w G d (2 ^ 0 / d) (2 ^ 0 % d) W := by
  rw [Nat.pow_zero, Nat.div_eq_of_lt (by omega), Nat.mod_eq_of_lt (by omega)]
  exact h
theorem inv_next {d k : Nat} (hd : 2 * d ≤ top) (h2 : 2 ≤ d) (hk : k < 256) :
    2 * (2 ^ k / d) < top ∧ 2 * (2 ^ k % d) < top ∧ 2 ^ (k + 1) / d = 2 * (2 ^ k / d) + (if d ≤ 2 * (2 ^ k % d) then 1 else 0) ∧ 2 ^ (k + 1) % d = 2 * (2 ^ k % d) - (if d ≤ 2 * (2 ^ k % d) then d else 0)
      ∧ 2 * (2 ^ k / d) + 1 < top ∧ d < top := by
  have h3 : 2 ^ (k + 1) ≤ top := by rw [← two_top]; exact Nat.pow_le_pow_right (by omega) (by omega)
  have h4 : 2 ^ k / d ≤ 2 ^ k / 2 := Nat.div_le_div_left h2 (by omega)
  have h5 : 2 ^ k / 2 * 2 ≤ 2 ^ k := Nat.div_mul_le_self _ _
  have h6 := Nat.mod_lt (2 ^ k) (show 0 < d by omega)
  rw [Nat.pow_succ] at h3
  obtain ⟨e1, e2⟩ := pow_div_next (d := d) (k := k) (by omega)
  have h7 : 4 ≤ top := by have : (2:Nat) ≤ 2 ^ 256 := by decide +kernel
                          omega
  exact ⟨by omega, by omega, e1, e2, by omega, by omega⟩

set_option maxRecDepth 100000 in
set_option maxHeartbeats 12800000 in
theorem invert_any (d : Nat) (w : World) (h2 : 2 ≤ d) (hd : 2 * d ≤ top) :
    Calls Tryd.prog 26 #[numV d] w fun e w' => e = .returned (numV (top / d)) ∧ Below w.heap.size w w' := by
  obtain ⟨n, hn⟩ : ∃ n, n = top / d := ⟨_, rfl⟩
  rw [← hn]
  have HN := Lib.hid hn
  have r1 := (IRow.new w 24 .u8 (num d)).alloc (.cells zeroA 24)
  have r2 := zero_row_at (w.alloc (.cells (numA d) 24)) 24 (g := w.heap.size + 1) (by simp)
  obtain ⟨W, hW⟩ : ∃ W, (w.alloc (.cells (numA d) 24)).alloc (.cells zeroA 24) = W := ⟨_, rfl⟩
  change IRow ((w.alloc (.cells (numA d) 24)).alloc (.cells zeroA 24)) _ _ _ _ at r1
  rw [hW] at r1 r2
  have bA : Below w.heap.size w W := by rw [← hW]; exact ((Below.refl _ w).alloc (Nat.le_refl _) _).alloc (by simp) _
  have hs : W.heap.size = w.heap.size + 2 := by rw [← hW]; simp
  have R1 := Lib.hid r1
  have R2 := Lib.hid r2
  have HBA := Lib.hid bA
  have HW := Lib.hid hW
  have HS := Lib.hid hs
  have HD := Lib.hid hd
  have H2 := Lib.hid h2
  clear r1 r2 bA hW hn hs hd h2
  unfold numV
  go_enter Tryd.func26, Tryd.ntmps26
  go_wp2_with fail
  change Calls _ _ _ ((w.alloc (.cells (numA d) 24)).alloc (.cells zeroA 24)) _
  rw [HW.out]
  refine (one_any _).mono ?_
  rintro e w1 ⟨rfl, hb1⟩
  have s1 := hb1.size
  have hGs : w.heap.size + 2 ≤ w1.heap.size := by have := HS.out; omega
  have z3 := (zero_row w1 24).alloc (.cells zeroA 24)
  have z4 := zero_row_at (w1.alloc (.cells zeroA 24)) 24 (g := w1.heap.size + 1) (by simp)
  have a1 := ((R1.out.below hb1 R1.out.lt).alloc (.cells zeroA 24)).alloc (.cells zeroA 24)
  have a2 := ((R2.out.below hb1 R2.out.lt).alloc (.cells zeroA 24)).alloc (.cells zeroA 24)
  have b1 := (((HBA.out.trans (hb1.mono HBA.out.size)).alloc (o := .cells zeroA 24) (by omega))).alloc (o := .cells zeroA 24) (by simp; omega)
  have z4' := z4.setRow (g2 := w1.heap.size) (by omega) zeroA
  have Z3 := Lib.hid z3
  have Z4 := Lib.hid z4'
  have i3 := (irow_as (setRow_irow (ys := List.replicate 32 0) z3) num_zero).setRow (g2 := w1.heap.size + 1) (by omega) (numA 1)
  have i4 := setRow_irow (ys := num 1) z4'
  have i1 := (a1.setRow (g2 := w1.heap.size) (by omega) zeroA).setRow (g2 := w1.heap.size + 1) (by omega) (numA 1)
  have i2 := (a2.setRow (g2 := w1.heap.size) (by omega) zeroA).setRow (g2 := w1.heap.size + 1) (by omega) (numA 1)
  have i5 := below_setRow (g := w1.heap.size + 1) (below_setRow (g := w1.heap.size) b1 (by omega) zeroA) (by omega) (numA 1)
  have I0 := Lib.hid (show InvAt w w1.heap.size d 0 1 ((((w1.alloc (.cells zeroA 24)).alloc (.cells zeroA 24)).setRow w1.heap.size zeroA).setRow (w1.heap.size + 1) (numA 1)) from ⟨i1, i2, i3, i4, i5⟩)
  have HGS := Lib.hid hGs
  clear hb1 s1 z3 z4 z4' a1 a2 b1 i1 i2 i3 i4 i5 hGs
  go_upto_region 2 with (first
    | (refine wpList_store_irow rfl 24 (.tmp 3) (.tmp 5) rfl (g := w1.heap.size) (t := 24) (k := .u8) (xs := num 0) (ys := List.replicate 32 0) rfl rfl Z3.out info_num (by rw [num_length]; rfl) ?_)
    | (refine wpList_store_irow rfl 24 (.tmp 4) (.tmp 6) rfl (g := w1.heap.size + 1) (t := 24) (k := .u8) (xs := num 0) (ys := num 1) rfl rfl Z4.out (size_numN 1) (same_length _ _) ?_))
  change Code.wp _ _ _ _ ((((w1.alloc (.cells zeroA 24)).alloc (.cells zeroA 24)).setRow w1.heap.size zeroA).setRow (w1.heap.size + 1) (numA 1))
  obtain ⟨W2, hW2⟩ : ∃ W2, W2 = (((w1.alloc (.cells zeroA 24)).alloc (.cells zeroA 24)).setRow w1.heap.size zeroA).setRow (w1.heap.size + 1) (numA 1) := ⟨_, rfl⟩
  rw [← hW2] at I0 ⊢
  obtain ⟨G, hG⟩ : ∃ G, G = w1.heap.size := ⟨_, rfl⟩
  rw [← hG] at I0 HGS ⊢
  clear hW2 hG Z3 Z4
  try dsimp only [Act.put]
  go_wp2_with fail
  have hd0 : 0 < d := by have := H2.out; omega
  have HD0 := Lib.hid hd0
  clear hd0
  go_loopw [7] (fun j wr => ∃ k : Nat, k ≤ 256 ∧ j = .int .i64 k ∧ InvAt w G d (2 ^ k / d) (2 ^ k % d) wr) (fun j _ => 256 - (intOf j).toNat)
  case atStart => exact ⟨0, by omega, rfl, irow_start H2.out I0.out⟩
  case round =>
    obtain ⟨k, hk, rfl, hI⟩ := hrel
    have HI := Lib.hid hI
    clear hI
    by_cases hk6 : k < 256
    · obtain ⟨q, hq⟩ : ∃ q, q = 2 ^ k / d := ⟨_, rfl⟩
      obtain ⟨r, hr⟩ : ∃ r, r = 2 ^ k % d := ⟨_, rfl⟩
      rw [← hq, ← hr] at HI
      have hnx := inv_next (k := k) HD.out H2.out hk6
      rw [← hq, ← hr] at hnx
      have HNX := Lib.hid hnx
      clear hnx hq hr
      have c1 : ∀ W, Calls Tryd.prog 15 #[.agg (numA q), .agg (numA q)] W fun e w' => e = .returned (.agg (numA (2 * q))) ∧ Below W.heap.size W w' := fun W => by
        have := add_any q q W (by have := HNX.out.1; omega) (by have := HNX.out.1; omega)
        rwa [sum_twice HNX.out.1] at this
      have c2 : ∀ W, Calls Tryd.prog 15 #[.agg (numA r), .agg (numA r)] W fun e w' => e = .returned (.agg (numA (2 * r))) ∧ Below W.heap.size W w' := fun W => by
        have := add_any r r W (by have := HNX.out.2.1; omega) (by have := HNX.out.2.1; omega)
        rwa [sum_twice HNX.out.2.1] at this
      have C1 := Lib.hid c1
      have C2 := Lib.hid c2
      clear c1 c2
      have hlt : ((k : Int) < 256) := by omega
      go_upto_region 4 with fail
      refine inv4_any G d q r (2 * q) (2 * r) w _ HGS.out HI.out C1.out C2.out _ _ _ _ _ _ _ _ _ _ _ _ _ _ _ _ _ _ _ _ _ _ _ _ (fun v9 v10 v11 v12 v13 v14 w' r4 => ?_)
      clear HI C1 C2
      have HR4 := Lib.hid r4
      have hC : ∀ W, Calls Tryd.prog 13 #[.agg (numA (2 * r)), .agg (numA d)] W fun e w' => e = .returned (.int .i64 (cmpN (2 * r) d)) ∧ Below W.heap.size W w' := fun W => cmp_any (2 * r) d W HNX.out.2.1 HNX.out.2.2.2.2.2
      obtain ⟨c, hc⟩ : ∃ c, c = cmpN (2 * r) d := ⟨_, rfl⟩
      rw [← hc] at hC
      have HC := Lib.hid hC
      clear r4 hC
      by_cases hge : d ≤ 2 * r
      · have hc0 : 0 ≤ c := by rw [hc]; exact cmp_nonneg hge
        obtain ⟨q3, hq3⟩ : ∃ q3, q3 = 2 * q + 1 := ⟨_, rfl⟩
        obtain ⟨r3, hr3⟩ : ∃ r3, r3 = 2 * r - d := ⟨_, rfl⟩
        have c3 : ∀ W, Calls Tryd.prog 15 #[.agg (numA (2 * q)), numV 1] W fun e w' => e = .returned (.agg (numA q3)) ∧ Below W.heap.size W w' := fun W => by
          have := add_any (2 * q) 1 W HNX.out.1 (by have := HNX.out.2.2.2.2.1; omega)
          rwa [sumN, if_pos HNX.out.2.2.2.2.1, ← hq3] at this
        have c4 : ∀ W, Calls Tryd.prog 43 #[.agg (numA (2 * r)), .agg (numA d)] W fun e w' => e = .returned (.agg (numA r3)) ∧ Below W.heap.size W w' := fun W => by
          have := subtract_any (2 * r) d W hge
          rwa [← hr3] at this
        have HFIN := Lib.hid (show 2 ^ (k + 1) / d = q3 ∧ 2 ^ (k + 1) % d = r3 by
          have h1 := HNX.out.2.2.1
          have h2 := HNX.out.2.2.2.1
          rw [if_pos hge] at h1 h2
          rw [hq3, hr3]
          exact ⟨h1, h2⟩)
        have C3 := Lib.hid c3
        have C4 := Lib.hid c4
        clear c3 c4 hq3 hr3 HNX hge hc
        go_upto_region 6 with (first
          | (refine wpList_load_irow rfl 24 (.tmp 4) rfl (g := G + 1) (t := 24) (k := .u8) (xs := num (2 * r)) rfl HR4.out.rr Tryd.underlying24 (size_numN (2 * r)) ?_)
          | (refine wpList_load_irow rfl 24 (.tmp 1) rfl (g := w.heap.size) (t := 24) (k := .u8) (xs := num d) rfl HR4.out.rd Tryd.underlying24 (size_numN d) ?_))
        refine (HC.out _).mono ?_
        rintro e w5 ⟨rfl, hb5⟩
        have HR5 := Lib.hid (HR4.out.below hb5)
        clear hb5
        go_upto_region 6 with fail
        refine inv6_any G d (2 * q) (2 * r) q3 r3 w _ HGS.out HR5.out C3.out C4.out _ _ _ _ _ _ _ _ _ _ _ _ _ _ _ _ _ _ _ _ _ _ _ _ (fun v19 v20 v21 v22 v23 v24 w6 r6 => ?_)
        have HR6 := Lib.hid (show InvAt w G d (2 ^ (k + 1) / d) (2 ^ (k + 1) % d) w6 by rw [HFIN.out.1, HFIN.out.2]; exact r6)
        clear r6 HR5 HR4 C3 C4 HFIN
        go_wp2_with fail
        exact ⟨⟨k + 1, by omega, by go_num, HR6.out⟩, by simp [intOf]; omega⟩
      · have hc0 : c < 0 := by rw [hc]; exact cmp_neg hge
        have HFIN := Lib.hid (show 2 ^ (k + 1) / d = 2 * q ∧ 2 ^ (k + 1) % d = 2 * r by
          have h1 := HNX.out.2.2.1
          have h2 := HNX.out.2.2.2.1
          rw [if_neg hge] at h1 h2
          exact ⟨h1, h2⟩)
        clear HNX hge hc
        go_wp2_with (first
          | (refine wpList_load_irow rfl 24 (.tmp 4) rfl (g := G + 1) (t := 24) (k := .u8) (xs := num (2 * r)) rfl HR4.out.rr Tryd.underlying24 (size_numN (2 * r)) ?_)
          | (refine wpList_load_irow rfl 24 (.tmp 1) rfl (g := w.heap.size) (t := 24) (k := .u8) (xs := num d) rfl HR4.out.rd Tryd.underlying24 (size_numN d) ?_))
        refine (HC.out _).mono ?_
        rintro e w5 ⟨rfl, hb5⟩
        have HR5 := Lib.hid (show InvAt w G d (2 ^ (k + 1) / d) (2 ^ (k + 1) % d) w5 by rw [HFIN.out.1, HFIN.out.2]; exact HR4.out.below hb5)
        clear hb5 HR4 HFIN
        go_wp2_with fail
        exact ⟨⟨k + 1, by omega, by go_num, HR5.out⟩, by simp [intOf]; omega⟩
    · have hk256 : k = 256 := by omega
      subst hk256
      have HE := Lib.hid (show InvAt w G d n (2 ^ 256 % d) wr by rw [HN.out, ← two_top]; exact HI.out)
      have QF := Lib.hid (setRow_irow (ys := num n) HE.out.rz)
      have HB := Lib.hid (below_setRow (g := w.heap.size + 1) HE.out.bel (by omega) (numA n))
      clear HI
      go_wp2_with (first
        | (refine wpList_load_irow rfl 24 (.tmp 3) rfl (g := G) (t := 24) (k := .u8) (xs := num n) rfl HE.out.rg Tryd.underlying24 (size_numN n) ?_)
        | (refine wpList_store_irow rfl 24 (.tmp 2) (.tmp 26) rfl (g := w.heap.size + 1) (t := 24) (k := .u8) (xs := num 0) (ys := num n) rfl rfl HE.out.rz (size_numN n) (same_length _ _) ?_))
      refine bodyPost_ret (v := numV n) ?_ rfl ⟨rfl, HB.out⟩
      exact results_cell_row Tryd.results26 _ _ (w.heap.size + 1) 24 (numA n) (0, 0) _ rfl QF.out Tryd.underlying24 rfl (size_numNA n)
end Go.Proofs.YtgkocmljnoambaaDoor
