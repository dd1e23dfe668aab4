/-
  The reference's Bits and Limit. Conditions: none.
-/
import Derived.Test.YtgkocmljnoambaaDoorNAwk
namespace Go.Proofs.YtgkocmljnoambaaDoor
open Go.RowKit

/-- The first k of three digits. -/
def mk3 (n f : Nat) : Nat → Nat
  | 0 => 0
  | k + 1 => mk3 n f k * 256 + dgz n (f + k)
theorem mk3_three (n f : Nat) : mk3 n f 3 = three n f := by
  unfold three
  simp only [mk3, Nat.add_zero]
  omega
theorem mk3_lt (n f : Nat) : ∀ k, k ≤ 2 → mk3 n f k < 65536 := by
  intro k hk
  have h0 := dgz_lt n f
  have h1 := dgz_lt n (f + 1)
  obtain rfl | rfl | rfl : k = 0 ∨ k = 1 ∨ k = 2 := by omega
  · simp [mk3]
  · simp only [mk3, Nat.add_zero]; omega
  · simp only [mk3, Nat.add_zero]; omega
set_option maxRecDepth 100000 in
set_option maxHeartbeats 3200000 in
theorem refBits_any (n f : Nat) (w : World) (hf : LZ n f) :
    Calls Tryd.prog 10 #[numV n] w fun e w' => e = .returned (.int .u32 (bitsR n f : Nat)) ∧ Below w.heap.size w w' := by
  obtain ⟨R, hR⟩ : ∃ R, R = bitsR n f := ⟨_, rfl⟩
  rw [← hR]
  have HRR := Lib.hid hR
  have r1 := IRow.new w 23 .u8 (num n)
  obtain ⟨W, hW⟩ : ∃ W, w.alloc (.cells (numA n) 23) = W := ⟨_, rfl⟩
  change IRow (w.alloc (.cells (numA n) 23)) _ _ _ _ at r1
  have bA : Below w.heap.size w W := by rw [← hW]; exact (Below.refl _ w).alloc (Nat.le_refl _) _
  rw [hW] at r1
  have hfl := hf.le
  have HF := Lib.hid hf
  have R1 := Lib.hid r1
  have HB := Lib.hid bA
  have HW := Lib.hid hW
  clear hR r1 bA hW hf
  unfold numV
  go_enter Tryd.func10, Tryd.ntmps10
  go_upto_block 0 with fail
  rw [HW.out]
  refine wp_block ?_
  go_loop [3] (fun kv => ∃ k : Nat, k ≤ f ∧ kv = .int .i64 k) (fun kv => 32 - (intOf kv).toNat)
  case atStart => exact ⟨0, by omega, rfl⟩
  case round =>
    obtain ⟨k, hk, rfl⟩ := hrel
    by_cases hlt : k < f
    · have hk32 : k < 32 := by omega
      have hcell : W.cell? ⟨w.heap.size, k, none⟩ = some (.int .u8 0) := by
        have h := R1.out.cell (num_at n hk32)
        rw [HF.out.zero k hlt] at h
        exact h
      go_wp2_with fail
      exact ⟨⟨k + 1, by omega, by go_num⟩, by simp [intOf]; omega⟩
    · obtain rfl : k = f := by omega
      obtain ⟨D, hD⟩ : ∃ D, D = mk3 n k 3 := ⟨_, rfl⟩
      have hD3 : D = three n k := by rw [hD]; exact mk3_three n k
      have hDl : D < 16777216 := by rw [hD3]; exact three_lt n k
      have HD := Lib.hid hD
      have HD3 := Lib.hid hD3
      clear hD hD3 hlt hk
      obtain ⟨S, hS⟩ : ∃ S : Nat, (32 : Int) - (k : Int) = S := ⟨32 - k, by omega⟩
      have HS := Lib.hid hS
      have hS32 : S ≤ 32 := by omega
      by_cases h32 : k = 32
      · have hk32 : ¬ k < 32 := by omega
        have H32 := Lib.hid h32
        clear h32
        go_wp2_with fail
        go_loop [6, 5] (fun qv mv => ∃ q : Nat, q ≤ 3 ∧ qv = .int .i64 q ∧ mv = .int .u32 ((mk3 n k q : Nat) : Int)) (fun qv _ => 3 - (intOf qv).toNat)
        case atStart => exact ⟨0, by omega, rfl, rfl⟩
        case round =>
          obtain ⟨q, hq, rfl, rfl⟩ := hrel
          by_cases hq3 : q < 3
          · have hml := mk3_lt n k q (by omega)
            have hnx : mk3 n k (q + 1) = mk3 n k q * 256 + dgz n (k + q) := rfl
            obtain ⟨M, hM⟩ : ∃ M, M = mk3 n k q := ⟨_, rfl⟩
            rw [← hM] at hml hnx ⊢
            by_cases hin : k + q < 32
            · exact absurd hin (by omega)
            · have hdz : dgz n (k + q) = 0 := by unfold dgz; rw [if_neg hin]
              rw [hdz, Nat.add_zero] at hnx
              have HNX := Lib.hid hnx
              clear hnx hdz hM
              go_wp2_with fail
              exact ⟨⟨q + 1, by omega, by go_num, by rw [HNX.out]; go_num⟩, by simp [intOf]; omega⟩
          · obtain rfl : q = 3 := by omega
            rw [← HD.out]
            by_cases hbig : 8388608 ≤ D
            · have hr : R = (S + 1) * 16777216 + D / 256 := by
                rw [HRR.out]
                unfold bitsR
                rw [← HD3.out, if_pos hbig, show 33 - k = S + 1 by have := HS.out; omega]
              have HR := Lib.hid hr
              have w1 : IntKind.u32.wrap ((S : Int) + 1) = (S : Int) + 1 := u32_in (by omega) (by omega)
              have hd : decide ((8388608 : Int) ≤ (D : Int)) = true := decide_eq_true (by omega)
              clear hr hbig
              go_wp2_with fail
              go_ret
              exact ⟨by rw [HR.out]; exact congrArg (fun z => Ending.returned (.int .u32 z)) (by simp), HB.out⟩
            · have hr : R = S * 16777216 + D := by
                rw [HRR.out]
                unfold bitsR
                rw [← HD3.out, if_neg hbig, show 32 - k = S by have := HS.out; omega]
              have HR := Lib.hid hr
              have w1 : IntKind.u32.wrap (S : Int) = S := u32_in (by omega) (by omega)
              have hd : decide ((8388608 : Int) ≤ (D : Int)) = false := decide_eq_false (by omega)
              clear hr hbig
              go_wp2_with fail
              go_ret
              exact ⟨by rw [HR.out]; exact congrArg (fun z => Ending.returned (.int .u32 z)) (by simp), HB.out⟩
      · have hk32 : k < 32 := by omega
        have hcell : W.cell? ⟨w.heap.size, k, none⟩ = some (.int .u8 ((dg n k : Nat) : Int)) := R1.out.cell (num_at n hk32)
        have hne : (((dg n k : Nat) : Int) == 0) = false := by have := HF.out.stop hk32; simp; omega
        go_wp2_with fail
        go_loop [6, 5] (fun qv mv => ∃ q : Nat, q ≤ 3 ∧ qv = .int .i64 q ∧ mv = .int .u32 ((mk3 n k q : Nat) : Int)) (fun qv _ => 3 - (intOf qv).toNat)
        case atStart => exact ⟨0, by omega, rfl, rfl⟩
        case round =>
          obtain ⟨q, hq, rfl, rfl⟩ := hrel
          by_cases hq3 : q < 3
          · have hml := mk3_lt n k q (by omega)
            have hnx : mk3 n k (q + 1) = mk3 n k q * 256 + dgz n (k + q) := rfl
            obtain ⟨M, hM⟩ : ∃ M, M = mk3 n k q := ⟨_, rfl⟩
            rw [← hM] at hml hnx ⊢
            by_cases hin : k + q < 32
            · have hdz : dgz n (k + q) = dg n (k + q) := by unfold dgz; rw [if_pos hin]
              have hdl := dg_lt n (k + q)
              rw [hdz] at hnx
              have hc2 : W.cell? ⟨w.heap.size, k + q, none⟩ = some (.int .u8 ((dg n (k + q) : Nat) : Int)) := R1.out.cell (num_at n hin)
              obtain ⟨d, hd⟩ : ∃ d, d = dg n (k + q) := ⟨_, rfl⟩
              rw [← hd] at hc2 hdl hnx
              have HNX := Lib.hid hnx
              clear hnx hdz hd hM
              go_wp2_with fail
              exact ⟨⟨q + 1, by omega, by go_num, by rw [HNX.out]; go_num⟩, by simp [intOf]; omega⟩
            · have hdz : dgz n (k + q) = 0 := by unfold dgz; rw [if_neg hin]
              rw [hdz, Nat.add_zero] at hnx
              have HNX := Lib.hid hnx
              clear hnx hdz hM
              go_wp2_with fail
              exact ⟨⟨q + 1, by omega, by go_num, by rw [HNX.out]; go_num⟩, by simp [intOf]; omega⟩
          · obtain rfl : q = 3 := by omega
            rw [← HD.out]
            by_cases hbig : 8388608 ≤ D
            · have hr : R = (S + 1) * 16777216 + D / 256 := by
                rw [HRR.out]
                unfold bitsR
                rw [← HD3.out, if_pos hbig, show 33 - k = S + 1 by have := HS.out; omega]
              have HR := Lib.hid hr
              have w1 : IntKind.u32.wrap ((S : Int) + 1) = (S : Int) + 1 := u32_in (by omega) (by omega)
              have hd : decide ((8388608 : Int) ≤ (D : Int)) = true := decide_eq_true (by omega)
              clear hr hbig
              go_wp2_with fail
              go_ret
              exact ⟨by rw [HR.out]; exact congrArg (fun z => Ending.returned (.int .u32 z)) (by simp), HB.out⟩
            · have hr : R = S * 16777216 + D := by
                rw [HRR.out]
                unfold bitsR
                rw [← HD3.out, if_neg hbig, show 32 - k = S by have := HS.out; omega]
              have HR := Lib.hid hr
              have w1 : IntKind.u32.wrap (S : Int) = S := u32_in (by omega) (by omega)
              have hd : decide ((8388608 : Int) ≤ (D : Int)) = false := decide_eq_false (by omega)
              clear hr hbig
              go_wp2_with fail
              go_ret
              exact ⟨by rw [HR.out]; exact congrArg (fun z => Ending.returned (.int .u32 z)) (by simp), HB.out⟩

theorem num_limit : num limitN = [127, 255, 255] ++ List.replicate 29 0 := by decide +kernel
set_option maxRecDepth 100000 in
set_option maxHeartbeats 1600000 in
theorem refLimit_any (w : World) : Calls Tryd.prog 24 #[] w fun e w' => e = .returned (numV limitN) ∧ Below w.heap.size w w' := by
  have hZ := zero_row w 23
  obtain ⟨W, hW⟩ : ∃ W, w.alloc (.cells zeroA 23) = W := ⟨_, rfl⟩
  have hB : Below w.heap.size w W := by rw [← hW]; exact (Below.refl _ w).alloc (Nat.le_refl _) _
  rw [hW] at hZ
  have HW := Lib.hid hW
  have QZ := Lib.hid hZ
  have QF := Lib.hid (setRow_irow (ys := num limitN) hZ)
  have HBF := Lib.hid (below_setRow (g := w.heap.size) hB (Nat.le_refl _) (numA limitN))
  clear hW hZ hB
  have e1 : numA limitN = ((([127, 255, 255] ++ List.replicate 29 0 : List Int)).map (Value.int .u8)).toArray := by unfold numA; rw [num_limit]
  have hs1 : (Tryd.prog.info? 23).map (·.size) = some ([127, 255, 255] ++ List.replicate 29 (0 : Int)).length := info_32
  have HS1 := Lib.hid hs1
  have E1 := Lib.hid e1
  obtain ⟨n, hn⟩ : ∃ n, n = limitN := ⟨_, rfl⟩
  rw [← hn] at QF HBF E1 ⊢
  clear e1 hs1 hn
  go_enter Tryd.func24, Tryd.ntmps24
  go_upto_region 1 with fail
  change Code.wp _ _ _ _ (w.alloc (.cells zeroA 23))
  rw [HW.out]
  go_wp2_with (refine wpList_store_irow rfl 23 (.tmp 0) (.tmp 1) rfl (g := w.heap.size) (t := 23) (k := .u8) (xs := num 0) (ys := [127, 255, 255] ++ List.replicate 29 0) rfl rfl QZ.out HS1.out (by rw [num_length]; rfl) ?_)
  have hw : W.setRow w.heap.size ((([127, 255, 255] ++ List.replicate 29 0 : List Int)).map (Value.int .u8)).toArray = W.setRow w.heap.size (numA n) := by rw [E1.out]
  rw [hw]
  refine bodyPost_ret (v := numV n) ?_ rfl ⟨rfl, HBF.out⟩
  exact results_cell_row Tryd.results24 _ _ w.heap.size 23 (numA n) (0, 0) _ rfl QF.out Tryd.underlying23 rfl (size_numA n)
end Go.Proofs.YtgkocmljnoambaaDoor
