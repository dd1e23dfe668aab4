/-
  The laws' fixed fact. Conditions: none.
-/
import Derived.Test.YtgkocmljnoambaaDoorNSub
namespace Go.Proofs.YtgkocmljnoambaaDoor
open Go.RowKit

def awN : Nat := 65535 * 256 ^ 26
theorem aw_tgt : tgtB 486604799 = true := by decide +kernel
theorem aw_num : tgtN 486604799 = awN := by decide +kernel
theorem aw_4 : dg awN 4 = 255 := by decide +kernel
theorem aw_6 : dg awN 6 = 0 := by decide +kernel
theorem aw_lz : LZ awN 4 := ⟨by omega, by
  have h : ∀ i : Fin 4, dg awN i.val = 0 := by decide +kernel
  exact fun i hi => h ⟨i, hi⟩, fun _ => by rw [aw_4]; omega⟩
theorem aw_bits : bitsR awN 4 = 486604799 := by decide +kernel
theorem aw_sub : subN 300 = 1250000000 := by decide +kernel
set_option maxRecDepth 100000 in
set_option maxHeartbeats 3200000 in
theorem awake_any (w : World) : Calls Tryd.prog 6 #[] w fun e w' => e = .returned (.bool true) ∧ Below w.heap.size w w' := by
  have CT := target_any 486604799 w (by omega)
  rw [aw_num, show tgtErr 486604799 = .int .i64 0 by unfold tgtErr; rw [aw_tgt]; rfl] at CT
  have CTH := Lib.hid CT
  have CB := fun W => bits_any awN 4 W aw_lz
  rw [aw_bits] at CB
  have CBH := Lib.hid CB
  have CS := fun W => subsidy_any 300 W (by omega)
  rw [aw_sub] at CS
  have CSH := Lib.hid CS
  have CH := Lib.hid (fun W => header_any 0 (List.replicate 32 0) (List.replicate 32 0) 0 0 0 W (by simp) (by simp) (by omega) (by omega) (by omega) (by omega) (by omega) (by omega))
  have hzv : ∀ W, (zeroValue 48).run Tryd.prog W = .ok (.agg (hdCells 0 (List.replicate 32 0) (List.replicate 32 0) 0 0 0).toArray) W := fun _ => by kernel_rfl
  have h4 := aw_4
  have h6 := aw_6
  obtain ⟨n, hn⟩ : ∃ n, n = awN := ⟨_, rfl⟩
  rw [← hn] at CTH CBH h4 h6
  have H4 := Lib.hid h4
  have H6 := Lib.hid h6
  clear CT CB CS hn h4 h6
  unfold numV at CTH CBH
  go_enter Tryd.func6, Tryd.ntmps6
  go_wp2_with fail
  refine CTH.out.mono ?_
  rintro e w2 ⟨rfl, hb2⟩
  have hz := zero_row w2 24
  have HZ := Lib.hid hz
  have hbz : Below w.heap.size w (w2.alloc (.cells zeroA 24)) := hb2.alloc hb2.size _
  have HBZ := Lib.hid hbz
  have HSZ := Lib.hid hb2.size
  clear hz hb2 hbz
  go_upto_region 2 with (refine wpList_store_irow rfl 24 (.tmp 1) (.tmp 5) rfl (g := w2.heap.size) (t := 24) (k := .u8) (xs := num 0) (ys := num n) rfl rfl HZ.out (size_numN n) (same_length _ _) ?_)
  change Code.wp _ _ _ _ ((w2.alloc (.cells zeroA 24)).setRow w2.heap.size (numA n))
  obtain ⟨w3, hw3⟩ : ∃ w3, w3 = (w2.alloc (.cells zeroA 24)).setRow w2.heap.size (numA n) := ⟨_, rfl⟩
  have q3 : IRow w3 w2.heap.size 24 .u8 (num n) := by rw [hw3]; exact setRow_irow HZ.out
  have b3 : Below w.heap.size w w3 := by rw [hw3]; exact below_setRow HBZ.out HSZ.out _
  rw [← hw3]
  have c4 : w3.cell? ⟨w2.heap.size, 4, none⟩ = some (.int .u8 255) := by
    have h := q3.cell (num_at n (i := 4) (by omega))
    rw [H4.out] at h
    exact h
  have c6 : w3.cell? ⟨w2.heap.size, 6, none⟩ = some (.int .u8 0) := by
    have h := q3.cell (num_at n (i := 6) (by omega))
    rw [H6.out] at h
    exact h
  have Q3 := Lib.hid q3
  have B3 := Lib.hid b3
  clear hw3 q3 b3
  try dsimp only [Act.put]
  go_wp2_with (refine wpList_load_irow_g rfl 24 (.tmp 1) rfl (g := w2.heap.size) (t := 24) (k := .u8) (xs := num n) rfl Q3.out Tryd.underlying24 (size_numN n) ?_)
  refine (CBH.out _).mono ?_
  rintro e w4 ⟨rfl, hb4⟩
  have B4 := Lib.hid (B3.out.trans (hb4.mono B3.out.size))
  clear hb4
  go_wp2_with (go_at_call 19; refine (CSH.out _).mono ?_; rintro e w' ⟨rfl, rfl⟩)
  refine (CH.out _).mono ?_
  rintro e w5 ⟨A, c, rfl, hown, hb5⟩
  have B5 := Lib.hid (B4.out.trans (hb5.mono B4.out.size))
  rw [headB_length (by simp) (by simp)]
  clear hown hb5
  go_wp2_with fail
  go_ret
  exact ⟨rfl, B5.out⟩
end Go.Proofs.YtgkocmljnoambaaDoor
