/-
  The law on digests as texts. Conditions: the roots are laid.
-/
import Derived.Test.YtnmegdhidpkklaaDoorHAwake
import Derived.Stop.BytesEq
namespace Go.Proofs.YtnmegdhidpkklaaDoor
open Go.RowKit

theorem eq_h (xs ys : List UInt8) (hx : xs.length = 32) (hy : ys.length = 32) (w : World) :
    (Op.equalIn 10000 28 (.agg ((nums xs).map (Value.int .u8)).toArray) (.agg ((nums ys).map (Value.int .u8)).toArray)).run Tryd.prog w = .ok (xs == ys) w := by
  obtain ⟨i0, hi, hz0, hz1, hz2⟩ := info_parts info_u8
  rw [nums_bv, nums_bv]
  exact run_equalIn_bytes w 9998 28 5 32 Tryd.underlying28 Tryd.underlying5 (fun w => by simp [sizeOf, typeInfo, hi, hz1]) xs ys hx hy

/-- Are the first i bytes digits, and all of them 64? -/
def gB (s : ByteArray) (i : Nat) : Bool := decide (s.size = 64) && (s.data.toList.take i).all (fun c => decide (0 ≤ posH c))
theorem gB_next {s : ByteArray} {i : Nat} (h : i < s.size) (hg : gB s i = true) : gB s (i + 1) = decide (0 ≤ posH (s[i]'h)) := by
  have ea : s.data.toList[i]? = some (s[i]'h) := Lib.data_getElem? s i h
  unfold gB at hg ⊢
  simp only [Bool.and_eq_true] at hg
  rw [List.take_add_one, ea, List.all_append, hg.1, hg.2]
  simp
theorem gB_good {s : ByteArray} (h : gB s s.size = true) : GoodT s.data.toList := by
  unfold gB at h
  simp only [Bool.and_eq_true, decide_eq_true_eq, List.all_eq_true] at h
  have e : s.data.toList.take s.size = s.data.toList := List.take_of_length_le (Nat.le_refl _)
  rw [e] at h
  exact ⟨h.1, h.2⟩
set_option maxRecDepth 100000 in
set_option maxHeartbeats 3200000 in
theorem htexts_law (bs : List UInt8) (s : ByteArray) (w : World) (hr : Roots w) (hl : bs.length = 32) (hs : s.size ≤ 9223372036854775807) :
    Calls Tryd.prog 6 #[.agg ((nums bs).map (Value.int .u8)).toArray, .string s] w fun e w' => e = .returned (.bool true) ∧ Below w.heap.size w w' := by
  have rA := IRow.new w 28 .u8 (nums bs)
  have bA : Below w.heap.size w (w.alloc (.cells ((nums bs).map (Value.int .u8)).toArray 28)) := (Below.refl _ w).alloc (Nat.le_refl _) _
  have hsz : (nums bs).length = 32 := by rw [nums_length, hl]
  have HI := Lib.hid (show (Tryd.prog.info? 28).map (·.size) = some (nums bs).length by rw [hsz]; exact info_h)
  have HL := Lib.hid (show (List.replicate 32 (0 : Int)).length = (nums bs).length by rw [hsz]; rfl)
  have HLB := Lib.hid hl
  have HR := Lib.hid hr
  clear hsz hr hl
  go_enter Tryd.func6, Tryd.ntmps6
  go_upto_region 1 with fail
  obtain ⟨wA, hwA⟩ : ∃ x, x = w.alloc (.cells ((nums bs).map (Value.int .u8)).toArray 28) := ⟨_, rfl⟩
  rw [← hwA] at rA bA ⊢
  obtain ⟨B0, hB0⟩ : ∃ B0, B0 = w.heap.size := ⟨_, rfl⟩
  rw [← hB0] at rA bA ⊢
  have CA := Lib.hid (hawake_any wA (HR.out.below (by rw [← hB0]; exact bA)))
  have RA := Lib.hid rA
  have BA := Lib.hid bA
  have HB0 := Lib.hid hB0
  clear hwA rA bA hB0
  go_wp2_with fail
  refine CA.out.mono ?_
  rintro e w2 ⟨rfl, hb2⟩
  have R2 := Lib.hid (RA.out.below hb2 RA.out.lt)
  have B2 := Lib.hid (BA.out.trans (hb2.mono (by have := BA.out.size; have := HB0.out; omega)))
  have CT := Lib.hid (htext_any bs w2 HLB.out)
  clear hb2
  go_wp2_with (refine wpList_load_irow rfl 28 (.tmp 2) rfl (g := B0) (t := 28) (k := .u8) (xs := nums bs) rfl R2.out Tryd.underlying28 HI.out ?_)
  refine CT.out.mono ?_
  rintro e w3 ⟨rfl, hb3⟩
  have R3 := Lib.hid (R2.out.below hb3 R2.out.lt)
  have B3 := Lib.hid (B2.out.trans (hb3.mono (by have := B2.out.size; have := HB0.out; omega)))
  obtain ⟨S, hS⟩ : ∃ S : ByteArray, S = ⟨(textB bs).toArray⟩ := ⟨_, rfl⟩
  have hST : S.data.toList = textB bs := by rw [hS]
  have CF := fromText_any S w3
  rw [hST] at CF
  rw [← hS]
  have CFH := Lib.hid CF
  have CRT := fun W => refText_any bs W HLB.out
  simp only [← hS] at CRT
  have CRTH := Lib.hid CRT
  clear hb3 hST CF CRT hS
  go_wp2_with fail
  refine CFH.out.mono ?_
  rintro e w4 ⟨hb4, ⟨hg, rfl⟩ | ⟨hbad, rfl⟩⟩
  rotate_left
  · exact absurd (good_text HLB.out) hbad
  rw [fromB_text]
  unfold digV
  have rC := IRow.new w4 28 .u8 (List.replicate 32 0)
  have RC := Lib.hid rC
  have R4 := Lib.hid (R3.out.below hb4 R3.out.lt)
  have B4 := Lib.hid (B3.out.trans (hb4.mono (by have := B3.out.size; have := HB0.out; omega)))
  clear hb4 hg rC
  go_upto_region 5 with (refine wpList_store_irow rfl 28 (.tmp 6) (.tmp 18) rfl (g := w4.heap.size) (t := 28) (k := .u8) (xs := List.replicate 32 0) (ys := nums bs) rfl rfl RC.out HI.out HL.out ?_)
  change Code.wp _ _ _ _ ((w4.alloc (.cells ((List.replicate 32 (0 : Int)).map (Value.int .u8)).toArray 28)).setRow w4.heap.size ((nums bs).map (Value.int .u8)).toArray)
  obtain ⟨w5, hw5⟩ : ∃ x, x = (w4.alloc (.cells ((List.replicate 32 (0 : Int)).map (Value.int .u8)).toArray 28)).setRow w4.heap.size ((nums bs).map (Value.int .u8)).toArray := ⟨_, rfl⟩
  rw [← hw5]
  have b45 : Below w4.heap.size w4 w5 := by rw [hw5]; exact below_setRow ((Below.refl _ w4).alloc (Nat.le_refl _) _) (Nat.le_refl _) _
  obtain ⟨B1, hB1⟩ : ∃ B1, B1 = w4.heap.size := ⟨_, rfl⟩
  have r5 : IRow w5 B1 28 .u8 (nums bs) := by rw [hw5, hB1]; exact setRow_irow RC.out
  rw [← hB1]
  have R5 := Lib.hid r5
  have R50 := Lib.hid (R4.out.below b45 R4.out.lt)
  have B5 := Lib.hid (B4.out.trans (b45.mono (by have := B4.out.size; have := HB0.out; omega)))
  have HEQ := Lib.hid (fun W => eq_h bs bs HLB.out HLB.out W)
  clear hw5 b45 hB1 r5 RC
  try dsimp only [Act.put]
  go_wp2_with (refine wpList_load_irow rfl 28 (.tmp 2) rfl (g := B0) (t := 28) (k := .u8) (xs := nums bs) rfl R50.out Tryd.underlying28 HI.out ?_)
  refine (CRTH.out _).mono ?_
  rintro e w6 ⟨rfl, hb6⟩
  have R6 := Lib.hid (R5.out.below hb6 R5.out.lt)
  have R60 := Lib.hid (R50.out.below hb6 R50.out.lt)
  have B6 := Lib.hid (B5.out.trans (hb6.mono (by have := B5.out.size; have := HB0.out; omega)))
  have CF2 := Lib.hid (fromText_any s w6)
  have heq := HEQ.out
  simp only [beq_self_eq_true] at heq
  clear hb6
  go_wp2_with (first
    | (refine wpList_load_irow_g rfl 28 (.tmp 6) rfl (g := B1) (t := 28) (k := .u8) (xs := nums bs) rfl R6.out Tryd.underlying28 HI.out ?_)
    | (refine wpList_load_irow_g rfl 28 (.tmp 2) rfl (g := B0) (t := 28) (k := .u8) (xs := nums bs) rfl R60.out Tryd.underlying28 HI.out ?_))
  clear heq
  refine CF2.out.mono ?_
  rintro e w7 ⟨hb7, ⟨hg, rfl⟩ | ⟨hbad, rfl⟩⟩
  · unfold digV
    have hsz : (nums (fromB s.data.toList)).length = 32 := by rw [nums_length, fromB_length hg.1]
    have HI2 := Lib.hid (show (Tryd.prog.info? 28).map (·.size) = some (nums (fromB s.data.toList)).length by rw [hsz]; exact info_h)
    have HL2 := Lib.hid (show (List.replicate 32 (0 : Int)).length = (nums (fromB s.data.toList)).length by rw [hsz]; rfl)
    have RC := Lib.hid (IRow.new w7 28 .u8 (List.replicate 32 0))
    have R7 := Lib.hid (setRow_irow (ys := nums (fromB s.data.toList)) RC.out)
    have B7 := Lib.hid (B6.out.trans ((hb7.trans ((below_setRow ((Below.refl _ w7).alloc (Nat.le_refl _) (.cells ((List.replicate 32 (0 : Int)).map (Value.int .u8)).toArray 28)) (Nat.le_refl _) ((nums (fromB s.data.toList)).map (Value.int .u8)).toArray).mono hb7.size)).mono (by have := B6.out.size; have := HB0.out; omega)))
    have CT2 := Lib.hid (htext_any (fromB s.data.toList) ((w7.alloc (.cells ((List.replicate 32 (0 : Int)).map (Value.int .u8)).toArray 28)).setRow w7.heap.size ((nums (fromB s.data.toList)).map (Value.int .u8)).toArray) (by rw [fromB_length hg.1]))
    have hss : (⟨(textB (fromB s.data.toList)).toArray⟩ : ByteArray) = s := by rw [text_fromB hg]
    rw [hss] at CT2
    have h64 : s.size = 64 := hg.1
    have hd : ((s.size : Int) == 64) = true := by rw [h64]; rfl
    clear hb7 hsz hss hg h64
    go_wp2_with (first
      | (refine wpList_store_irow rfl 28 (.tmp 8) (.tmp 36) rfl (g := w7.heap.size) (t := 28) (k := .u8) (xs := List.replicate 32 0) (ys := nums (fromB s.data.toList)) rfl rfl RC.out HI2.out HL2.out ?_)
      | (refine wpList_load_irow rfl 28 (.tmp 8) rfl (g := w7.heap.size) (t := 28) (k := .u8) (xs := nums (fromB s.data.toList)) rfl R7.out Tryd.underlying28 HI2.out ?_))
    refine CT2.out.mono ?_
    rintro e w8 ⟨rfl, hb8⟩
    have B8 := Lib.hid (B7.out.trans (hb8.mono (by have := B7.out.size; have := HB0.out; omega)))
    clear hb8
    go_wp2_with fail
    go_ret
    exact ⟨rfl, by rw [← HB0.out]; exact B8.out⟩
  · unfold digV
    rw [nums_zero]
    have hsz : (List.replicate 32 (0 : Int)).length = 32 := by rw [List.length_replicate]
    have HI2 := Lib.hid (show (Tryd.prog.info? 28).map (·.size) = some (List.replicate 32 (0 : Int)).length by rw [hsz]; exact info_h)
    have RC := Lib.hid (IRow.new w7 28 .u8 (List.replicate 32 0))
    have B7 := Lib.hid (B6.out.trans (hb7.mono (by have := B6.out.size; have := HB0.out; omega)))
    have HBAD := Lib.hid hbad
    clear hb7 hsz hbad
    go_upto_region 8 with (refine wpList_store_irow rfl 28 (.tmp 8) (.tmp 36) rfl (g := w7.heap.size) (t := 28) (k := .u8) (xs := List.replicate 32 0) (ys := List.replicate 32 0) rfl rfl RC.out HI2.out rfl ?_)
    change Code.wp _ _ _ _ ((w7.alloc (.cells ((List.replicate 32 (0 : Int)).map (Value.int .u8)).toArray 28)).setRow w7.heap.size ((List.replicate 32 (0 : Int)).map (Value.int .u8)).toArray)
    obtain ⟨w8, hw8⟩ : ∃ x, x = (w7.alloc (.cells ((List.replicate 32 (0 : Int)).map (Value.int .u8)).toArray 28)).setRow w7.heap.size ((List.replicate 32 (0 : Int)).map (Value.int .u8)).toArray := ⟨_, rfl⟩
    rw [← hw8]
    have R8 := Lib.hid (show IRow w8 w7.heap.size 28 .u8 (List.replicate 32 0) by rw [hw8]; exact setRow_irow RC.out)
    have B8 := Lib.hid (B7.out.trans ((show Below w7.heap.size w7 w8 by rw [hw8]; exact below_setRow ((Below.refl _ w7).alloc (Nat.le_refl _) _) (Nat.le_refl _) _).mono (by have := B7.out.size; have := HB0.out; omega)))
    obtain ⟨G2, hG2⟩ : ∃ G2, G2 = w7.heap.size := ⟨_, rfl⟩
    rw [← hG2] at R8 ⊢
    have hse : ((s.size : Int) == 64) = decide (s.size = 64) := by rw [Bool.eq_iff_iff]; simp; omega
    clear hw8 RC hG2
    try dsimp only [Act.put]
    go_wp2_with fail
    go_loop [9, 10] (fun gv jv => ∃ i : Nat, i ≤ s.size ∧ jv = .int .i64 i ∧ gv = .bool (gB s i)) (fun _ jv => s.size - (intOf jv).toNat)
    case atStart => exact ⟨0, by omega, rfl, by simp [gB]⟩
    case round =>
      obtain ⟨i, hi, rfl, rfl⟩ := hrel
      obtain ⟨g, hg⟩ : ∃ g, g = gB s i := ⟨_, rfl⟩
      rw [← hg]
      cases g
      · have HEND := Lib.hid (fun W => eq_h (List.replicate 32 0) (List.replicate 32 0) (by simp) (by simp) W)
        clear hg
        have heq0 := HEND.out
        simp only [beq_self_eq_true] at heq0
        have heq : ∀ W, (Op.equalIn 10000 28 (.agg #[.int .u8 0, .int .u8 0, .int .u8 0, .int .u8 0, .int .u8 0, .int .u8 0, .int .u8 0, .int .u8 0, .int .u8 0, .int .u8 0, .int .u8 0, .int .u8 0, .int .u8 0, .int .u8 0, .int .u8 0, .int .u8 0, .int .u8 0, .int .u8 0, .int .u8 0, .int .u8 0, .int .u8 0, .int .u8 0, .int .u8 0, .int .u8 0, .int .u8 0, .int .u8 0, .int .u8 0, .int .u8 0, .int .u8 0, .int .u8 0, .int .u8 0, .int .u8 0]) (.agg #[.int .u8 0, .int .u8 0, .int .u8 0, .int .u8 0, .int .u8 0, .int .u8 0, .int .u8 0, .int .u8 0, .int .u8 0, .int .u8 0, .int .u8 0, .int .u8 0, .int .u8 0, .int .u8 0, .int .u8 0, .int .u8 0, .int .u8 0, .int .u8 0, .int .u8 0, .int .u8 0, .int .u8 0, .int .u8 0, .int .u8 0, .int .u8 0, .int .u8 0, .int .u8 0, .int .u8 0, .int .u8 0, .int .u8 0, .int .u8 0, .int .u8 0, .int .u8 0])).run Tryd.prog W = .ok true W := heq0
        clear heq0
        by_cases hlt : i < s.size
        · go_wp2_with (refine wpList_load_irow_g rfl 28 (.tmp 8) rfl (g := G2) (t := 28) (k := .u8) (xs := List.replicate 32 0) rfl R8.out Tryd.underlying28 HI2.out ?_)
          go_ret
          exact ⟨rfl, by rw [← HB0.out]; exact B8.out⟩
        · go_wp2_with (refine wpList_load_irow_g rfl 28 (.tmp 8) rfl (g := G2) (t := 28) (k := .u8) (xs := List.replicate 32 0) rfl R8.out Tryd.underlying28 HI2.out ?_)
          go_ret
          exact ⟨rfl, by rw [← HB0.out]; exact B8.out⟩
      · by_cases hlt : i < s.size
        · have hn := gB_next hlt hg.symm
          have hpe := posH_eq (s[i]'hlt)
          unfold posV at hpe
          have HN := Lib.hid hn
          have HPE := Lib.hid hpe
          clear hn hpe hg
          by_cases t1 : 48 ≤ (s[i]'hlt).toNat
          · by_cases t2 : (s[i]'hlt).toNat ≤ 57
            · have d_48_q : decide (48 ≤ (s[i]'hlt).toNat) = true := decide_eq_true (by omega)
              have d_q_57 : decide ((s[i]'hlt).toNat ≤ 57) = true := decide_eq_true (by omega)
              go_wp2_with fail
              refine ⟨⟨i + 1, by omega, by go_num, ?_⟩, by simp [intOf]; omega⟩
              rw [HN.out, HPE.out]
              refine congrArg Value.bool ?_
              rw [Bool.eq_iff_iff]
              simp only [Bool.or_eq_true, Bool.and_eq_true, decide_eq_true_eq, reduceCtorEq, true_iff, false_iff]
              split <;> (try split) <;> omega
            · by_cases t3 : 97 ≤ (s[i]'hlt).toNat
              · by_cases t4 : (s[i]'hlt).toNat ≤ 102
                · have d_48_q : decide (48 ≤ (s[i]'hlt).toNat) = true := decide_eq_true (by omega)
                  have d_q_57 : decide ((s[i]'hlt).toNat ≤ 57) = false := decide_eq_false (by omega)
                  have d_97_q : decide (97 ≤ (s[i]'hlt).toNat) = true := decide_eq_true (by omega)
                  have d_q_102 : decide ((s[i]'hlt).toNat ≤ 102) = true := decide_eq_true (by omega)
                  go_wp2_with fail
                  refine ⟨⟨i + 1, by omega, by go_num, ?_⟩, by simp [intOf]; omega⟩
                  rw [HN.out, HPE.out]
                  refine congrArg Value.bool ?_
                  rw [Bool.eq_iff_iff]
                  simp only [Bool.or_eq_true, Bool.and_eq_true, decide_eq_true_eq, reduceCtorEq, true_iff, false_iff]
                  split <;> (try split) <;> omega
                · have d_48_q : decide (48 ≤ (s[i]'hlt).toNat) = true := decide_eq_true (by omega)
                  have d_q_57 : decide ((s[i]'hlt).toNat ≤ 57) = false := decide_eq_false (by omega)
                  have d_97_q : decide (97 ≤ (s[i]'hlt).toNat) = true := decide_eq_true (by omega)
                  have d_q_102 : decide ((s[i]'hlt).toNat ≤ 102) = false := decide_eq_false (by omega)
                  go_wp2_with fail
                  refine ⟨⟨i + 1, by omega, by go_num, ?_⟩, by simp [intOf]; omega⟩
                  rw [HN.out, HPE.out]
                  refine congrArg Value.bool ?_
                  rw [Bool.eq_iff_iff]
                  simp only [Bool.or_eq_true, Bool.and_eq_true, decide_eq_true_eq, reduceCtorEq, true_iff, false_iff]
                  split <;> (try split) <;> omega
              · have d_48_q : decide (48 ≤ (s[i]'hlt).toNat) = true := decide_eq_true (by omega)
                have d_q_57 : decide ((s[i]'hlt).toNat ≤ 57) = false := decide_eq_false (by omega)
                have d_97_q : decide (97 ≤ (s[i]'hlt).toNat) = false := decide_eq_false (by omega)
                go_wp2_with fail
                refine ⟨⟨i + 1, by omega, by go_num, ?_⟩, by simp [intOf]; omega⟩
                rw [HN.out, HPE.out]
                refine congrArg Value.bool ?_
                rw [Bool.eq_iff_iff]
                simp only [Bool.or_eq_true, Bool.and_eq_true, decide_eq_true_eq, reduceCtorEq, true_iff, false_iff]
                split <;> (try split) <;> omega
          · have d_48_q : decide (48 ≤ (s[i]'hlt).toNat) = false := decide_eq_false (by omega)
            have d_97_q : decide (97 ≤ (s[i]'hlt).toNat) = false := decide_eq_false (by omega)
            go_wp2_with fail
            refine ⟨⟨i + 1, by omega, by go_num, ?_⟩, by simp [intOf]; omega⟩
            rw [HN.out, HPE.out]
            refine congrArg Value.bool ?_
            rw [Bool.eq_iff_iff]
            simp only [Bool.or_eq_true, Bool.and_eq_true, decide_eq_true_eq, reduceCtorEq, true_iff, false_iff]
            split <;> (try split) <;> omega
        · obtain rfl : i = s.size := by omega
          exact absurd (gB_good hg.symm) HBAD.out
end Go.Proofs.YtnmegdhidpkklaaDoor
