/-
  hash.FromText, walked. Conditions: none.
-/
import Derived.Test.YtnmegdhidpkklaaDoorFromT
import Derived.Lib.IndexBytes
namespace Go.Proofs.YtnmegdhidpkklaaDoor
open Go.RowKit

def FromPost (W0 : World) (cs : List UInt8) (e : Ending) (w' : World) : Prop :=
  Below W0.heap.size W0 w' ∧ (GoodT cs ∧ e = .returned (.tuple #[digV (fromB cs), .int .i64 0]) ∨ ¬ GoodT cs ∧ e = .returned (.tuple #[digV (List.replicate 32 0), .int .i64 3]))
theorem nums_zero (n : Nat) : nums (List.replicate n 0) = List.replicate n 0 := by unfold nums; rw [List.map_replicate]; rfl
/-- Behind i rounds. -/
def rowF (cs : List UInt8) (i : Nat) : List UInt8 := List.replicate (32 - i) 0 ++ (decH (cs.take (2 * i))).reverse
theorem rowF_zero (cs : List UInt8) : rowF cs 0 = List.replicate 32 0 := by unfold rowF; simp [decH]
theorem rowF_full {cs : List UInt8} (h : cs.length = 64) : rowF cs 32 = fromB cs := by
  unfold rowF fromB
  rw [List.take_of_length_le (by omega)]
  rfl
theorem rowF_length {cs : List UInt8} {i : Nat} (h : cs.length = 64) (hi : i ≤ 32) : (rowF cs i).length = 32 := by
  unfold rowF
  rw [List.length_append, List.length_reverse, List.length_replicate, decH_length i _ (by rw [List.length_take]; omega)]
  omega
theorem rowF_next {cs : List UInt8} {i : Nat} {a b : UInt8} (h : cs.length = 64) (hi : i < 32) (ha : cs[2 * i]? = some a) (hb : cs[2 * i + 1]? = some b) :
    (rowF cs i).set (31 - i) (b8 (posH a * 16 + posH b)) = rowF cs (i + 1) := by
  have e : cs.take (2 * (i + 1)) = cs.take (2 * i) ++ [a, b] := by
    rw [show 2 * (i + 1) = 2 * i + 1 + 1 by omega, List.take_add_one, List.take_add_one, ha, hb]
    simp
  unfold rowF
  rw [e, decH_snoc i _ _ _ (by rw [List.length_take]; omega), List.reverse_append]
  obtain ⟨m, hm⟩ : ∃ m, 32 - i = m + 1 := ⟨31 - i, by omega⟩
  have em : 31 - i = m := by omega
  have en : 32 - (i + 1) = m := by omega
  rw [hm, em, en, List.replicate_succ', List.append_assoc, List.set_append_right _ _ (by rw [List.length_replicate]; omega), List.length_replicate, Nat.sub_self]
  rfl
set_option maxRecDepth 100000 in
set_option maxHeartbeats 3200000 in
theorem fromText_any (s : ByteArray) (W0 : World) :
    Calls Tryd.prog 28 #[.string s] W0 (FromPost W0 s.data.toList) := by
  have hsl : s.data.toList.length = s.size := rfl
  obtain ⟨Z, hZ⟩ : ∃ Z, Z = ((List.replicate 32 (0 : Int)).map (Value.int .u8)).toArray := ⟨_, rfl⟩
  have rA := IRow.new W0 28 .u8 (List.replicate 32 0)
  have bA : Below W0.heap.size W0 (W0.alloc (.cells ((List.replicate 32 (0 : Int)).map (Value.int .u8)).toArray 28)) := (Below.refl _ W0).alloc (Nat.le_refl _) _
  have sA : (W0.alloc (.cells ((List.replicate 32 (0 : Int)).map (Value.int .u8)).toArray 28)).heap.size = W0.heap.size + 1 := by simp
  go_enter Tryd.func28, Tryd.ntmps28
  go_upto_region 1 with fail
  change Code.wp _ _ _ _ (W0.alloc (.cells ((List.replicate 32 (0 : Int)).map (Value.int .u8)).toArray 28))
  obtain ⟨wA, hwA⟩ : ∃ x, x = W0.alloc (.cells ((List.replicate 32 (0 : Int)).map (Value.int .u8)).toArray 28) := ⟨_, rfl⟩
  rw [← hwA] at rA bA sA ⊢
  have SA := Lib.hid sA
  have rB := IRow.new wA 28 .u8 (List.replicate 32 0)
  have bB : Below wA.heap.size wA (wA.alloc (.cells ((List.replicate 32 (0 : Int)).map (Value.int .u8)).toArray 28)) := (Below.refl _ wA).alloc (Nat.le_refl _) _
  clear hwA sA hZ
  go_upto_region 2 with fail
  change Code.wp _ _ _ _ (wA.alloc (.cells ((List.replicate 32 (0 : Int)).map (Value.int .u8)).toArray 28))
  obtain ⟨wB, hwB⟩ : ∃ x, x = wA.alloc (.cells ((List.replicate 32 (0 : Int)).map (Value.int .u8)).toArray 28) := ⟨_, rfl⟩
  rw [← hwB] at rB bB ⊢
  obtain ⟨B0, hB0⟩ : ∃ B0, B0 = W0.heap.size := ⟨_, rfl⟩
  obtain ⟨B1, hB1⟩ : ∃ B1, B1 = wA.heap.size := ⟨_, rfl⟩
  rw [← hB1] at rB bB ⊢
  rw [← hB0] at rA bA ⊢
  have h10 : B1 = B0 + 1 := by have := SA.out; omega
  have rA2 := rA.below bB (by omega)
  have b2 := bA.trans (bB.mono (by omega : B0 ≤ B1))
  have HSL := Lib.hid hsl
  have RA := Lib.hid rA2
  have RB := Lib.hid rB
  have B2 := Lib.hid b2
  have H10 := Lib.hid h10
  have HB0 := Lib.hid hB0
  have hsz : (List.replicate 32 (0 : Int)).length = 32 := by rw [List.length_replicate]
  have HI := Lib.hid (show (Tryd.prog.info? 28).map (·.size) = some (List.replicate 32 (0 : Int)).length by rw [hsz]; exact info_h)
  clear hwB rB bB hB0 hB1 rA rA2 bA b2 h10 hsl hsz
  by_cases h64 : s.size = 64
  · have hd : ((s.size : Int) != 64) = false := by rw [h64]; rfl
    go_wp2_with fail
    go_loopw [12] (fun j wr => ∃ i : Nat, i ≤ 32 ∧ j = .int .i64 i ∧ IRow wr B1 28 .u8 (nums (rowF s.data.toList i)) ∧ IRow wr B0 28 .u8 (List.replicate 32 0) ∧ Below B0 W0 wr ∧ ∀ c ∈ s.data.toList.take (2 * i), 0 ≤ posH c) (fun j _ => 32 - (intOf j).toNat)
    case atStart => exact ⟨0, by omega, rfl, by rw [rowF_zero, nums_zero]; exact RB.out, RA.out, B2.out, by simp⟩
    case round =>
      obtain ⟨i, hi, rfl, hrow, hres, hbel, hall⟩ := hrel
      by_cases h32 : i < 32
      · obtain ⟨p, hp⟩ : ∃ p, p = 2 * i := ⟨_, rfl⟩
        have ep : 2 * (i : Int) = (p : Int) := by omega
        have b32 : (i : Int) < 32 := by omega
        have p1 : p < s.size := by omega
        have p2 : p + 1 < s.size := by omega
        have ea : s.data.toList[p]? = some (s[p]'p1) := Lib.data_getElem? s p p1
        have eb : s.data.toList[p + 1]? = some (s[p + 1]'p2) := Lib.data_getElem? s (p + 1) p2
        have C1 := fun W => sbyte_any digs ((s[p]'p1).toNat : Int) W
        have C2 := fun W => sbyte_any digs ((s[p + 1]'p2).toNat : Int) W
        simp only [u8_back] at C1 C2
        have l1 := posH_lt (s[p]'p1)
        have l2 := posH_lt (s[p + 1]'p2)
        obtain ⟨q1, hq1⟩ : ∃ q1, q1 = posH (s[p]'p1) := ⟨_, rfl⟩
        obtain ⟨q2, hq2⟩ : ∃ q2, q2 = posH (s[p + 1]'p2) := ⟨_, rfl⟩
        have f1 : Lib.indexByte digs.data.toList (s[p]'p1) = q1 := hq1.symm
        have f2 : Lib.indexByte digs.data.toList (s[p + 1]'p2) = q2 := hq2.symm
        simp only [f1] at C1
        simp only [f2] at C2
        rw [← hq1] at l1
        rw [← hq2] at l2
        have hset := hrow.set (31 - i) (q1 * 16 + q2)
        have hnx := rowF_next (i := i) (by rw [HSL.out]; exact h64) h32 (by rw [← hp]; exact ea) (by rw [← hp]; exact eb)
        rw [← hq1, ← hq2] at hnx
        have C1 := Lib.hid C1
        have C2 := Lib.hid C2
        have HEA := Lib.hid ea
        have HEB := Lib.hid eb
        have HQ1 := Lib.hid hq1
        have HQ2 := Lib.hid hq2
        have HP := Lib.hid hp
        clear hp ea eb hq1 hq2 f1 f2
        by_cases n1 : q1 < 0
        · have d1 : decide (q1 < 0) = true := decide_eq_true n1
          clear hset hnx
          have HFIN := Lib.hid (setRow_irow (ys := List.replicate 32 0) hres)
          have HBF := Lib.hid (below_setRow hbel (Nat.le_refl _) ((List.replicate 32 (0 : Int)).map (Value.int .u8)).toArray)
          have HRES := Lib.hid hres
          have HBAD := Lib.hid (show ¬ GoodT s.data.toList from fun hg => by have := hg.2 _ (List.mem_of_getElem? HEA.out); have := HQ1.out; omega)
          clear hres hbel hrow hall
          go_wp2_with fail
          refine (C1.out _).mono ?_
          rintro e w' ⟨rfl, rfl⟩
          go_wp2_with fail
          refine (C2.out _).mono ?_
          rintro e w' ⟨rfl, rfl⟩
          go_wp2_with (refine wpList_store_irow rfl 28 (.tmp 2) (.tmp 32) rfl (g := B0) (t := 28) (k := .u8) (xs := List.replicate 32 0) (ys := List.replicate 32 0) rfl rfl HRES.out HI.out rfl ?_)
          refine bodyPost_ret (v := .tuple #[digV (List.replicate 32 0), .int .i64 3]) ?_ rfl ⟨by rw [← HB0.out]; exact HBF.out, .inr ⟨HBAD.out, rfl⟩⟩
          obtain ⟨fr, hrw⟩ : ∃ fr, ((wr.setRow B0 ((List.replicate 32 (0 : Int)).map (Value.int .u8)).toArray)).heap[B0]? = some (.cells ((List.replicate 32 (0 : Int)).map (Value.int .u8)).toArray 28 fr) := ⟨_, HFIN.out⟩
          unfold digV
          rw [nums_zero]
          exact results_row_tmp Tryd.results28 _ _ B0 28 ((List.replicate 32 (0 : Int)).map (Value.int .u8)).toArray fr _ _ rfl rfl hrw Tryd.underlying28 rfl (by rw [List.size_toArray, List.length_map]; exact HI.out)
        · have d1 : decide (q1 < 0) = false := decide_eq_false n1
          by_cases n2 : q2 < 0
          · have d2 : decide (q2 < 0) = true := decide_eq_true n2
            clear hset hnx
            have HFIN := Lib.hid (setRow_irow (ys := List.replicate 32 0) hres)
            have HBF := Lib.hid (below_setRow hbel (Nat.le_refl _) ((List.replicate 32 (0 : Int)).map (Value.int .u8)).toArray)
            have HRES := Lib.hid hres
            have HBAD := Lib.hid (show ¬ GoodT s.data.toList from fun hg => by have := hg.2 _ (List.mem_of_getElem? HEB.out); have := HQ2.out; omega)
            clear hres hbel hrow hall
            go_wp2_with fail
            refine (C1.out _).mono ?_
            rintro e w' ⟨rfl, rfl⟩
            go_wp2_with fail
            refine (C2.out _).mono ?_
            rintro e w' ⟨rfl, rfl⟩
            go_wp2_with (refine wpList_store_irow rfl 28 (.tmp 2) (.tmp 32) rfl (g := B0) (t := 28) (k := .u8) (xs := List.replicate 32 0) (ys := List.replicate 32 0) rfl rfl HRES.out HI.out rfl ?_)
            refine bodyPost_ret (v := .tuple #[digV (List.replicate 32 0), .int .i64 3]) ?_ rfl ⟨by rw [← HB0.out]; exact HBF.out, .inr ⟨HBAD.out, rfl⟩⟩
            obtain ⟨fr, hrw⟩ : ∃ fr, ((wr.setRow B0 ((List.replicate 32 (0 : Int)).map (Value.int .u8)).toArray)).heap[B0]? = some (.cells ((List.replicate 32 (0 : Int)).map (Value.int .u8)).toArray 28 fr) := ⟨_, HFIN.out⟩
            unfold digV
            rw [nums_zero]
            exact results_row_tmp Tryd.results28 _ _ B0 28 ((List.replicate 32 (0 : Int)).map (Value.int .u8)).toArray fr _ _ rfl rfl hrw Tryd.underlying28 rfl (by rw [List.size_toArray, List.length_map]; exact HI.out)
          · have d2 : decide (q2 < 0) = false := decide_eq_false n2
            obtain ⟨k, hk⟩ : ∃ k, k = 31 - i := ⟨_, rfl⟩
            have ek : 31 - (i : Int) = (k : Int) := by omega
            have k32 : (k : Int) < 32 := by omega
            rw [← hk] at hset hnx
            have hor : bits .or .i64 (q1 * 16) q2 = q1 * 16 + q2 := bits_join .i64 63 (by decide) (fun n h0 h1 => by rw [IntWalk.i64_in _ (by omega)]) 4 _ _ (by omega) (by omega) (by omega) (by omega) (by omega) (by omega)
            have hw8 : IntKind.u8.wrap (q1 * 16 + q2) = q1 * 16 + q2 := by rw [IntKind.wrap_u8]; omega
            have hm8 : (q1 * 16 + q2) % 256 = q1 * 16 + q2 := by omega
            have hcell : wr.cell? ⟨B1, k, none⟩ = some (.int .u8 0) := by
              refine hrow.cell ?_
              unfold nums rowF
              rw [List.getElem?_map, List.getElem?_append_left (by rw [List.length_replicate]; omega), List.getElem?_replicate, if_pos (by omega)]
              rfl
            have hfr := hrow.free k
            have hb16 : ((b8 (q1 * 16 + q2)).toNat : Int) = q1 * 16 + q2 := by rw [b8_toNat]; omega
            have hset2 : IRow (wr.setCell ⟨B1, k, none⟩ (.int .u8 (q1 * 16 + q2))) B1 28 .u8 (nums (rowF s.data.toList (i + 1))) := by
              rw [← hnx]
              unfold nums at hset ⊢
              rw [List.map_set, hb16]
              exact hset
            have HSET := Lib.hid hset2
            have HRES := Lib.hid hres
            have HBEL := Lib.hid hbel
            have HALL := Lib.hid hall
            clear hset hset2 hnx hrow hres hbel hall hb16 hk
            go_wp2_with fail
            refine (C1.out _).mono ?_
            rintro e w' ⟨rfl, rfl⟩
            go_wp2_with fail
            refine (C2.out _).mono ?_
            rintro e w' ⟨rfl, rfl⟩
            go_wp2_with fail
            refine ⟨⟨i + 1, by omega, by go_num, HSET.out, ?_, HBEL.out.setCell (p := ⟨B1, k, none⟩) (by have := H10.out; show B0 ≤ B1; omega) _, ?_⟩, by simp [intOf]; omega⟩
            · exact (Below.heap_setCell wr _ _ _ (by intro h; have h' : B0 = B1 := h; have := H10.out; omega)).trans HRES.out
            · intro c hc
              have e : s.data.toList.take (2 * (i + 1)) = s.data.toList.take (2 * i) ++ [s[p]'p1, s[p + 1]'p2] := by
                rw [show 2 * (i + 1) = 2 * i + 1 + 1 by omega, List.take_add_one, List.take_add_one, ← HP.out, HEA.out, HEB.out]
                simp
              rw [e] at hc
              rcases List.mem_append.1 hc with h | h
              · exact HALL.out c h
              · simp only [List.mem_cons, List.not_mem_nil, or_false] at h
                rcases h with rfl | rfl
                · rw [← HQ1.out]; exact n1
                · rw [← HQ2.out]; exact n2
      · obtain rfl : i = 32 := by omega
        have h32' : ((32 : Nat) : Int) = 32 := rfl
        rw [h32']
        have hl64 : s.data.toList.length = 64 := by rw [HSL.out]; exact h64
        have hgood : GoodT s.data.toList := ⟨hl64, fun c hc => hall c (by rwa [List.take_of_length_le (by omega)])⟩
        rw [rowF_full hl64] at hrow
        have hsz : (nums (fromB s.data.toList)).length = 32 := by rw [nums_length, fromB_length hl64]
        have HI2 := Lib.hid (show (Tryd.prog.info? 28).map (·.size) = some (nums (fromB s.data.toList)).length by rw [hsz]; exact info_h)
        have HL := Lib.hid (show (List.replicate 32 (0 : Int)).length = (nums (fromB s.data.toList)).length by rw [hsz]; rfl)
        have HRW := Lib.hid hrow
        have HRS := Lib.hid hres
        have HG := Lib.hid hgood
        have HFIN := Lib.hid (setRow_irow (ys := nums (fromB s.data.toList)) hres)
        have HBF := Lib.hid (below_setRow hbel (Nat.le_refl _) ((nums (fromB s.data.toList)).map (Value.int .u8)).toArray)
        clear h32' hrow hres hbel hi h32 hsz hall hgood hl64
        go_wp2_with (first
          | (refine wpList_load_irow rfl 28 (.tmp 4) rfl (g := B1) (t := 28) (k := .u8) (xs := nums (fromB s.data.toList)) rfl HRW.out Tryd.underlying28 HI2.out ?_)
          | (refine wpList_store_irow rfl 28 (.tmp 2) (.tmp 42) rfl (g := B0) (t := 28) (k := .u8) (xs := List.replicate 32 0) (ys := nums (fromB s.data.toList)) rfl rfl HRS.out HI2.out HL.out ?_))
        refine bodyPost_ret (v := .tuple #[digV (fromB s.data.toList), .int .i64 0]) ?_ rfl ⟨by rw [← HB0.out]; exact HBF.out, .inl ⟨HG.out, rfl⟩⟩
        obtain ⟨fr, hrw⟩ : ∃ fr, ((wr.setRow B0 ((nums (fromB s.data.toList)).map (Value.int .u8)).toArray)).heap[B0]? = some (.cells ((nums (fromB s.data.toList)).map (Value.int .u8)).toArray 28 fr) := ⟨_, HFIN.out⟩
        exact results_row_tmp Tryd.results28 _ _ B0 28 ((nums (fromB s.data.toList)).map (Value.int .u8)).toArray fr _ _ rfl rfl hrw Tryd.underlying28 rfl (by rw [List.size_toArray, List.length_map]; exact HI2.out)
  · have hd : ((s.size : Int) != 64) = true := by simp; omega
    have HFIN := Lib.hid (setRow_irow (ys := List.replicate 32 0) RA.out)
    have HBF := Lib.hid (below_setRow B2.out (Nat.le_refl _) ((List.replicate 32 (0 : Int)).map (Value.int .u8)).toArray)
    go_wp2_with (refine wpList_store_irow rfl 28 (.tmp 2) (.tmp 11) rfl (g := B0) (t := 28) (k := .u8) (xs := List.replicate 32 0) (ys := List.replicate 32 0) rfl rfl RA.out HI.out rfl ?_)
    refine bodyPost_ret (v := .tuple #[digV (List.replicate 32 0), .int .i64 3]) ?_ rfl ⟨by rw [← HB0.out]; exact HBF.out, .inr ⟨fun hg => h64 (by rw [← HSL.out]; exact hg.1), rfl⟩⟩
    obtain ⟨fr, hrw⟩ : ∃ fr, ((wB.setRow B0 ((List.replicate 32 (0 : Int)).map (Value.int .u8)).toArray)).heap[B0]? = some (.cells ((List.replicate 32 (0 : Int)).map (Value.int .u8)).toArray 28 fr) := ⟨_, HFIN.out⟩
    unfold digV
    rw [nums_zero]
    exact results_row_tmp Tryd.results28 _ _ B0 28 ((List.replicate 32 (0 : Int)).map (Value.int .u8)).toArray fr _ _ rfl rfl hrw Tryd.underlying28 rfl (by rw [List.size_toArray, List.length_map]; exact HI.out)
end Go.Proofs.YtnmegdhidpkklaaDoor
