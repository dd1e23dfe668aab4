/-
  Texts joined: RmRev, RmSum, HsSum. Conditions: those of each.
-/
import Derived.Test.YtfkpdbmgiefnfaaDoorP13
import Derived.Test.YtfkpdbmgiefnfaaDoorP10
import Derived.Test.YtfkpdbmgiefnfaaDoorP11
import Derived.Stop.BytesEq
/-
  slices.Reverse over the last eight bytes of a row. Conditions: the row may be written.
-/
namespace Go.Proofs.YtfkpdbmgiefnfaaDoor.Rm
open Go.RowKit

/-- Eight numbers with the first k and the last k exchanged. -/
def swK (l : List Int) (k : Nat) : List Int := (List.range 8).map fun i => l.getD (if i < k ∨ 8 - k ≤ i then 7 - i else i) 0
theorem swK_length (l : List Int) (k : Nat) : (swK l k).length = 8 := by simp [swK]
theorem eight {l : List Int} (h : l.length = 8) : ∃ a b c d e f g i, l = [a, b, c, d, e, f, g, i] := by
  match l, h with
  | [a, b, c, d, e, f, g, i], _ => exact ⟨a, b, c, d, e, f, g, i, rfl⟩
theorem swK_zero {l : List Int} (h : l.length = 8) : swK l 0 = l := by obtain ⟨a, b, c, d, e, f, g, i, rfl⟩ := eight h; rfl
theorem swK_four {l : List Int} (h : l.length = 8) : swK l 4 = l.reverse := by obtain ⟨a, b, c, d, e, f, g, i, rfl⟩ := eight h; rfl
theorem swK_next (l : List Int) {k m : Nat} (hm : m + k = 7) (hk : k < 4) : ∃ x y, (swK l k)[k]? = some x ∧ (swK l k)[m]? = some y ∧ ((swK l k).set k y).set m x = swK l (k + 1) := by
  obtain rfl | rfl | rfl | rfl : k = 0 ∨ k = 1 ∨ k = 2 ∨ k = 3 := by omega
  · obtain rfl : m = 7 := by omega
    exact ⟨_, _, rfl, rfl, rfl⟩
  · obtain rfl : m = 6 := by omega
    exact ⟨_, _, rfl, rfl, rfl⟩
  · obtain rfl : m = 5 := by omega
    exact ⟨_, _, rfl, rfl, rfl⟩
  · obtain rfl : m = 4 := by omega
    exact ⟨_, _, rfl, rfl, rfl⟩
theorem at_right {A l : List Int} {i : Nat} {x : Int} (h : l[i]? = some x) : (A ++ l)[A.length + i]? = some x := by
  rw [List.getElem?_append_right (by omega), Nat.add_sub_cancel_left]
  exact h
theorem set_right {A l : List Int} {i : Nat} {x : Int} : (A ++ l).set (A.length + i) x = A ++ l.set i x := by
  rw [List.set_append_right _ _ (by omega), Nat.add_sub_cancel_left]
end Go.Proofs.YtfkpdbmgiefnfaaDoor.Rm

/-
  hash.Ripemd. Conditions: the size stays below 2^59; the tables are laid.
-/
namespace Go.Proofs.YtfkpdbmgiefnfaaDoor.Rm
open Go.RowKit

def zIn : List Value := inRow (List.replicate 5 0) (List.replicate 128 0) 0
def zKind : List Value := [.int .i64 0, .int .u32 0, .int .u32 0, .int .u32 0, .int .u32 0, .int .u32 0, .nilFunc]
theorem full_ne (m : List UInt8) : fullR m ≠ [] := by unfold fullR padR; simp
theorem padR_full (n : Nat) : (128 :: List.replicate ((119 - n % 64) % 64) 0) ++ (lenI n 8).reverse = nums (padR n) := by
  unfold padR
  rw [nums_append, nums_append, lenI_full]
  have h : ∀ k, nums (List.replicate k (0 : UInt8)) = List.replicate k (0 : Int) := fun k => by unfold nums; rw [List.map_replicate]; rfl
  rw [h]
  unfold nums
  rw [List.map_reverse]
  rfl
theorem irow_src {w : World} {gp g : Nat} {t : TypeId} {bs : List UInt8} (h : IRow w gp t .u8 (nums bs)) (hl : bs.length ≤ maxLen) (hne : g ≠ gp) : Src w g (.slice (some ⟨gp, 0, none⟩) bs.length bs.length) bs := by
  refine ⟨_, bs.length, rfl, Nat.le_refl _, hl, (by intro h; cases h), fun _ => ⟨gp, 0, rfl, h.lt, Ne.symm hne, fun j u hu => ?_⟩⟩
  rw [Nat.zero_add]
  exact h.cell (i := j) (z := (u.toNat : Int)) (by unfold nums; rw [List.getElem?_map, hu]; rfl)
end Go.Proofs.YtfkpdbmgiefnfaaDoor.Rm

/-
  hash.Sum512; arrays of bytes held against each other; all tables together. Conditions: the size stays below 2^59; the roots are laid.
-/
namespace Go.Proofs.YtfkpdbmgiefnfaaDoor
open Go.RowKit

theorem eq_64 (xs ys : List UInt8) (hx : xs.length = 64) (hy : ys.length = 64) (w : World) :
    (Op.equalIn 10000 51 (digV xs) (digV ys)).run Tryd.prog w = .ok (xs == ys) w := by
  obtain ⟨i0, hi, hz0, hz1, hz2⟩ := info_parts info_u8
  unfold digV
  rw [nums_bv, nums_bv]
  exact run_equalIn_bytes w 9998 51 5 64 Tryd.underlying51 Tryd.underlying5 (fun w => by simp [sizeOf, typeInfo, hi, hz1]) xs ys hx hy
theorem joined_one (v : Value) (b : List UInt8) : joined [(v, b)] = b := by simp [joined]
theorem total_one (v : Value) (b : List UInt8) : total [(v, b)] = b.length := by simp [total]
set_option maxRecDepth 100000 in
set_option maxHeartbeats 3200000 in
theorem s512_any (B : Nat) (v : Value) (b : List UInt8) (W0 : World) (hb : Byt W0 B v b) (hB : B ≤ W0.heap.size) (hlen : b.length < 576460752303423488) (hroots : Roots W0) :
    Calls Tryd.prog 27 #[v] W0 fun e w' => e = .returned (digV (S5.sha512 b)) ∧ Below W0.heap.size W0 w' := by
  obtain ⟨A, c, rfl⟩ := hb.form
  have rA := IRow.new W0 51 .u8 (List.replicate 64 0)
  have bA : Below W0.heap.size W0 (W0.alloc (.cells ((List.replicate 64 (0 : Int)).map (Value.int .u8)).toArray 51)) := (Below.refl _ W0).alloc (Nat.le_refl _) _
  have HB := Lib.hid hb
  have HR := Lib.hid hroots
  have z64 := S5.zero_64
  clear hb hroots
  go_enter Tryd.func27, Tryd.ntmps27
  go_upto_region 1 with fail
  change Code.wp _ _ _ _ (W0.alloc (.cells ((List.replicate 64 (0 : Int)).map (Value.int .u8)).toArray 51))
  obtain ⟨wA, hwA⟩ : ∃ x, x = W0.alloc (.cells ((List.replicate 64 (0 : Int)).map (Value.int .u8)).toArray 51) := ⟨_, rfl⟩
  rw [← hwA] at rA bA ⊢
  obtain ⟨B0, hB0⟩ : ∃ B0, B0 = W0.heap.size := ⟨_, rfl⟩
  rw [← hB0] at rA bA ⊢
  have hbA := HB.out.below (bA.mono (by rw [hB0]; exact hB))
  have bag := BagR.made wA 22 [.slice A b.length c] [(.slice A b.length c, b)] rfl (by unfold maxLen; simp) (fun p hp => by rw [List.mem_singleton.1 hp]; exact hbA.more (by have := bA.size; omega))
  have bB : Below wA.heap.size wA (wA.alloc (.cells [Value.slice A b.length c].toArray 22)) := (Below.refl _ wA).alloc (Nat.le_refl _) _
  have h0A : B0 < wA.heap.size := rA.lt
  have b2 := bA.trans (bB.mono (by omega : B0 ≤ wA.heap.size))
  have C := Lib.hid (S5.sum512_any _ _ _ (wA.alloc (.cells [Value.slice A b.length c].toArray 22)) bag (by simp) (by rw [total_one]; exact hlen) (HR.out.below (by rw [← hB0]; exact b2)))
  rw [joined_one] at C
  have RA2 := Lib.hid (rA.below bB h0A)
  have B2 := Lib.hid b2
  have HB0 := Lib.hid hB0
  clear hwA rA bA hB0 hbA bag bB b2
  try dsimp only [Act.put]
  go_wp2_with fail
  refine C.out.mono ?_
  rintro e w4 ⟨rfl, hb4⟩
  obtain ⟨D, hD⟩ : ∃ D, D = S5.sha512 b := ⟨_, rfl⟩
  have hsz : (nums D).length = 64 := by rw [hD, nums_length, S5.sha512_length]
  rw [← hD]
  have HI := Lib.hid (show (Tryd.prog.info? 51).map (·.size) = some (nums D).length by rw [hsz]; exact S5.info_64)
  have HL := Lib.hid (show (List.replicate 64 (0 : Int)).length = (nums D).length by rw [hsz]; rfl)
  have ra4 := RA2.out.below hb4 RA2.out.lt
  have b4 := B2.out.trans (hb4.mono (by have := B2.out.size; have := HB0.out; omega))
  have HFIN := Lib.hid (setRow_irow (ys := nums D) ra4)
  have HBF := Lib.hid (below_setRow b4 (Nat.le_refl _) ((nums D).map (Value.int .u8)).toArray)
  have RA4 := Lib.hid ra4
  have HDD := Lib.hid hD
  clear ra4 b4 hb4 hsz hD C
  unfold digV
  go_wp2_with (refine wpList_store_irow rfl 51 (.tmp 2) (.tmp 5) rfl (g := B0) (t := 51) (k := .u8) (xs := List.replicate 64 0) (ys := nums D) rfl rfl RA4.out HI.out HL.out ?_)
  refine bodyPost_ret (v := digV D) ?_ rfl ⟨by rw [HDD.out], by rw [← HB0.out]; exact HBF.out⟩
  obtain ⟨fr, hrw⟩ : ∃ fr, ((w4.setRow B0 ((nums D).map (Value.int .u8)).toArray)).heap[B0]? = some (.cells ((nums D).map (Value.int .u8)).toArray 51 fr) := ⟨_, HFIN.out⟩
  exact results_cell_row Tryd.results27 _ _ B0 51 ((nums D).map (Value.int .u8)).toArray fr _ rfl hrw Tryd.underlying51 rfl (by rw [List.size_toArray, List.length_map]; exact HI.out)
end Go.Proofs.YtfkpdbmgiefnfaaDoor
