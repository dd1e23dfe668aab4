/-
  The reference's times and shared: a number times another in 36 bytes, and those over another. Conditions: as said.
-/
import Derived.Test.YtgkocmljnoambaaDoorRfTgt
namespace Go.Proofs.YtgkocmljnoambaaDoor
open Go.RowKit

def dg36 (n i : Nat) : Nat := n / 256 ^ (35 - i) % 256
def num36 (n : Nat) : List Int := (List.range 36).map fun i => ((dg36 n i : Nat) : Int)
def mix36 (p j : Nat) : List Int := (List.range 36).map fun i => (((if 36 ≤ i + j then dg36 p i else 0) : Nat) : Int)
theorem num36_length (n : Nat) : (num36 n).length = 36 := by simp [num36]
theorem mix36_length (p j : Nat) : (mix36 p j).length = 36 := by simp [mix36]
theorem num36_at (n : Nat) {i : Nat} (h : i < 36) : (num36 n)[i]? = some ((dg36 n i : Nat) : Int) := by
  unfold num36
  rw [List.getElem?_map, List.getElem?_range h]
  rfl
theorem mix36_at (p j : Nat) {i : Nat} (h : i < 36) : (mix36 p j)[i]? = some (((if 36 ≤ i + j then dg36 p i else 0) : Nat) : Int) := by
  unfold mix36
  rw [List.getElem?_map, List.getElem?_range h]
  rfl
theorem mix36_zero (p : Nat) : mix36 p 0 = List.replicate 36 0 := by
  apply List.ext_getElem?
  intro i
  by_cases h : i < 36
  · rw [mix36_at p 0 h, if_neg (by omega), List.getElem?_replicate, if_pos h]
    rfl
  · rw [List.getElem?_eq_none (by rw [mix36_length]; omega), List.getElem?_eq_none (by rw [List.length_replicate]; omega)]
theorem mix36_full (p : Nat) : mix36 p 36 = num36 p := by
  unfold mix36 num36
  refine List.map_congr_left fun i _ => ?_
  rw [if_pos (by omega)]
theorem mix36_set (p : Nat) {i j : Nat} (h : i + j = 35) {z : Int} (hz : z = ((dg36 p i : Nat) : Int)) : (mix36 p j).set i z = mix36 p (j + 1) := by
  apply List.ext_getElem?
  intro k
  rw [List.getElem?_set, mix36_length]
  by_cases hk : k < 36
  · by_cases he : i = k
    · subst he
      rw [if_pos rfl, if_pos hk, mix36_at _ _ hk, if_pos (by omega), hz]
    · rw [if_neg he, mix36_at _ _ hk, mix36_at _ _ hk]
      congr 2
      by_cases h2 : 36 ≤ k + j
      · rw [if_pos h2, if_pos (by omega)]
      · rw [if_neg h2, if_neg (by omega)]
  · rw [if_neg (by omega), List.getElem?_eq_none (by rw [mix36_length]; omega), List.getElem?_eq_none (by rw [mix36_length]; omega)]
theorem up_mod36 (n : Nat) {i j : Nat} (h : i + j = 35) : up n j % 256 = dg36 n i := by
  unfold up dg36
  rw [show 35 - i = j by omega]
noncomputable def num36A (n : Nat) : Array Value := ((num36 n).map (Value.int .u8)).toArray
noncomputable def numV36 (n : Nat) : Value := .agg (num36A n)
def zero36A : Array Value := ((List.replicate 36 (0 : Int)).map (Value.int .u8)).toArray
theorem info_36 : (Tryd.prog.info? 62).map (·.size) = some 36 := by kernel_rfl
theorem size_36 {xs : List Int} (h : xs.length = 36) : (Tryd.prog.info? 62).map (·.size) = some xs.length := by rw [h]; exact info_36

/-- What the loop of times keeps. -/
structure TimAt (w : World) (a m j c : Nat) (wr : World) : Prop where
  r0 : IRow wr w.heap.size 23 .u8 (num a)
  r1 : IRow wr (w.heap.size + 1) 62 .u8 (List.replicate 36 0)
  r2 : IRow wr (w.heap.size + 2) 62 .u8 (mix36 (a * m) j)
  bel : Below w.heap.size w wr
  eq : up (a * m) j = up a j * m + c
  small : c ≤ m
theorem times_small {c d m : Nat} (hc : c ≤ m) (hd : d < 256) : (c + d * m) / 256 ≤ m := by
  have h := Nat.mul_le_mul_right m (show d ≤ 255 by omega)
  omega
theorem TimAt.next {w wr : World} {a m j c i X : Nat} (h : TimAt w a m j c wr) (hi : i + j = 35) (hX : X = c + up a j % 256 * m) :
    TimAt w a m (j + 1) (X / 256) (wr.setCell ⟨w.heap.size + 2, i, none⟩ (.int .u8 ((X % 256 : Nat) : Int))) := by
  obtain ⟨e1, e2⟩ := times_next h.eq
  rw [up_mod36 _ hi, Nat.add_comm _ c, ← hX] at e1
  rw [← up_succ, ← up_succ, Nat.add_comm _ c, ← hX] at e2
  refine ⟨h.r0.setCell (by show w.heap.size + 2 ≠ _; omega) _, h.r1.setCell (by show w.heap.size + 2 ≠ _; omega) _, ?_, h.bel.setCell (p := ⟨w.heap.size + 2, i, none⟩) (by show _ ≤ w.heap.size + 2; omega) _, e2, by rw [hX]; exact times_small h.small (Nat.mod_lt _ (by omega))⟩
  rw [← mix36_set (a * m) hi (z := ((X % 256 : Nat) : Int)) (by rw [e1])]
  exact h.r2.set i _
theorem up_none {a j : Nat} (ha : a < top) (hj : 32 ≤ j) : up a j = 0 := by
  unfold up
  refine Nat.div_eq_of_lt (Nat.lt_of_lt_of_le ha ?_)
  exact Nat.pow_le_pow_right (by omega) hj
set_option maxRecDepth 100000 in
set_option maxHeartbeats 6400000 in
theorem times_any (a m : Nat) (w : World) (ha : a < top) (hm : m ≤ 19200) :
    Calls Tryd.prog 35 #[numV a, .int .i64 (m : Int)] w fun e w' => e = .returned (numV36 (a * m)) ∧ Below w.heap.size w w' := by
  obtain ⟨p, hp⟩ : ∃ p, p = a * m := ⟨_, rfl⟩
  have hn : ∀ (U0 : World) (g : Nat) (t : TypeId) (k : IntKind) (zs : List Int), U0.heap.size = g → IRow (U0.alloc (.cells (zs.map (Value.int k)).toArray t)) g t k zs := fun U0 g t k zs e => e ▸ IRow.new U0 t k zs
  obtain ⟨W, hW⟩ : ∃ W, W = ((w.alloc (.cells (numA a) 23)).alloc (.cells zero36A 62)).alloc (.cells zero36A 62) := ⟨_, rfl⟩
  have T0 := Lib.hid (show TimAt w a m 0 0 W by
    rw [hW]
    exact ⟨((IRow.new w 23 .u8 (num a)).alloc _).alloc _, (hn (w.alloc (.cells (numA a) 23)) (w.heap.size + 1) 62 .u8 (List.replicate 36 0) (by simp)).alloc _, by rw [mix36_zero]; exact hn ((w.alloc (.cells (numA a) 23)).alloc (.cells zero36A 62)) (w.heap.size + 2) 62 .u8 (List.replicate 36 0) (by simp),
      (((Below.refl _ w).alloc (Nat.le_refl _) _).alloc (by simp) _).alloc (by simp; omega) _, by rw [up_zero, up_zero]; omega, by omega⟩)
  have HW := Lib.hid hW
  have HA := Lib.hid ha
  have HM := Lib.hid hm
  have HP := Lib.hid hp
  rw [← hp]
  clear hn hW ha hm hp
  unfold numV
  go_enter Tryd.func35, Tryd.ntmps35
  go_wp2_with fail
  change Code.wp _ _ _ _ (((w.alloc (.cells (numA a) 23)).alloc (.cells zero36A 62)).alloc (.cells zero36A 62))
  rw [← HW.out, show w.heap.size + 1 + 1 = w.heap.size + 2 from rfl]
  clear HW
  go_loopw [7, 6] (fun iv cv wr => ∃ j c : Nat, j ≤ 36 ∧ iv = .int .i64 ((35 : Int) - j) ∧ cv = .int .i64 c ∧ TimAt w a m j c wr) (fun iv _ _ => (intOf iv + 1).toNat)
  case atStart => exact ⟨0, 0, by omega, rfl, rfl, T0.out⟩
  case round =>
    obtain ⟨j, c, hj, rfl, rfl, hT⟩ := hrel
    by_cases hlt : j < 36
    · obtain ⟨i, hi⟩ : ∃ i : Nat, i + j = 35 := ⟨35 - j, by omega⟩
      have ei : (35 : Int) - (j : Int) = (i : Int) := by omega
      have hcm := hT.small
      have hm := HM.out
      have f2 : wr.frozen? ⟨w.heap.size + 2, i, none⟩ = false := hT.r2.free i
      have hi36 : (i : Int) < 36 := by omega
      obtain ⟨z2, c2⟩ : ∃ z2, wr.cell? ⟨w.heap.size + 2, i, none⟩ = some (.int .u8 z2) := ⟨_, hT.r2.cell (mix36_at _ _ (by omega))⟩
      by_cases h4 : 4 ≤ i
      · obtain ⟨k, hk⟩ : ∃ k : Nat, k + 4 = i := ⟨i - 4, by omega⟩
        have ek : (i : Int) - 4 = (k : Int) := by omega
        have hk32 : (k : Int) < 32 := by omega
        have hdd := dg_lt a k
        obtain ⟨dd, hdd2⟩ : ∃ dd, dd = dg a k := ⟨_, rfl⟩
        have c0 : wr.cell? ⟨w.heap.size, k, none⟩ = some (.int .u8 (dd : Int)) := by rw [hdd2]; exact hT.r0.cell (num_at a (by omega))
        rw [← hdd2] at hdd
        have hum : up a j % 256 = dd := by rw [hdd2]; exact up_mod a (by omega)
        have hml := Nat.mul_le_mul (show dd ≤ 255 by omega) hm
        obtain ⟨Y, hY⟩ : ∃ Y, Y = dd * m := ⟨_, rfl⟩
        rw [← hY] at hml
        have hYi : (dd : Int) * (m : Int) = (Y : Int) := by rw [hY, Int.natCast_mul]
        have w1 : IntKind.i64.wrap (dd : Int) = dd := i64_cast (by omega) (by omega)
        have w3 : IntKind.i64.wrap ((dd : Int) * (m : Int)) = (Y : Int) := by rw [hYi]; exact i64_cast (by omega) (by omega)
        have w4 : IntKind.i64.wrap ((c : Int) + (Y : Int)) = ((c + Y : Nat) : Int) := by rw [Int.natCast_add]; exact i64_cast (by omega) (by omega)
        obtain ⟨X, hX⟩ : ∃ X, X = c + Y := ⟨_, rfl⟩
        rw [← hX] at w4
        have HN := Lib.hid (hT.next hi (X := X) (by rw [hX, hY, hum]))
        have e2 : (X : Int).tdiv 256 = ((X / 256 : Nat) : Int) := by rw [Int.tdiv_eq_ediv_of_nonneg (by omega)]; omega
        have e3 : (X : Int).tmod 256 = ((X % 256 : Nat) : Int) := by rw [Int.tmod_eq_emod_of_nonneg (by omega)]; omega
        have hXl : X ≤ 5000000 := by omega
        have hi4 : ¬ ((i : Int) < 4) := by omega
        have hi4' : (4 : Int) ≤ (i : Int) := by omega
        have HI := Lib.hid hi
        have EI := Lib.hid ei
        clear hT hX hY hYi hum hdd2 hml hi hk h4
        rw [ei]
        clear ei
        go_wp2_with fail
        exact ⟨⟨j + 1, X / 256, by omega, by congr 1; have := HI.out; omega, rfl, HN.out⟩, by simp [intOf]⟩
      · have hz : up a j % 256 = 0 := by rw [up_none HA.out (by omega)]
        have HN := Lib.hid (hT.next hi (X := c) (by rw [hz]; omega))
        have e2 : (c : Int).tdiv 256 = ((c / 256 : Nat) : Int) := by rw [Int.tdiv_eq_ediv_of_nonneg (by omega)]; omega
        have e3 : (c : Int).tmod 256 = ((c % 256 : Nat) : Int) := by rw [Int.tmod_eq_emod_of_nonneg (by omega)]; omega
        have hi4 : (i : Int) < 4 := by omega
        have HI := Lib.hid hi
        have EI := Lib.hid ei
        clear hT hz hi h4
        rw [ei]
        clear ei
        go_wp2_with fail
        exact ⟨⟨j + 1, c / 256, by omega, by congr 1; have := HI.out; omega, rfl, HN.out⟩, by simp [intOf]⟩
    · obtain rfl : j = 36 := by omega
      have R2 := Lib.hid (show IRow wr (w.heap.size + 2) 62 .u8 (num36 p) by rw [HP.out, ← mix36_full]; exact hT.r2)
      have R1 := Lib.hid hT.r1
      have QF := Lib.hid (setRow_irow (ys := num36 p) hT.r1)
      have HB := Lib.hid (below_setRow (g := w.heap.size + 1) hT.bel (by omega) (num36A p))
      clear hT
      go_wp2_with (first
        | (refine wpList_load_irow rfl 62 (.tmp 5) rfl (g := w.heap.size + 2) (t := 62) (k := .u8) (xs := num36 p) rfl R2.out Tryd.underlying62 (size_36 (num36_length p)) ?_)
        | (refine wpList_store_irow rfl 62 (.tmp 4) (.tmp 32) rfl (g := w.heap.size + 1) (t := 62) (k := .u8) (xs := List.replicate 36 0) (ys := num36 p) rfl rfl R1.out (size_36 (num36_length p)) (by rw [num36_length]; rfl) ?_))
      refine bodyPost_ret (v := numV36 p) ?_ rfl ⟨rfl, HB.out⟩
      exact results_cell_row Tryd.results35 _ _ (w.heap.size + 1) 62 (num36A p) (0, 0) _ rfl QF.out Tryd.underlying62 rfl (by unfold num36A; simp only [List.size_toArray, List.length_map, num36_length]; exact info_36)
end Go.Proofs.YtgkocmljnoambaaDoor
