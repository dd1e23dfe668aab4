/-
  The reference's reader: Num. Conditions: sizes within the reach.
-/
import Derived.Test.YtelbcmcffjpdoaaIn
namespace Go.Proofs.Ytelbcmcffjpdoaa
open Go.RowKit

theorem num_raw (m : Nat) (k : Int) (xs : List UInt8) : (numR m k xs) = (val (rawR m k xs).1, (rawR m k xs).2.1, (rawR m k xs).2.2) := by
  unfold numR rawR
  split
  · rfl
  split
  · rw [if_pos (by omega)]; rfl
  · rw [if_neg (by omega), Int.toNat_natCast]

theorem rawR_le (m : Nat) (k : Int) (xs : List UInt8) : (rawR m k xs).1.length ≤ m := by
  unfold rawR
  split
  · simp
  split
  · simp
  · simp only [Int.toNat_natCast]; rw [List.length_take]; omega

set_option maxHeartbeats 1600000 in
theorem fnum_any (B : Nat) (x : Value) (bs : List UInt8) (p m : Nat) (k : Int) (w : World) (hx : Byt w B x bs) (hB : B ≤ w.heap.size) (hp : p ≤ bs.length) (hl : bs.length ≤ 60000) (hm : m ≤ 8) (hk0 : 0 ≤ k) (hk1 : k ≤ 9) :
    Calls Try.prog 53 #[inV x p k, .int .i64 m] w fun e w' =>
      (∃ q, e = .returned (.tuple #[.int .u64 (numR m k (bs.drop p)).1, inV x q (numR m k (bs.drop p)).2.1]) ∧ q ≤ bs.length ∧ bs.drop q = (numR m k (bs.drop p)).2.2) ∧ Below w.heap.size w w' := by
  obtain ⟨A, c, rfl⟩ := hx.form
  have hraw : ∀ o1 o2, Calls Try.prog 55 #[inV (.slice A bs.length c) p k, .int .i64 m] ((w.alloc o1).alloc o2) _ := fun o1 o2 =>
    fraw_any B _ bs p k m _ (hx.below (((Below.refl B w).alloc hB o1).alloc (by simp; omega) o2)) (by simp; omega) hp hl (by omega) (by omega) hk0 hk1
  rw [num_raw]
  have hle := rawR_le m k (bs.drop p)
  obtain ⟨R, hR⟩ : ∃ R, R = rawR m k (bs.drop p) := ⟨_, rfl⟩
  simp only [← hR] at hraw hle ⊢
  unfold inV at *
  have HR := Lib.hid hraw
  clear hraw hR hx
  go_enter Try.func53, Try.ntmps53
  go_wp2_with fail
  refine (HR.out _ _).mono ?_
  rintro e w1 ⟨⟨z, q, rfl, hz, hq, hqd⟩, hb⟩
  obtain ⟨Z, cz, rfl⟩ := hz.form
  have hsz := hb.size
  have hs2 : w.heap.size + 2 ≤ w1.heap.size := by simpa using hsz
  have hX2 : w1.heap[w.heap.size + 1]? = some (.cells #[.slice none 0 0, .int .i64 0, .int .i64 0] 51 (0, 0)) := by
    rw [hb.block (w.heap.size + 1) (by simp)]
    exact (two_boxes w _ _ (.cells #[] 5)).2 ▸ (Below.heap_alloc _ _ _ (by simp)).symm
  have hX3 : ∀ o, (w1.alloc o).heap[w.heap.size + 1]? = some (.cells #[.slice none 0 0, .int .i64 0, .int .i64 0] 51 (0, 0)) := fun o => by
    rw [Below.heap_alloc _ _ _ (by omega)]
    exact hX2
  have d0 : ∀ o, (w1.alloc o).cell? ⟨w.heap.size + 1, 0, none⟩ = some (.slice none 0 0) := fun o => cell_of_row _ (w.heap.size + 1) 0 _ _ _ (hX3 o)
  have d1 : ∀ o, (w1.alloc o).cell? ⟨w.heap.size + 1, 1, none⟩ = some (.int .i64 0) := fun o => cell_of_row _ (w.heap.size + 1) 1 _ _ _ (hX3 o)
  have d2 : ∀ o, (w1.alloc o).cell? ⟨w.heap.size + 1, 2, none⟩ = some (.int .i64 0) := fun o => cell_of_row _ (w.heap.size + 1) 2 _ _ _ (hX3 o)
  have fr2 : ∀ o j, (w1.alloc o).frozen? ⟨w.heap.size + 1, j, none⟩ = false := fun o j => by
    have h := hX3 o
    simp [World.frozen?, h]
  have hne : w.heap.size + 1 ≠ w1.heap.size := by omega
  clear hX3
  have hval : ∀ o, Calls Try.prog 65 #[.slice Z R.1.length cz] (w1.alloc o).drew fun e w' => e = .returned (.int .u64 (val R.1)) ∧ (w1.alloc o).drew = w' := fun o =>
    fval_any w1.heap.size _ R.1 _ ((hz.below ((Below.refl _ _).alloc (Nat.le_refl _) o).drew)) (by omega)
  have HV := Lib.hid hval
  have HB := Lib.hid hb
  clear hval hb hsz hz hX2
  go_wp2_with fail
  go_region_with ((go_at_call 65; refine (HV.out _).mono ?_; rintro e w' ⟨rfl, rfl⟩))
  all_goals go_wp2
  all_goals (
    refine bodyPost_ret (v := .tuple #[.int .u64 (val R.1), .agg #[.slice A bs.length c, .int .i64 q, .int .i64 R.2.1]]) (by simp [results, Try.results53, go_sem, d0, d1, d2]) rfl ⟨⟨q, rfl, hq, hqd⟩, ?_⟩
    have hb0 := (((Below.refl w.heap.size w).alloc (Nat.le_refl _) (.cells #[.slice A bs.length c, .int .i64 p, .int .i64 k] 51)).alloc (by simp) (.cells #[.slice none 0 0, .int .i64 0, .int .i64 0] 51))
    have hb1 := (hb0.trans (HB.out.mono (by simp; omega))).alloc (by omega) (.cells #[.slice A bs.length c, .int .i64 q, .int .i64 R.2.1] 51)
    exact (((hb1.setCell (by simp) _).setCell (by simp) _).setCell (by simp) _).drew)

end Go.Proofs.Ytelbcmcffjpdoaa
