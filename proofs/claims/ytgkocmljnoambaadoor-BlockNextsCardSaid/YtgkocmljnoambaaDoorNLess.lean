/-
  The reference's Less: which of two numbers is the lesser. Conditions: none.
-/
import Derived.Test.YtgkocmljnoambaaDoorIr
namespace Go.Proofs.YtgkocmljnoambaaDoor
open Go.RowKit

/-- The first k digits are the same. -/
theorem less_next {a b k : Nat} (hk : k < 32) (h : up a (32 - k) = up b (32 - k)) (hd : dg a k = dg b k) : up a (32 - (k + 1)) = up b (32 - (k + 1)) := by
  have h1 := up_mod a (i := k) (j := 31 - k) (by omega)
  have h2 := up_mod b (i := k) (j := 31 - k) (by omega)
  have e1 := up_succ a (31 - k)
  have e2 := up_succ b (31 - k)
  rw [show 31 - k + 1 = 32 - k by omega] at e1 e2
  rw [show 32 - (k + 1) = 31 - k by omega]
  omega
theorem less_at {a b k : Nat} (hk : k < 32) (h : up a (32 - k) = up b (32 - k)) (hd : dg a k < dg b k) : a < b := by
  have h1 := up_mod a (i := k) (j := 31 - k) (by omega)
  have h2 := up_mod b (i := k) (j := 31 - k) (by omega)
  have e1 := up_succ a (31 - k)
  have e2 := up_succ b (31 - k)
  rw [show 31 - k + 1 = 32 - k by omega] at e1 e2
  have h3 : up a (31 - k) < up b (31 - k) := by omega
  unfold up at h3
  rcases Nat.lt_or_ge a b with h | h
  · exact h
  · have := Nat.div_le_div_right (c := 256 ^ (31 - k)) h
    omega
theorem less_done {a b : Nat} (h : up a (32 - 32) = up b (32 - 32)) : a = b := by
  rw [Nat.sub_self, up_zero, up_zero] at h
  exact h

theorem bool_ret {a b : Bool} (h : a = b) : Ending.returned (.bool a) = .returned (.bool b) := by rw [h]
theorem below_drewN {B : Nat} {a w : World} (h : Below B a w) (n : Nat) : Below B a (w.drewN n) := ⟨h.os, h.tape, h.output, h.size, h.block⟩
/-- The two boxes of a function's arguments. -/
theorem boxes2 (w : World) (t : TypeId) (xs ys : List Int) (k : IntKind) : IRow ((w.alloc (.cells (xs.map (Value.int k)).toArray t)).alloc (.cells (ys.map (Value.int k)).toArray t)) w.heap.size t k xs ∧
    IRow ((w.alloc (.cells (xs.map (Value.int k)).toArray t)).alloc (.cells (ys.map (Value.int k)).toArray t)) (w.heap.size + 1) t k ys ∧
    Below w.heap.size w ((w.alloc (.cells (xs.map (Value.int k)).toArray t)).alloc (.cells (ys.map (Value.int k)).toArray t)) := by
  refine ⟨(IRow.new w t k xs).alloc _, ?_, ((Below.refl _ w).alloc (Nat.le_refl _) _).alloc (by simp) _⟩
  have h := IRow.new (w.alloc (.cells (xs.map (Value.int k)).toArray t)) t k ys
  rw [World.size_alloc] at h
  exact h

set_option maxRecDepth 100000 in
set_option maxHeartbeats 1600000 in
theorem less_any (a b : Nat) (w : World) (ha : a < top) (hb : b < top) :
    Calls Tryd.prog 14 #[numV a, numV b] w fun e w' => e = .returned (.bool (decide (a < b))) ∧ Below w.heap.size w w' := by
  obtain ⟨r1, r2, bA⟩ := boxes2 w 23 (num a) (num b) .u8
  change IRow ((w.alloc (.cells (numA a) 23)).alloc (.cells (numA b) 23)) _ _ _ _ at r1
  change IRow ((w.alloc (.cells (numA a) 23)).alloc (.cells (numA b) 23)) _ _ _ _ at r2
  change Below _ _ ((w.alloc (.cells (numA a) 23)).alloc (.cells (numA b) 23)) at bA
  have HT := Lib.hid (up_full ha)
  have HT2 := Lib.hid (up_full hb)
  clear ha hb
  unfold numV
  go_enter Tryd.func14, Tryd.ntmps14
  go_wp2_with fail
  obtain ⟨W, hW⟩ : ∃ W, W = (w.alloc (.cells (numA a) 23)).alloc (.cells (numA b) 23) := ⟨_, rfl⟩
  obtain ⟨B, hB⟩ : ∃ B, B = w.heap.size := ⟨_, rfl⟩
  rw [← hW] at r1 r2 bA ⊢
  rw [← hB] at r1 r2 bA ⊢
  have R1 := Lib.hid r1
  have R2 := Lib.hid r2
  have BA : Hid (∀ n, Below w.heap.size w (W.drewN n)) := Lib.hid (fun n => below_drewN (hB ▸ bA) n)
  clear hW r1 r2 bA hB
  go_loopw [5] (fun iv wr => ∃ k : Nat, k ≤ 32 ∧ iv = .int .i64 k ∧ Hid (up a (32 - k) = up b (32 - k)) ∧ ∃ nq : Nat, wr = W.drewN nq) (fun iv _ => 32 - (intOf iv).toNat)
  case atStart => exact ⟨0, by omega, rfl, Lib.hid (by rw [HT.out, HT2.out]), 0, rfl⟩
  case round =>
    obtain ⟨k, hk, rfl, hup, nq, rfl⟩ := hrel
    by_cases hlt : k < 32
    · have c1 : W.cell? ⟨B, k, none⟩ = some (.int .u8 ((dg a k : Nat) : Int)) := R1.out.cell (num_at a hlt)
      have c2 : W.cell? ⟨B + 1, k, none⟩ = some (.int .u8 ((dg b k : Nat) : Int)) := R2.out.cell (num_at b hlt)
      by_cases hd : dg a k = dg b k
      · have HN := Lib.hid (less_next hlt hup.out hd)
        rw [← hd] at c2
        clear hd
        go_wp2_with fail
        go_quiet (fail)
        go_wp2_with fail
        go_roundw
        case rel => exact ⟨k + 1, by omega, by go_num, HN, _, rfl⟩
        case measure => simp [intOf]; omega
      · have hne : ((dg a k : Int) != (dg b k : Int)) = true := by simp; omega
        have hres : decide (dg a k < dg b k) = decide (a < b) := by
          rw [decide_eq_decide]
          constructor
          · exact fun h => less_at hlt hup.out h
          · intro h
            rcases Nat.lt_or_ge (dg a k) (dg b k) with h2 | h2
            · exact h2
            · have := less_at (a := b) (b := a) hlt hup.out.symm (by omega)
              omega
        have HR := Lib.hid hres
        clear hres hd
        go_wp2_with fail
        go_quiet (fail)
        go_wp2_with fail
        go_quiet (fail)
        go_wp2_with fail
        go_ret
        exact ⟨bool_ret HR.out, below_drewN (below_drewN (BA.out _) _) _⟩
    · obtain rfl : k = 32 := by omega
      have HE := Lib.hid (less_done hup.out)
      go_wp2_with fail
      go_ret
      exact ⟨bool_ret (by have := HE.out; simp; omega), BA.out _⟩
end Go.Proofs.YtgkocmljnoambaaDoor
