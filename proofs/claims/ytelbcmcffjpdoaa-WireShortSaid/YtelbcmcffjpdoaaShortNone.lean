/-
  WireShort over no acts. Conditions: none.
-/
import Derived.Test.YtelbcmcffjpdoaaShort
namespace Go.Proofs.Ytelbcmcffjpdoaa
open Go.RowKit

set_option maxHeartbeats 800000 in
theorem short_none (A : Option Addr) (cap : Nat) (at_ : Int) (w : World) :
    Calls Try.prog 5 #[.slice A 0 cap, .int .i64 at_] w fun e w' => e = .returned (.bool true) ∧ Below w.heap.size w w' := by
  go_enter Try.func5, Try.ntmps5
  go_wp2_with fail
  refine (awake_any w).mono ?_
  rintro e w1 ⟨rfl, hb1⟩
  have hs1 := hb1.size
  go_wp2_with fail
  refine wp_loop_rounds 1 ?_
  rw [rounds_succ]
  go_wp2_with fail
  refine (out_any _ _ _ _ _ (wr_new w1) (by simp)).mono ?_
  rintro e w2 ⟨A2, c2, rfl, hown2, hb2⟩
  have hbel2 : Below w.heap.size w w2 := (hb1.alloc hs1 _).trans (hb2.mono (by simp; omega))
  by_cases hneg : at_ < 0
  · go_wp2_with fail
    go_ret
    exact ⟨rfl, hbel2⟩
  · have hge : (0 : Int) ≤ at_ := by omega
    have hd : decide (at_ < 0) = false := decide_eq_false hneg
    go_wp2_with fail
    go_ret
    exact ⟨rfl, hbel2⟩

end Go.Proofs.Ytelbcmcffjpdoaa
