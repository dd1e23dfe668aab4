/-
  The reference's rot. Conditions: none.
-/
import Derived.Test.YtnmegdhidpkklaaDoorWords
namespace Go.Proofs.YtnmegdhidpkklaaDoor
open Go.RowKit
set_option maxHeartbeats 800000 in
theorem rrot_any (x : Int) (n : Nat) (w : World) (_hx : U32 x) (hn : n ≤ 31) :
    Calls Tryd.prog 41 #[.int .u32 x, .int .i64 n] w fun e w' => e = .returned (.int .u32 (rot32 n x)) ∧ w = w' := by
  obtain ⟨q, hq⟩ : ∃ q, q = 32 - n := ⟨_, rfl⟩
  have e3 : (32 : Int) - (n : Int) = (q : Int) := by omega
  have hr : rot32 n x = bits .or .u32 (x * 2 ^ n % 4294967296) (x / 2 ^ q) := by rw [hq]; rfl
  have HR := Lib.hid hr
  have hq32 : q ≤ 32 := by omega
  clear hr hq
  go_enter Tryd.func41, Tryd.ntmps41
  go_wp2
  go_ret
  exact ⟨by rw [HR.out]; rfl, rfl⟩
end Go.Proofs.YtnmegdhidpkklaaDoor
