/-
  Digits: text.hexValue, the reference's Digit, value and place. Conditions: none.
-/
import Derived.Test.YtpaafkhlelljcaaDoorZeros
namespace Go.Proofs.YtpaafkhlelljcaaDoor
open Go.RowKit

set_option maxRecDepth 100000 in
set_option maxHeartbeats 800000 in
theorem hexValue_any (q : Int) (w : World) (h0 : 0 ≤ q) (h1 : q ≤ 255) :
    Calls Tryd.prog 44 #[.int .u8 q] w fun e w' => e = .returned (.int .u8 (if 15 < q then q - 6 else q)) ∧ w = w' := by
  by_cases h : 15 < q
  · have hw : IntKind.u8.wrap (q - 6) = q - 6 := by rw [IntKind.wrap_u8]; omega
    go_enter Tryd.func44, Tryd.ntmps44
    go_wp2
    go_ret
    exact ⟨rfl, rfl⟩
  · go_enter Tryd.func44, Tryd.ntmps44
    go_wp2
    go_ret
    exact ⟨rfl, rfl⟩

set_option maxRecDepth 100000 in
set_option maxHeartbeats 800000 in
theorem digit_any (q : Int) (w : World) (h0 : 0 ≤ q) (h1 : q ≤ 15) :
    Calls Tryd.prog 48 #[.int .u8 q] w fun e w' => e = .returned (.int .u8 (if q < 10 then 48 + q else 87 + q)) ∧ w = w' := by
  by_cases h : q < 10
  · go_enter Tryd.func48, Tryd.ntmps48
    go_wp2
    go_ret
    exact ⟨rfl, rfl⟩
  · go_enter Tryd.func48, Tryd.ntmps48
    go_wp2
    go_ret
    refine ⟨?_, rfl⟩
    show Ending.returned (.int .u8 (97 + q - 10)) = Ending.returned (.int .u8 (87 + q))
    have : 97 + q - 10 = 87 + q := by omega
    rw [this]

end Go.Proofs.YtpaafkhlelljcaaDoor
