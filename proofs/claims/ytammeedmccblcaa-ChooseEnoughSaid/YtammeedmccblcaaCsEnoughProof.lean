/-
  ChooseEnough returns true for every input, and leaves each argument as it was. Conditions: none beyond the statement's own.
-/
import Derived.Test.YtammeedmccblcaaCsOpen
import Derived.Test.YtammeedmccblcaaCsLawN
namespace Go.Proofs.Ytammeedmccblcaa.Cs
open Go.ChangeShapes Go.WideShapes Go.ChangeAt Go.RowKit

set_option maxRecDepth 100000 in
theorem enough_lifted (os : Os) (started : os.Started) (H : Type) (enc : TypeId × Value → H) :
    ReturnsInHanded {} Try.checked os 6 .any (Rows.chooseEnoughSpec.pre6 enc Try.prog Try.f6 Rows.chooseEnoughRow.domain false) (Rows.chooseEnoughSpec.post enc Try.prog Try.f6 false true false false) := by
  refine returnsInHanded_of_change (C := Try.checked) own started (by kernel_rfl) Try.func6
    (ChangeSpec.witness6 (enc := enc) (C := Try.checked) false ⟨#[], #[.slice none 0 0, .agg #[.int .i64 0, .int .i64 0, .int .i64 0, .int .i64 0, .int .u64 0]], []⟩ 8 (by kernel_rfl) (by kernel_rfl) (by kernel_rfl) (by kernel_rfl)) ?_
  intro W base args ds gs before hval0 hW _ _
  have hval : ∀ (j : Nat) t v, Try.f6.params[j]? = some t → args[j]? = some v → Value.okWide Try.prog W .any base t v := hval0
  have hW' := hW
  obtain ⟨p, q, hA0, hV, rfl, hfz, hnd⟩ := hW
  have hA : DataW.TrodAll enc Try.prog W 0 (fun _ => true) true Try.f6.params.toList args.toList ds p := hA0
  rw [Try.params6] at hA hval
  obtain ⟨v0, v1, d0, d1, p0, p1, rfl, rfl, rfl, h0, h1⟩ := trodAll_two hA
  obtain ⟨rfl, rfl⟩ := trodVars_none hV
  obtain ⟨a0, len0, cap0, rfl⟩ := okWide_slice Try.underlying22 (hval 0 22 v0 rfl rfl)
  obtain ⟨cs1, rfl, _⟩ := okWide_struct Try.underlying25 (hval 1 25 v1 rfl rfl)
  have lt0 : ∀ x ∈ p0, x.block < W.heap.size := by obtain ⟨m, hm⟩ := h0; exact DataW.trod_lt m _ _ _ hm
  have lt1 : ∀ x ∈ p1, x.block < W.heap.size := by obtain ⟨m, hm⟩ := h1; exact DataW.trod_lt m _ _ _ hm
  obtain ⟨X, hX, hXo⟩ : ∃ X, CrR W W.heap.size (.slice a0 len0 cap0) X ∧ CoinsOk X := by obtain ⟨m, hm⟩ := h0; exact coins_open hm
  obtain ⟨need, extra, rate, tries, seed, htc, hn⟩ : ∃ need extra rate tries seed : Int, cs1.toList = tkC need extra rate tries seed ∧ need ≤ 9223372036854775807 := by obtain ⟨m, hm⟩ := h1; exact task_open hm
  obtain rfl : cs1 = (tkC need extra rate tries seed).toArray := by rw [← htc]
  clear hA0 hval0
  refine (enough_law W.heap.size _ X need extra rate tries seed W hX (Nat.le_refl _) hXo hn).mono fun e W' ⟨he, bel⟩ => ?_
  subst he
  exact ⟨_, rfl, _, _, _, [], _, [], hW', trodAll_mk1 (shut_bool Try.underlying4 _), trodAll_mk2 (Below.trod laidOut (by kernel_rfl) (of_decide_eq_true (by kernel_rfl)) h0 bel lt0) (Below.trod laidOut (by kernel_rfl) (of_decide_eq_true (by kernel_rfl)) h1 bel lt1), rfl, bel.frame _, fun h => by cases h⟩

end Go.Proofs.Ytammeedmccblcaa.Cs
namespace Go.Proofs.Ytammeedmccblcaa
open Go.ChangeShapes Go.WideShapes Go.ChangeAt Go.RowKit Cs

theorem chooseEnough_holds : Rows.ChooseEnoughSaid :=
  OpenClaim.holds_of_wide 6 Try.f6 rfl rfl rfl rfl rfl rfl rfl ⟨rfl, rfl, rfl, rfl, rfl⟩ rfl rfl rfl rfl rfl (by kernel_rfl) Try.func6 (by kernel_rfl)
    (of_decide_eq_true (by kernel_rfl)) (by unfold Func.isWrapper; first | (rw [if_pos (by decide +kernel)]; kernel_rfl) | (rw [if_neg (by decide +kernel)]; exact ⟨rfl, rfl⟩))
    (fun os started H enc _ => enough_lifted os started H enc)
end Go.Proofs.Ytammeedmccblcaa
