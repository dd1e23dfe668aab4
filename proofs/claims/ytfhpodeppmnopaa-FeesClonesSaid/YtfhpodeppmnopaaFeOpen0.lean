/-
  What the fees laws' texts need beside: the knob, the lay-out, an array that came in. Conditions: none.
-/
import Derived.Test.YtfhpodeppmnopaaFeName
import Derived.Test.YtfhpodeppmnopaaInts
import Derived.Test.YtfhpodeppmnopaaRows
import Derived.ChangeSame
import Derived.JoinedOf
import Derived.JoinedAt
import Derived.Deep.Slices
import Derived.Deep.Fields
import Derived.ProofKit
import Derived.OpenShut
import Derived.ChangeOld
import Derived.Lib.LaidTab
namespace Go.Proofs.Ytfhpodeppmnopaa
open Go.ChangeShapes Go.WideShapes Go.ChangeAt Go.RowKit

theorem own : ownKnob Try.prog.godebug = none := by kernel_rfl
def intOfV : Value → Int
  | .int _ z => z
  | _ => 0
theorem arr_open {H : Type} {enc : TypeId × Value → H} {P : Program} {w : World} {base b0 : Nat} {sp : Nat → Bool} {held : Bool} {r : Reach} {t e : TypeId} {n : Nat} {k : IntKind} {v : Value} {d : DataW H} {p : List MemPlace}
    (ht : P.underlying t = some (.array n e)) (he : P.underlying e = some (.int k)) (hce : P.cellsOf e = 1) (hct : P.cellsOf t = n) (hv : Value.okWide P w r b0 t v) (h : DataW.Trod enc P w base sp held t v d p) :
    ∃ zs : List Int, v = .agg (zs.map (Value.int k)).toArray ∧ zs.length = n ∧ ∀ z ∈ zs, (Lit.int k z).wf = true := by
  simp only [Value.okWide, ht] at hv
  obtain ⟨cs, rfl, hsz, _⟩ := hv
  rw [hct] at hsz
  obtain ⟨fuel, hf⟩ := h
  cases fuel with
  | zero => simp [DataW.trod] at hf
  | succ fuel =>
    simp only [DataW.trod, ht, hce, hct, Nat.mul_one, Value.cells] at hf
    split at hf
    · obtain ⟨xs, hm, hx⟩ := Option.map_eq_some_iff.1 hf
      have key : ∀ i, i < n → ∃ z, cs.toList[i]? = some (.int k z) ∧ (Lit.int k z).wf = true := by
        intro i hi
        obtain ⟨b, hb, hf2⟩ := Lib.mapM_at hm i i (by simp [hi])
        obtain ⟨z, hc, _, hw⟩ := DataW.trod_int he hf2
        refine ⟨z, ?_, hw⟩
        have := congrArg (·[0]?) hc
        simpa [List.getElem?_take, List.getElem?_drop] using this
      have hl : cs.toList.length = n := by simpa using hsz
      refine ⟨cs.toList.map intOfV, ?_, by simp [hsz], ?_⟩
      · congr 1
        apply Array.toList_inj.1
        rw [List.map_map]
        apply List.ext_getElem?
        intro i
        rw [List.getElem?_map]
        by_cases hi : i < n
        · obtain ⟨z, hz, _⟩ := key i hi
          rw [hz]
          rfl
        · rw [List.getElem?_eq_none (by omega)]
          rfl
      · intro z hz
        obtain ⟨u, hu, rfl⟩ := List.mem_map.1 hz
        obtain ⟨i, hi⟩ := List.mem_iff_getElem?.1 hu
        obtain ⟨z, hz2, hw⟩ := key i (by have := (List.getElem?_eq_some_iff.1 hi).1; omega)
        rw [hi] at hz2
        injection hz2 with hz2
        rw [hz2]
        exact hw
    · cases hf
theorem two_ints {zs : List Int} (h : zs.length = 2) : ∃ f t, zs = [f, t] := by
  match zs, h with
  | [f, t], _ => exact ⟨f, t, rfl⟩
end Go.Proofs.Ytfhpodeppmnopaa
