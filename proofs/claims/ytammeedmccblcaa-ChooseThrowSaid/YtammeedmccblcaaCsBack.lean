/-
  The reference's search as a machine with a stack of choices (the last one first), and that it does what the recursive search does. Conditions: none.
-/
import Derived.Test.YtammeedmccblcaaCsPlac
import Derived.Test.YtammeedmccblcaaCsBranch
namespace Go.Proofs.Ytammeedmccblcaa.Cs

/-- What a stack of choices takes of the coins. -/
def tookF (H : List Cn) (q : List Bool) : List Cn := pick (H.take q.length) q.reverse
/-- Back to the last coin that was taken: it is left out. -/
def backQ : List Bool → List Bool
  | [] => []
  | false :: q => backQ q
  | true :: q => false :: q
def loopF (need extra : Int) (H : List Cn) : Nat → List Bool → Int × List Cn
  | 0, _ => (7, [])
  | t + 1, q =>
    if need ≤ sumD (tookF H q) ∧ sumD (tookF H q) - need ≤ extra then (0, tookF H q)
    else if sumD (tookF H q) < need ∧ need ≤ sumD (tookF H q) + sumD (H.drop q.length) ∧ q.length < H.length then loopF need extra H t (true :: q)
    else if backQ q = [] then (7, []) else loopF need extra H t (backQ q)
def contF (need extra : Int) (H : List Cn) (t : Nat) (q : List Bool) : Int × List Cn := if backQ q = [] then (7, []) else loopF need extra H t (backQ q)
theorem loopF_zero (need extra : Int) (H : List Cn) (q : List Bool) : loopF need extra H 0 q = (7, []) := rfl
theorem contF_zero (need extra : Int) (H : List Cn) (q : List Bool) : contF need extra H 0 q = (7, []) := by unfold contF; split <;> rfl
theorem contF_true (need extra : Int) (H : List Cn) (t : Nat) (q : List Bool) : contF need extra H t (true :: q) = loopF need extra H t (false :: q) := if_neg (by simp [backQ])
theorem contF_false (need extra : Int) (H : List Cn) (t : Nat) (q : List Bool) : contF need extra H t (false :: q) = contF need extra H t q := rfl
theorem took_push {H : List Cn} {q : List Bool} {c : Cn} (b : Bool) (hc : H[q.length]? = some c) : tookF H (b :: q) = tookF H q ++ (if b then [c] else []) := by
  have hl := (List.getElem?_eq_some_iff.1 hc).1
  unfold tookF
  rw [List.length_cons, List.take_add_one, hc, Option.toList_some, List.reverse_cons, pick_snoc _ _ _ _ (by rw [List.length_take, List.length_reverse]; omega)]
/-- What the search from a place on says of the machine. -/
def saysF (need extra : Int) (H : List Cn) (q : List Bool) (r : Bool × List Cn × Nat) : Int × List Cn := if r.1 then (0, tookF H q ++ r.2.1) else contF need extra H r.2.2 q
theorem loop_step (need extra : Int) (H : List Cn) : ∀ (l : List Cn) (t : Nat) (q : List Bool), q.length ≤ H.length → H.drop q.length = l → loopF need extra H t q = saysF need extra H q (stepF need extra l t (sumD (tookF H q)) (sumD l))
  | [], 0, q, _, _ => by unfold stepF saysF; simp [loopF_zero, contF_zero]
  | _ :: _, 0, q, _, _ => by unfold stepF saysF; simp [loopF_zero, contF_zero]
  | [], t + 1, q, hq, hd => by
    have hlen : q.length = H.length := by
      have := congrArg List.length hd
      rw [List.length_drop, List.length_nil] at this
      omega
    unfold loopF stepF saysF
    rw [if_neg (show ¬ t + 1 = 0 by omega)]
    by_cases h1 : need ≤ sumD (tookF H q) ∧ sumD (tookF H q) - need ≤ extra
    · rw [if_pos h1]
      simp [h1]
    · rw [if_neg h1, if_neg (by omega)]
      simp [h1, contF]
  | c :: l, t + 1, q, hq, hd => by
    have hlen : q.length < H.length := by
      have := congrArg List.length hd
      rw [List.length_drop, List.length_cons] at this
      omega
    have hc : H[q.length]? = some c := by
      have : (H.drop q.length)[0]? = some c := by rw [hd]; rfl
      rwa [List.getElem?_drop, Nat.add_zero] at this
    have hdl : H.drop (q.length + 1) = l := by
      rw [← List.drop_drop, hd]; rfl
    have hsc : sumD (c :: l) = c.1 + sumD l := rfl
    unfold loopF stepF
    rw [if_neg (show ¬ t + 1 = 0 by omega)]
    by_cases h1 : need ≤ sumD (tookF H q)
    · rw [if_pos h1]
      by_cases h2 : sumD (tookF H q) - need ≤ extra
      · rw [if_pos ⟨h1, h2⟩]
        simp [saysF, h2]
      · rw [if_neg (fun h => h2 h.2), if_neg (by omega)]
        simp [saysF, h2, contF]
    · rw [if_neg h1, if_neg (fun h => h1 h.1)]
      by_cases h3 : sumD (tookF H q) + sumD (c :: l) < need
      · rw [if_pos h3, if_neg (by rw [hd]; omega)]
        simp [saysF, contF]
      · rw [if_neg h3, if_pos ⟨by omega, by rw [hd]; omega, hlen⟩]
        have ih1 := loop_step need extra H l t (true :: q) (by rw [List.length_cons]; exact hlen) (by rw [List.length_cons]; exact hdl)
        have ih2 := fun t' => loop_step need extra H l t' (false :: q) (by rw [List.length_cons]; exact hlen) (by rw [List.length_cons]; exact hdl)
        have e1 : sumD (tookF H (true :: q)) = sumD (tookF H q) + c.1 := by rw [took_push true hc, sumD_append]; simp [sumD]
        have e2 : tookF H (false :: q) = tookF H q := by rw [took_push false hc]; simp
        have e3 : sumD (c :: l) - c.1 = sumD l := by omega
        rw [ih1, e1, Nat.add_sub_cancel, e3]
        rcases hs : stepF need extra l t (sumD (tookF H q) + c.1) (sumD l) with ⟨b, p, t'⟩
        cases b
        · simp only [saysF, Bool.false_eq_true, if_false]
          rw [contF_true, ih2 t', e2]
          simp only [saysF]
          rw [contF_false, e2]
        · simp only [saysF, if_true]
          rw [took_push true hc]
          simp
theorem loop_branch (need extra : Int) (t : Nat) (H : List Cn) : loopF need extra H t [] = branchR need extra t H (sumD H) := by
  rw [loop_step need extra H H t [] (Nat.zero_le _) rfl]
  unfold saysF branchR contF
  have ht : tookF H [] = [] := by unfold tookF; cases H <;> rfl
  rw [ht]
  simp only [backQ, if_true, List.nil_append]
  rfl
end Go.Proofs.Ytammeedmccblcaa.Cs
