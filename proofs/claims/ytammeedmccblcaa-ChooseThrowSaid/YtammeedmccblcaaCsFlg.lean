/-
  The flags of a stack of choices. Conditions: none.
-/
import Derived.Test.YtammeedmccblcaaCsBack
import Derived.Test.YtammeedmccblcaaCsRsum
namespace Go.Proofs.Ytammeedmccblcaa.Cs

def flg (q : List Bool) (n : Nat) : List Bool := q.reverse ++ List.replicate (n - q.length) false
theorem flg_length {q : List Bool} {n : Nat} (h : q.length ≤ n) : (flg q n).length = n := by unfold flg; rw [List.length_append, List.length_reverse, List.length_replicate]; omega
theorem flg_start (n : Nat) : flg [] n = flags 0 n := rfl
theorem flg_pop {q : List Bool} {n : Nat} (h : q.length < n) : flg (false :: q) n = flg q n := by
  unfold flg
  rw [List.length_cons, show n - q.length = (n - (q.length + 1)) + 1 by omega, List.replicate_succ, List.reverse_cons, List.append_assoc]
  rfl
theorem flg_at {q : List Bool} {n : Nat} (b : Bool) (_ : q.length < n) : (flg (b :: q) n)[q.length]? = some b := by
  unfold flg
  rw [List.reverse_cons, List.append_assoc, List.getElem?_append_right (by rw [List.length_reverse]; exact Nat.le_refl _), List.length_reverse, Nat.sub_self]
  rfl
theorem flg_set {q : List Bool} {n : Nat} (b c : Bool) (_ : q.length < n) : (flg (b :: q) n).set q.length c = flg (c :: q) n := by
  unfold flg
  rw [List.reverse_cons, List.reverse_cons, List.append_assoc, List.append_assoc, List.set_append_right _ _ (by rw [List.length_reverse]; exact Nat.le_refl _), List.length_reverse, Nat.sub_self]
  rfl
theorem flg_push {q : List Bool} {n : Nat} (h : q.length < n) : (flg q n).set q.length true = flg (true :: q) n := by
  rw [← flg_pop h, flg_set false true h]
theorem pick_none : ∀ (l : List Cn) (m : Nat), pick l (List.replicate m false) = []
  | [], m => by cases m <;> rfl
  | _ :: _, 0 => rfl
  | c :: l, m + 1 => by
    rw [List.replicate_succ]
    exact pick_none l m
theorem pick_app : ∀ (l : List Cn) (f : List Bool) (m : Nat), pick l (f ++ List.replicate m false) = pick (l.take f.length) f
  | l, [], m => by
    rw [List.nil_append, pick_none]
    cases l <;> rfl
  | [], b :: f, m => rfl
  | c :: l, b :: f, m => by
    have ih := pick_app l f m
    rw [List.cons_append, List.length_cons, List.take_succ_cons]
    unfold pick
    rw [ih]
theorem pick_flg {H : List Cn} {q : List Bool} : pick H (flg q H.length) = tookF H q := by
  unfold flg tookF
  rw [pick_app, List.length_reverse]
theorem backQ_len : ∀ q : List Bool, (backQ q).length ≤ q.length
  | [] => Nat.le_refl _
  | false :: q => Nat.le_succ_of_le (backQ_len q)
  | true :: _ => Nat.le_refl _
theorem loopF_found {need extra : Int} {H : List Cn} {t : Nat} {q : List Bool} (h1 : need ≤ sumD (tookF H q)) (h2 : sumD (tookF H q) - need ≤ extra) : loopF need extra H (t + 1) q = (0, tookF H q) := if_pos ⟨h1, h2⟩
theorem loopF_push {need extra : Int} {H : List Cn} {t : Nat} {q : List Bool} (h1 : sumD (tookF H q) < need) (h2 : need ≤ sumD (tookF H q) + sumD (H.drop q.length)) (h3 : q.length < H.length) : loopF need extra H (t + 1) q = loopF need extra H t (true :: q) := by
  unfold loopF
  rw [if_neg (by omega), if_pos ⟨h1, h2, h3⟩]
  cases t <;> rfl
theorem loopF_back {need extra : Int} {H : List Cn} {t : Nat} {q : List Bool} (h1 : ¬ (need ≤ sumD (tookF H q) ∧ sumD (tookF H q) - need ≤ extra)) (h2 : ¬ (sumD (tookF H q) < need ∧ need ≤ sumD (tookF H q) + sumD (H.drop q.length) ∧ q.length < H.length)) : loopF need extra H (t + 1) q = contF need extra H t q := by
  unfold loopF contF
  rw [if_neg h1, if_neg h2]
end Go.Proofs.Ytammeedmccblcaa.Cs
