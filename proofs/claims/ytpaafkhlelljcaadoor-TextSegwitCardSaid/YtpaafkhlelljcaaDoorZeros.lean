/-
  text.leadingZeros. Conditions: sizes within the reach.
-/
import Derived.Test.YtpaafkhlelljcaaDoorFives
namespace Go.Proofs.YtpaafkhlelljcaaDoor
open Go.RowKit

def zerosN (xs : List UInt8) : Nat := (xs.takeWhile (· == 0)).length

theorem zerosN_all {xs : List UInt8} (h : ∀ (i : Nat) (c : UInt8), xs[i]? = some c → c = 0) : zerosN xs = xs.length := by
  unfold zerosN
  have hall : ∀ l : List UInt8, (∀ d ∈ l, d = 0) → l.takeWhile (· == 0) = l := by
    intro l
    induction l with
    | nil => intro _; rfl
    | cons a l ih =>
      intro hl
      rw [List.takeWhile_cons_of_pos (by simp [hl a (List.mem_cons_self)]), ih fun d hd => hl d (List.mem_cons_of_mem _ hd)]
  rw [hall xs fun d hd => by obtain ⟨i, hi⟩ := List.mem_iff_getElem?.1 hd; exact h i d hi]
theorem zerosN_at {xs : List UInt8} {i : Nat} {c : UInt8} (hall : ∀ (j : Nat) (d : UInt8), j < i → xs[j]? = some d → d = 0) (hi : xs[i]? = some c) (hc : c ≠ 0) : zerosN xs = i := by
  have hlt := (List.getElem?_eq_some_iff.1 hi).1
  have hx : xs = xs.take i ++ c :: xs.drop (i + 1) := by
    have h := List.getElem?_eq_some_iff.1 hi
    conv => lhs; rw [← List.take_append_drop i xs, List.drop_eq_getElem_cons hlt, h.2]
  have ht : ∀ d ∈ xs.take i, (d == 0) = true := by
    intro d hd
    obtain ⟨j, hj⟩ := List.mem_iff_getElem?.1 hd
    rw [List.getElem?_take] at hj
    split at hj
    · next h => simp [hall j d h hj]
    · cases hj
  unfold zerosN
  rw [hx, List.takeWhile_append_of_pos ht, List.takeWhile_cons_of_neg (by simpa using hc)]
  simp
  omega

set_option maxRecDepth 100000 in
set_option maxHeartbeats 1600000 in
theorem zeros_any (B : Nat) (x : Value) (xs : List UInt8) (w : World) (hx : Byt w B x xs) (hl : xs.length ≤ 60000) :
    Calls Tryd.prog 63 #[x] w fun e w' => e = .returned (.int .i64 (zerosN xs)) ∧ w = w' := by
  obtain ⟨A, c, hxf⟩ := hx.form
  subst hxf
  have hX := Lib.hid hx
  clear hx
  go_enter Tryd.func63, Tryd.ntmps63
  go_wp2_with fail
  go_loopw [7] (fun j wr => ∃ i : Nat, i ≤ xs.length ∧ j = .int .i64 i ∧ wr = w ∧ Hid (∀ (k : Nat) (d : UInt8), k < i → xs[k]? = some d → d = 0)) (fun j _ => xs.length - (intOf j).toNat)
  case atStart => exact ⟨0, Nat.zero_le _, rfl, rfl, Lib.hid (fun k d h => by omega)⟩
  case round =>
    obtain ⟨i, hi, rfl, rfl, hall⟩ := hrel
    by_cases hlt : i < xs.length
    · obtain ⟨A', c', e0, _, _, _, h4⟩ := hX.out
      injection e0 with e1 e2 e3
      subst e1 e3
      obtain ⟨b, o, rfl, hb, hbc⟩ := h4 (by rintro rfl; simp at hlt)
      have hci := hbc i _ (List.getElem?_eq_getElem hlt)
      obtain ⟨q, hq⟩ : ∃ q, q = xs[i] := ⟨_, rfl⟩
      rw [← hq] at hci
      have hbi : wr.cell? ⟨b, o + i, none⟩ = some (.int .u8 (q.toNat : Int)) := hci
      have hqi : xs[i]? = some q := by rw [hq]; exact List.getElem?_eq_getElem hlt
      have HQ := Lib.hid hqi
      clear hci hbc h4 hq hqi
      by_cases hz : q = 0
      · have hb0 : ((q.toNat : Int) != 0) = false := by rw [hz]; rfl
        go_wp2
        refine ⟨⟨i + 1, by omega, by go_num, trivial, Lib.hid (fun k d hk hd => ?_)⟩, by simp [intOf]; omega⟩
        by_cases hki : k < i
        · exact hall.out k d hki hd
        · have : k = i := by omega
          subst this
          rw [HQ.out] at hd
          injection hd with hd
          rw [← hd, hz]
      · have hb1 : ((q.toNat : Int) != 0) = true := by
          have : q.toNat ≠ 0 := fun h => hz (UInt8.toNat_inj.1 h)
          simp; omega
        have hr := zerosN_at hall.out HQ.out hz
        have HR := Lib.hid hr
        clear hr
        go_wp2
        go_ret
        exact ⟨by rw [HR.out]; rfl, rfl⟩
    · have hr : zerosN xs = xs.length := zerosN_all (fun j d hj => hall.out j d (by have := (List.getElem?_eq_some_iff.1 hj).1; omega) hj)
      have HR := Lib.hid hr
      clear hr
      go_wp2
      go_ret
      exact ⟨by rw [HR.out]; rfl, rfl⟩

end Go.Proofs.YtpaafkhlelljcaaDoor
