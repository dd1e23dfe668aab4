/-
  Texts joined: GrpRef, GrpRef2, Dig. Conditions: those of each.
-/
import Derived.Test.YtocblkacdoahfaaGreatDoorJ26
import Derived.Test.YtocblkacdoahfaaGreatDoorJ25
/-
  text.Regroup at any widths; the reference's bits and Regroup. Conditions: sizes within the reach.
-/
namespace Go.Proofs.YtocblkacdoahfaaGreatDoor.Tx
open Go.RowKit

set_option maxRecDepth 100000 in
set_option maxHeartbeats 1600000 in
theorem regroup_any (B : Nat) (x : Value) (ds : List UInt8) (f t : Int) (pad : Bool) (w : World) (hx : Byt w B x ds) (hB : B ≤ w.heap.size) (hl : ds.length ≤ 20000) :
    Calls Tryz.prog 30 #[x, .int .i64 f, .int .i64 t, .bool pad] w (RegPost w (regS f t pad ds)) := by
  by_cases hf : 1 ≤ f ∧ f ≤ 8
  · by_cases ht : 1 ≤ t ∧ t ≤ 8
    · obtain ⟨a, rfl⟩ : ∃ a : Nat, f = a := ⟨f.toNat, by omega⟩
      obtain ⟨b, rfl⟩ : ∃ b : Nat, t = b := ⟨t.toNat, by omega⟩
      exact regroup_good B x ds a b pad w hx hB hl (by omega) (by omega) (by omega) (by omega)
    · have hr := regS_out (f := f) (t := t) (ds := ds) (by omega) pad
      rw [hr]
      obtain ⟨A, c, hxf⟩ := hx.form
      subst hxf
      have W1 := Lib.hid (width_yes f w hf.1 hf.2)
      have W2 := Lib.hid (width_no t w (by omega))
      clear hr hx ht hf
      go_enter Tryz.func30, Tryz.ntmps30
      go_wp2_with fail
      refine W1.out.mono ?_
      rintro e w' ⟨rfl, rfl⟩
      go_wp2_with fail
      refine W2.out.mono ?_
      rintro e w' ⟨rfl, rfl⟩
      go_wp2
      go_ret2
      exact ⟨_, rfl, OwnB.nil _ _, Below.refl _ _⟩
  · have hr := regS_out (f := f) (t := t) (ds := ds) (by omega) pad
    rw [hr]
    obtain ⟨A, c, hxf⟩ := hx.form
    subst hxf
    have W1 := Lib.hid (width_no f w (by omega))
    clear hr hx hf
    go_enter Tryz.func30, Tryz.ntmps30
    go_wp2_with fail
    refine W1.out.mono ?_
    rintro e w' ⟨rfl, rfl⟩
    go_wp2
    go_ret2
    exact ⟨_, rfl, OwnB.nil _ _, Below.refl _ _⟩

/-- Bits, each as a byte. -/
def bytesB (l : List Nat) : List UInt8 := l.map fun x : Nat => b8 ((x : Nat) : Int)
theorem bytesB_length (l : List Nat) : (bytesB l).length = l.length := by simp [bytesB]
theorem bytesB_append (a b : List Nat) : bytesB (a ++ b) = bytesB a ++ bytesB b := by simp [bytesB]
theorem bitsV_take (n v : Nat) {m : Nat} (h : m < n) : (bitsV n v).take (m + 1) = (bitsV n v).take m ++ [v / 2 ^ (n - 1 - m) % 2] := by
  rw [List.take_add_one]
  congr 1
  unfold bitsV
  rw [List.getElem?_map, List.getElem?_range h]
  rfl

end Go.Proofs.YtocblkacdoahfaaGreatDoor.Tx

/-
  The reference's Regroup. Conditions: sizes within the reach.
-/
namespace Go.Proofs.YtocblkacdoahfaaGreatDoor.Tx
open Go.RowKit

theorem OwnB.weaken {w : World} {base b' : Nat} {v : Value} {ys : List UInt8} (h : OwnB w base v ys) (hb : b' ≤ base) : OwnB w b' v ys := by
  refine ⟨h.1, ?_⟩
  rcases h.2 with hn | ⟨g, cap, cur, rfl, hbb, rest⟩
  · exact .inl hn
  · exact .inr ⟨g, cap, cur, rfl, Nat.le_trans hb hbb, rest⟩
theorem valN_take {l : List Nat} {k y : Nat} (h : l[k]? = some y) : valN (l.take (k + 1)) = 2 * valN (l.take k) + y := by
  rw [List.take_add_one, h]
  exact valN_snoc _ _
theorem valN_take_lt {l : List Nat} (hb : Bin l) (k : Nat) : valN (l.take k) < 2 ^ k := by
  have h := valN_lt (l := l.take k) (fun x hx => hb x (List.mem_of_mem_take hx))
  exact Nat.lt_of_lt_of_le h (Nat.pow_le_pow_right (by omega) (List.length_take_le _ _))
theorem bytesB_at {l : List Nat} {k y : Nat} (h : l[k]? = some y) : (bytesB l)[k]? = some (b8 ((y : Nat) : Int)) := by
  unfold bytesB
  rw [List.getElem?_map, h]
  rfl

end Go.Proofs.YtocblkacdoahfaaGreatDoor.Tx

/-
  Digits: text.hexValue, the reference's Digit, value and place. Conditions: none.
-/
namespace Go.Proofs.YtocblkacdoahfaaGreatDoor
open Go.RowKit

end Go.Proofs.YtocblkacdoahfaaGreatDoor
