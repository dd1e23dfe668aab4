/-
  The reference's turn and place. Conditions: the numbers are below 2^40.
-/
import Derived.Test.YtpaafkhlelljcaaDoorChkPure
namespace Go.Proofs.YtpaafkhlelljcaaDoor
open Go.RowKit

theorem mixN_next (up c m : Nat) : (if up / 2 ^ m % 2 = 1 then mixN up c m ^^^ gN m else mixN up c m) = mixN up c (m + 1) := rfl

/-- Where a byte stands, up to i none. -/
theorem posB_at {al : ByteArray} {c : UInt8} {i : Nat} (hi : i < al.size) (hall : ∀ (k : Nat) (d : UInt8), k < i → al.data.toList[k]? = some d → d ≠ c) (hc : al[i] = c) : posB al c = i := by
  unfold posB
  have hg := Lib.data_getElem? al i hi
  rw [hc] at hg
  have hge := Lib.indexByte_ge al.data.toList c
  by_cases h : Lib.indexByte al.data.toList c = -1
  · exact absurd hg (Lib.indexByte_none h i)
  · obtain ⟨o, ho⟩ : ∃ o : Nat, Lib.indexByte al.data.toList c = o := ⟨(Lib.indexByte al.data.toList c).toNat, by omega⟩
    obtain ⟨h1, h2⟩ := Lib.indexByte_some ho
    rw [ho]
    have h3 : ¬ i < o := fun h => h2 i h hg
    have h4 : ¬ o < i := fun h => hall o c h h1 rfl
    have : o = i := by omega
    rw [this]
theorem posB_no {al : ByteArray} {c : UInt8} (hall : ∀ (k : Nat) (d : UInt8), k < al.size → al.data.toList[k]? = some d → d ≠ c) : posB al c = -1 := by
  unfold posB
  have hge := Lib.indexByte_ge al.data.toList c
  by_cases h : Lib.indexByte al.data.toList c = -1
  · exact h
  · obtain ⟨o, ho⟩ : ∃ o : Nat, Lib.indexByte al.data.toList c = o := ⟨(Lib.indexByte al.data.toList c).toNat, by omega⟩
    have h1 := (Lib.indexByte_some ho).1
    exact absurd rfl (hall o c ((List.getElem?_eq_some_iff.1 h1).1) h1)

set_option maxRecDepth 100000 in
set_option maxHeartbeats 1600000 in
theorem place_any (al : ByteArray) (c : UInt8) (w : World) (hal : al.size ≤ 255) :
    Calls Tryd.prog 39 #[.string al, .int .u8 (c.toNat : Int)] w fun e w' => e = .returned (.int .i64 (posB al c)) ∧ w = w' := by
  go_enter Tryd.func39, Tryd.ntmps39
  go_wp2_with fail
  go_loopw [5] (fun j wr => ∃ i : Nat, i ≤ al.size ∧ j = .int .i64 i ∧ wr = w ∧ Hid (∀ (k : Nat) (d : UInt8), k < i → al.data.toList[k]? = some d → d ≠ c)) (fun j _ => al.size - (intOf j).toNat)
  case atStart => exact ⟨0, Nat.zero_le _, rfl, rfl, Lib.hid (fun k d h => by omega)⟩
  case round =>
    obtain ⟨i, hi, rfl, rfl, hall⟩ := hrel
    by_cases hlt : i < al.size
    · by_cases hq : al[i] = c
      · have hd : (((al[i]'hlt).toNat : Int) == (c.toNat : Int)) = true := by rw [hq]; simp
        have HP := Lib.hid (posB_at hlt hall.out hq)
        clear hq
        go_wp2
        go_ret
        exact ⟨by rw [HP.out]; rfl, rfl⟩
      · have hd : (((al[i]'hlt).toNat : Int) == (c.toNat : Int)) = false := by
          have : (al[i]'hlt).toNat ≠ c.toNat := fun h => hq (UInt8.toNat_inj.1 h)
          simp; omega
        have HA : Hid (∀ (k : Nat) (d : UInt8), k < i + 1 → al.data.toList[k]? = some d → d ≠ c) := Lib.hid (fun k d hk hd2 => by
          by_cases hki : k < i
          · exact hall.out k d hki hd2
          · have : k = i := by omega
            subst this
            rw [Lib.data_getElem? al k hlt] at hd2
            injection hd2 with hd2
            rw [← hd2]
            exact hq)
        clear hq hall
        go_wp2
        refine ⟨⟨i + 1, by omega, by go_num, trivial, HA⟩, by simp [intOf]; omega⟩
    · have HP := Lib.hid (posB_no (al := al) (c := c) (fun k d hk hd => hall.out k d (by omega) hd))
      clear hall
      go_wp2
      go_ret
      exact ⟨by rw [HP.out]; rfl, rfl⟩
end Go.Proofs.YtpaafkhlelljcaaDoor
