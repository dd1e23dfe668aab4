/-
  The reference's turn and place. Conditions: the numbers are below 2^40.
-/
import Derived.Test.YtginbfeimiihlaaDoorChkPure
namespace Go.Proofs.YtginbfeimiihlaaDoor
open Go.RowKit

theorem mixN_next (up c m : Nat) : (if up / 2 ^ m % 2 = 1 then mixN up c m ^^^ gN m else mixN up c m) = mixN up c (m + 1) := rfl

set_option maxRecDepth 100000 in
set_option maxHeartbeats 1600000 in
theorem turn_any (c v : Nat) (w : World) (hc : c < 1099511627776) (hv : v < 256) :
    Calls Tryd.prog 30 #[.int .u64 c, .int .i64 v] w fun e w' => e = .returned (.int .u64 ((turnN c v : Nat) : Int)) ∧ Below w.heap.size w w' := by
  have hx : bits .xor .u64 ((c : Int) % 34359738368 * 32) (v : Int) = ((c % 34359738368 * 32 ^^^ v : Nat) : Int) := by
    have h2 : ((c : Int) % 34359738368 * 32) = ((c % 34359738368 * 32 : Nat) : Int) := by omega
    rw [h2, bits_xor_u64_nat _ _ (by omega) (by omega)]
  have hwv : IntKind.u64.wrap (v : Int) = v := by rw [IntKind.wrap_u64]; omega
  have hu : ((c : Int) / 34359738368) = ((c / 34359738368 : Nat) : Int) := by omega
  obtain ⟨up, hup⟩ : ∃ up, up = c / 34359738368 := ⟨_, rfl⟩
  obtain ⟨z, hz⟩ : ∃ z, z = c % 34359738368 * 32 ^^^ v := ⟨_, rfl⟩
  have ht : turnN c v = mixN up z 5 := by rw [hup, hz]; rfl
  have hz2 : z < 1099511627776 := by rw [hz]; exact Nat.xor_lt_two_pow (n := 40) (by omega) (by omega)
  have hu2 : up < 1099511627776 := by omega
  rw [← hup] at hu
  rw [← hz] at hx
  rw [ht]
  have HT := Lib.hid ht
  clear ht hup hz
  go_enter Tryd.func30, Tryd.ntmps30
  go_wp2_with fail
  clear hx hwv hu
  go_loopw [7, 6, 0] (fun j b cc wr => ∃ m : Nat, m ≤ 5 ∧ j = .int .i64 m ∧ b = .int .u64 ((up / 2 ^ m : Nat) : Int) ∧ cc = .int .u64 ((mixN up z m : Nat) : Int) ∧ wr = w.alloc (.cells #[.int .u64 1056006543753, .int .u64 730107360018, .int .u64 118834127661, .int .u64 236335490938, .int .u64 430795026429] 52)) (fun j _ _ _ => 5 - (intOf j).toNat)
  case atStart => exact ⟨0, by omega, rfl, by simp, rfl, rfl⟩
  case round =>
    obtain ⟨m, hm, rfl, rfl, rfl, rfl⟩ := hrel
    by_cases h5 : m < 5
    · obtain ⟨b, hb⟩ : ∃ b, b = up / 2 ^ m := ⟨_, rfl⟩
      obtain ⟨y, hy⟩ : ∃ y, y = mixN up z m := ⟨_, rfl⟩
      have hnext := mixN_next up z m
      rw [← hb, ← hy] at hnext
      have hb2 : up / 2 ^ (m + 1) = b / 2 := by rw [hb, Nat.pow_succ, Nat.div_div_eq_div_mul]
      have hbb : b < 1099511627776 := by rw [hb]; exact Nat.lt_of_le_of_lt (Nat.div_le_self _ _) hu2
      have hyb : y < 1099511627776 := by rw [hy]; exact mixN_lt up z hz2 m
      have hgb := gN_lt m
      have hxor := bits_xor_u64_nat y (gN m) (by omega) (by omega)
      have hwb : IntKind.u64.wrap ((b : Int) / 2) = (b : Int) / 2 := by rw [IntKind.wrap_u64]; omega
      rw [← hb, ← hy]
      have HB := Lib.hid hb2
      clear hb hy hb2
      by_cases hodd : b % 2 = 1
      · rw [if_pos hodd] at hnext
        have HN := Lib.hid hnext
        have hd : ((b : Int) % 2 == 1) = true := by simp; omega
        clear hnext
        obtain rfl | rfl | rfl | rfl | rfl : m = 0 ∨ m = 1 ∨ m = 2 ∨ m = 3 ∨ m = 4 := by omega
        · simp only [gN] at hxor
          go_wp2
          exact ⟨⟨1, by omega, rfl, congrArg (Value.int .u64) (by rw [HB.out]; omega), congrArg (Value.int .u64) (by rw [← HN.out]; first | rfl | exact hxor), trivial⟩, by simp [intOf]⟩
        · simp only [gN] at hxor
          go_wp2
          exact ⟨⟨2, by omega, rfl, congrArg (Value.int .u64) (by rw [HB.out]; omega), congrArg (Value.int .u64) (by rw [← HN.out]; first | rfl | exact hxor), trivial⟩, by simp [intOf]⟩
        · simp only [gN] at hxor
          go_wp2
          exact ⟨⟨3, by omega, rfl, congrArg (Value.int .u64) (by rw [HB.out]; omega), congrArg (Value.int .u64) (by rw [← HN.out]; first | rfl | exact hxor), trivial⟩, by simp [intOf]⟩
        · simp only [gN] at hxor
          go_wp2
          exact ⟨⟨4, by omega, rfl, congrArg (Value.int .u64) (by rw [HB.out]; omega), congrArg (Value.int .u64) (by rw [← HN.out]; first | rfl | exact hxor), trivial⟩, by simp [intOf]⟩
        · simp only [gN] at hxor
          go_wp2
          exact ⟨⟨5, by omega, rfl, congrArg (Value.int .u64) (by rw [HB.out]; omega), congrArg (Value.int .u64) (by rw [← HN.out]; first | rfl | exact hxor), trivial⟩, by simp [intOf]⟩
      · rw [if_neg hodd] at hnext
        have HN := Lib.hid hnext
        have hd : ((b : Int) % 2 == 1) = false := by simp; omega
        clear hnext
        go_wp2
        exact ⟨⟨m + 1, by omega, by go_num, congrArg (Value.int .u64) (by rw [HB.out]; omega), congrArg (Value.int .u64) (by rw [← HN.out]), trivial⟩, by simp [intOf]; omega⟩
    · have hm5 : m = 5 := by omega
      subst hm5
      go_wp2
      go_ret
      exact ⟨rfl, (Below.refl _ _).alloc (Nat.le_refl _) _⟩

/-- Where a byte stands, up to i none. -/
theorem posB_at {al : ByteArray} {c : UInt8} {i : Nat} (hi : i < al.size) (hall : ∀ (k : Nat) (d : UInt8), k < i → al.data.toList[k]? = some d → d ≠ c) (hc : al[i] = c) : posB al c = i := by
  unfold posB
  have hg := Lib.data_getElem? al i hi
  rw [hc] at hg
  have hge := Lib.indexByte_ge al.data.toList c
  by_cases h : Lib.indexByte al.data.toList c = -1
  · exact absurd hg (Lib.indexByte_none h i)
  · obtain ⟨o, ho⟩ : ∃ o : Nat, Lib.indexByte al.data.toList c = o := ⟨(Lib.indexByte al.data.toList c).toNat, by omega⟩
    obtain ⟨h1, h2⟩ := Lib.indexByte_some ho
    rw [ho]
    have h3 : ¬ i < o := fun h => h2 i h hg
    have h4 : ¬ o < i := fun h => hall o c h h1 rfl
    have : o = i := by omega
    rw [this]
theorem posB_no {al : ByteArray} {c : UInt8} (hall : ∀ (k : Nat) (d : UInt8), k < al.size → al.data.toList[k]? = some d → d ≠ c) : posB al c = -1 := by
  unfold posB
  have hge := Lib.indexByte_ge al.data.toList c
  by_cases h : Lib.indexByte al.data.toList c = -1
  · exact h
  · obtain ⟨o, ho⟩ : ∃ o : Nat, Lib.indexByte al.data.toList c = o := ⟨(Lib.indexByte al.data.toList c).toNat, by omega⟩
    have h1 := (Lib.indexByte_some ho).1
    exact absurd rfl (hall o c ((List.getElem?_eq_some_iff.1 h1).1) h1)

set_option maxHeartbeats 1600000 in
theorem place_any (al : ByteArray) (c : UInt8) (w : World) (hal : al.size ≤ 255) :
    Calls Tryd.prog 29 #[.string al, .int .u8 (c.toNat : Int)] w fun e w' => e = .returned (.int .i64 (posB al c)) ∧ w = w' := by
  go_enter Tryd.func29, Tryd.ntmps29
  go_wp2_with fail
  go_loopw [5] (fun j wr => ∃ i : Nat, i ≤ al.size ∧ j = .int .i64 i ∧ wr = w ∧ Hid (∀ (k : Nat) (d : UInt8), k < i → al.data.toList[k]? = some d → d ≠ c)) (fun j _ => al.size - (intOf j).toNat)
  case atStart => exact ⟨0, Nat.zero_le _, rfl, rfl, Lib.hid (fun k d h => by omega)⟩
  case round =>
    obtain ⟨i, hi, rfl, rfl, hall⟩ := hrel
    by_cases hlt : i < al.size
    · by_cases hq : al[i] = c
      · have hd : (((al[i]'hlt).toNat : Int) == (c.toNat : Int)) = true := by rw [hq]; simp
        have HP := Lib.hid (posB_at hlt hall.out hq)
        clear hq
        go_wp2
        go_ret
        exact ⟨by rw [HP.out]; rfl, rfl⟩
      · have hd : (((al[i]'hlt).toNat : Int) == (c.toNat : Int)) = false := by
          have : (al[i]'hlt).toNat ≠ c.toNat := fun h => hq (UInt8.toNat_inj.1 h)
          simp; omega
        have HA : Hid (∀ (k : Nat) (d : UInt8), k < i + 1 → al.data.toList[k]? = some d → d ≠ c) := Lib.hid (fun k d hk hd2 => by
          by_cases hki : k < i
          · exact hall.out k d hki hd2
          · have : k = i := by omega
            subst this
            rw [Lib.data_getElem? al k hlt] at hd2
            injection hd2 with hd2
            rw [← hd2]
            exact hq)
        clear hq hall
        go_wp2
        refine ⟨⟨i + 1, by omega, by go_num, trivial, HA⟩, by simp [intOf]; omega⟩
    · have HP := Lib.hid (posB_no (al := al) (c := c) (fun k d hk hd => hall.out k d (by omega) hd))
      clear hall
      go_wp2
      go_ret
      exact ⟨by rw [HP.out]; rfl, rfl⟩
end Go.Proofs.YtginbfeimiihlaaDoor
