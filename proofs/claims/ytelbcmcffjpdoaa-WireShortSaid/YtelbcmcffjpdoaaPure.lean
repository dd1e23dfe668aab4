/-
  What was written is read again: plain facts on lists of bytes. Conditions: none.
-/
import Derived.Test.YtelbcmcffjpdoaaWrite
namespace Go.Proofs.Ytelbcmcffjpdoaa

theorem val_low (k : Nat) : ∀ n : Int, 0 ≤ n → val (low n k) = n % 256 ^ k := by
  induction k with
  | zero => intro n _; simp [low, val, Int.emod_one]
  | succ k ih =>
    intro n hn
    have h := ih (n / 256) (by omega)
    simp only [low, val, b8_toNat, h]
    have hp : (0 : Int) < 256 ^ k := Int.pow_pos (by decide)
    rw [Int.pow_succ, Int.mul_comm (256 ^ k) 256]
    have e1 : n % (256 * 256 ^ k) = n % 256 + 256 * (n / 256 % 256 ^ k) := by
      have h1 : n = 256 * (n / 256) + n % 256 := (Int.mul_ediv_add_emod n 256).symm
      have h2 : n / 256 = 256 ^ k * (n / 256 / 256 ^ k) + n / 256 % 256 ^ k := (Int.mul_ediv_add_emod (n / 256) (256 ^ k)).symm
      have h3 : 0 ≤ n / 256 % 256 ^ k ∧ n / 256 % 256 ^ k < 256 ^ k := ⟨Int.emod_nonneg _ (by omega), Int.emod_lt_of_pos _ hp⟩
      have h4 : n = (n % 256 + 256 * (n / 256 % 256 ^ k)) + (256 * 256 ^ k) * (n / 256 / 256 ^ k) := by
        have h5 : 256 * (n / 256) = 256 * (256 ^ k * (n / 256 / 256 ^ k)) + 256 * (n / 256 % 256 ^ k) := by
          rw [← Int.mul_add]; exact congrArg (fun q => 256 * q) h2
        rw [Int.mul_assoc]
        omega
      have h6 : (n % 256 + 256 * (n / 256 % 256 ^ k)) % (256 * 256 ^ k) = n % 256 + 256 * (n / 256 % 256 ^ k) := by
        apply Int.emod_eq_of_lt
        · omega
        · omega
      calc n % (256 * 256 ^ k) = ((n % 256 + 256 * (n / 256 % 256 ^ k)) + (256 * 256 ^ k) * (n / 256 / 256 ^ k)) % (256 * 256 ^ k) := by rw [← h4]
        _ = (n % 256 + 256 * (n / 256 % 256 ^ k)) % (256 * 256 ^ k) := by rw [Int.add_mul_emod_self_left]
        _ = _ := h6
    rw [e1]

theorem take_app {us bs : List UInt8} {k : Nat} (h : us.length = k) : (us ++ bs).take k = us := by rw [← h, List.take_left]
theorem drop_app {us bs : List UInt8} {k : Nat} (h : us.length = k) : (us ++ bs).drop k = bs := by rw [← h, List.drop_left]

theorem numR_low (n : Int) (k : Nat) (ys : List UInt8) (hn : 0 ≤ n) : numR k 0 (low n k ++ ys) = (n % 256 ^ k, 0, ys) := by
  unfold numR
  rw [if_neg (by decide), if_neg (by rw [List.length_append, low_length]; omega), take_app (low_length n k), drop_app (low_length n k), val_low k n hn]

theorem numR_one (n : Int) (ys : List UInt8) (hn : 0 ≤ n) : numR 1 0 (b8 n :: ys) = (n % 256, 0, ys) := by
  have h := numR_low n 1 ys hn
  simpa [low] using h

theorem val_one (c : UInt8) : val [c] = c.toNat := by simp [val]

theorem sizeP_sizeB (n : Int) (ys : List UInt8) (h0 : 0 ≤ n) (h1 : n < 18446744073709551616) : sizeP (sizeB n ++ ys) = if n > 33554432 then .error 2 else .ok (n, ys) := by
  have hb : ∀ (c : UInt8) (zs : List UInt8), val ((c :: zs).take 1) = c.toNat := fun c zs => by simp [val]
  have long : ∀ (m : Int) (k : Nat), (m = 253 ∧ k = 2) ∨ (m = 254 ∧ k = 4) ∨ (m = 255 ∧ k = 8) → sizeB n = b8 m :: low n k → sizeLen n = 1 + k → n < 256 ^ k →
      sizeP (sizeB n ++ ys) = if n > 33554432 then .error 2 else .ok (n, ys) := by
    intro m k hm hs hl hlt
    have hm0 : m % 256 = m := by rcases hm with ⟨rfl, _⟩ | ⟨rfl, _⟩ | ⟨rfl, _⟩ <;> rfl
    have hwd : wd m = k := by rcases hm with ⟨rfl, rfl⟩ | ⟨rfl, rfl⟩ | ⟨rfl, rfl⟩ <;> rfl
    have hge : ¬ m < 253 := by rcases hm with ⟨rfl, _⟩ | ⟨rfl, _⟩ | ⟨rfl, _⟩ <;> decide
    rw [hs, List.cons_append]
    unfold sizeP
    rw [if_neg (by simp), hb, b8_toNat, hm0, if_neg hge, hwd]
    have hd : (b8 m :: (low n k ++ ys)).drop 1 = low n k ++ ys := rfl
    rw [hd, if_neg (by rw [List.length_append, low_length]; omega), take_app (low_length n k), drop_app (low_length n k), val_low k n h0, Int.emod_eq_of_lt h0 hlt, hl, if_neg (by simp)]
  by_cases c1 : n < 253
  · have hs : sizeB n = [b8 n] := by unfold sizeB; rw [if_pos c1]
    rw [hs, if_neg (by omega)]
    unfold sizeP
    rw [if_neg (by simp), List.cons_append, hb, b8_toNat, if_pos (by omega)]
    have : n % 256 = n := by omega
    rw [this]
    rfl
  by_cases c2 : n < 65536
  · exact long 253 2 (.inl ⟨rfl, rfl⟩) (by unfold sizeB; rw [if_neg c1, if_pos c2]) (by unfold sizeLen; rw [if_neg c1, if_pos c2]; rfl) (by simpa using c2)
  by_cases c3 : n < 4294967296
  · exact long 254 4 (.inr (.inl ⟨rfl, rfl⟩)) (by unfold sizeB; rw [if_neg c1, if_neg c2, if_pos c3]) (by unfold sizeLen; rw [if_neg c1, if_neg c2, if_pos c3]; rfl) (by simpa using c3)
  · exact long 255 8 (.inr (.inr ⟨rfl, rfl⟩)) (by unfold sizeB; rw [if_neg c1, if_neg c2, if_neg c3]) (by unfold sizeLen; rw [if_neg c1, if_neg c2, if_neg c3]; rfl) (by simpa using h1)

theorem sizeR_sizeB (n : Int) (ys : List UInt8) (h0 : 0 ≤ n) (h1 : n ≤ 33554432) : sizeR 0 (sizeB n ++ ys) = (n, 0, ys) := by
  unfold sizeR
  rw [if_neg (by decide), sizeP_sizeB n ys h0 (by omega), if_neg (by omega)]
theorem sizeR_great (n : Int) (ys : List UInt8) (h0 : 0 ≤ n) (h1 : n < 18446744073709551616) (h2 : n > 33554432) : sizeR 0 (sizeB n ++ ys) = (0, 2, sizeB n ++ ys) := by
  unfold sizeR
  rw [if_neg (by decide), sizeP_sizeB n ys h0 h1, if_pos h2]

theorem rawR_app (ts ys : List UInt8) : rawR ts.length 0 (ts ++ ys) = (ts, 0, ys) := by
  unfold rawR
  rw [if_neg (by decide), if_neg (by rw [List.length_append]; omega), Int.toNat_natCast, List.take_left, List.drop_left]

theorem listR_app (ts ys : List UInt8) (most : Int) (hm : ts.length ≤ most) (ht : ts.length ≤ 33554432) : listR most 0 (sizeB ts.length ++ ts ++ ys) = (ts, 0, ys) := by
  unfold listR listP
  rw [if_neg (by decide), List.append_assoc, sizeP_sizeB _ _ (by omega) (by omega), if_neg (by omega)]
  simp only
  rw [if_neg (by omega), if_neg (by rw [List.length_append]; omega), Int.toNat_natCast, List.take_left, List.drop_left]

end Go.Proofs.Ytelbcmcffjpdoaa
