/-
  Numbers as bytes of a script: as few bytes as hold the absolute value, a sign in the last one; plain lemmas. Conditions: none.
-/
import Derived.Test.YtadgaeokiolmmaaBase
namespace Go.Proofs.Ytadgaeokiolmmaa

/-- The number of bytes, the lowest first. -/
def valN : List UInt8 → Nat
  | [] => 0
  | b :: bs => b.toNat + 256 * valN bs
/-- The fewest bytes that hold a number, the lowest first. -/
def bytesN (m : Nat) : List UInt8 := if m = 0 then [] else UInt8.ofNat (m % 256) :: bytesN (m / 256)
termination_by m
decreasing_by omega
theorem bytesN_zero : bytesN 0 = [] := by unfold bytesN; rfl
theorem bytesN_pos {m : Nat} (h : 0 < m) : bytesN m = UInt8.ofNat (m % 256) :: bytesN (m / 256) := by rw [bytesN, if_neg (by omega)]
theorem u8_of (x : Nat) : (UInt8.ofNat (x % 256)).toNat = x % 256 := by rw [UInt8.toNat_ofNat']; omega
theorem u8_ext {a b : UInt8} (h : a.toNat = b.toNat) : a = b := UInt8.toNat_inj.1 h
theorem valN_bytesN (m : Nat) : valN (bytesN m) = m := by
  induction m using Nat.strongRecOn with
  | _ m ih =>
    by_cases h : m = 0
    · subst h; rw [bytesN_zero]; rfl
    · rw [bytesN_pos (by omega)]
      show (UInt8.ofNat (m % 256)).toNat + 256 * valN (bytesN (m / 256)) = m
      rw [ih (m / 256) (by omega), u8_of]
      omega
theorem valN_append (xs ys : List UInt8) : valN (xs ++ ys) = valN xs + 256 ^ xs.length * valN ys := by
  induction xs with
  | nil => simp [valN]
  | cons c cs ih =>
    simp only [List.cons_append, valN, ih, List.length_cons, Nat.pow_succ, Nat.mul_add]
    rw [← Nat.mul_assoc, Nat.mul_comm 256 (256 ^ cs.length)]
    omega
theorem valN_snoc0 (xs : List UInt8) : valN (xs ++ [0]) = valN xs := by rw [valN_append]; simp [valN]
theorem valN_lt (xs : List UInt8) : valN xs < 256 ^ xs.length := by
  induction xs with
  | nil => simp [valN]
  | cons b bs ih =>
    have hb := b.toNat_lt
    simp only [valN, List.length_cons, Nat.pow_succ]
    omega
theorem bytesN_snoc (fr : List UInt8) (x : UInt8) (hx : x ≠ 0) : bytesN (valN (fr ++ [x])) = fr ++ [x] := by
  have hx' : 0 < x.toNat := Nat.pos_of_ne_zero fun h => hx (u8_ext h)
  have hb := x.toNat_lt
  induction fr with
  | nil =>
    show bytesN (x.toNat + 256 * 0) = [x]
    rw [Nat.mul_zero, Nat.add_zero, bytesN_pos hx', Nat.div_eq_of_lt hb, bytesN_zero]
    congr 1
    exact u8_ext (by rw [u8_of]; omega)
  | cons c cs ih =>
    have hc := c.toNat_lt
    have hpos : 0 < valN (cs ++ [x]) := by
      rw [valN_append]
      have : 0 < 256 ^ cs.length * valN [x] := Nat.mul_pos (Nat.pow_pos (by decide)) (by show 0 < x.toNat + 256 * 0; omega)
      omega
    show bytesN (c.toNat + 256 * valN (cs ++ [x])) = c :: (cs ++ [x])
    rw [bytesN_pos (by omega), show (c.toNat + 256 * valN (cs ++ [x])) / 256 = valN (cs ++ [x]) by omega, ih]
    congr 1
    exact u8_ext (by rw [u8_of]; omega)
theorem bytesN_le (xs : List UInt8) : (bytesN (valN xs)).length ≤ xs.length := by
  induction xs with
  | nil => show (bytesN 0).length ≤ 0; rw [bytesN_zero]; exact Nat.le_refl _
  | cons c cs ih =>
    have hc := c.toNat_lt
    show (bytesN (c.toNat + 256 * valN cs)).length ≤ _
    by_cases h : c.toNat + 256 * valN cs = 0
    · rw [h, bytesN_zero]; simp
    · rw [bytesN_pos (by omega), show (c.toNat + 256 * valN cs) / 256 = valN cs by omega]
      simp only [List.length_cons]
      omega
theorem bytesN_len (k : Nat) : ∀ m, m < 256 ^ k → (bytesN m).length ≤ k := by
  induction k with
  | zero => intro m h; obtain rfl : m = 0 := by simpa using h
            rw [bytesN_zero]; simp
  | succ k ih =>
    intro m h
    by_cases hm : m = 0
    · subst hm; rw [bytesN_zero]; simp
    · rw [bytesN_pos (by omega)]
      have := ih (m / 256) (by rw [Nat.pow_succ] at h; omega)
      simp only [List.length_cons]
      omega
theorem bytesN_last (m : Nat) (h : 0 < m) : ∃ fr x, bytesN m = fr ++ [x] ∧ x ≠ 0 := by
  induction m using Nat.strongRecOn with
  | _ m ih =>
    by_cases h1 : m < 256
    · refine ⟨[], UInt8.ofNat (m % 256), ?_, ?_⟩
      · rw [bytesN_pos h, Nat.div_eq_of_lt h1, bytesN_zero]; rfl
      · intro e
        have := congrArg UInt8.toNat e
        rw [u8_of] at this
        simp at this
        omega
    · obtain ⟨fr, x, e, hx⟩ := ih (m / 256) (by omega) (by omega)
      exact ⟨UInt8.ofNat (m % 256) :: fr, x, by rw [bytesN_pos h, e]; rfl, hx⟩

/-- The absolute value; the least number counts as the next greater one. -/
def mag (n : Int) : Nat := if n = -9223372036854775808 then 9223372036854775807 else n.natAbs
/-- A zero byte more where the last one's top bit is taken. -/
def topped (b : List UInt8) : List UInt8 := if 128 ≤ (b.getLast?.getD 0).toNat then b ++ [0] else b
/-- The sign in the last byte. -/
def signd (b : List UInt8) : List UInt8 := b.set (b.length - 1) (UInt8.ofNat ((b.getLast?.getD 0).toNat % 128 + 128))
def numB (n : Int) : List UInt8 := if n < 0 then signd (topped (bytesN (mag n))) else topped (bytesN (mag n))
theorem topped_nil : topped [] = [] := rfl
theorem topped_hi {fr : List UInt8} {x : UInt8} (h : 128 ≤ x.toNat) : topped (fr ++ [x]) = fr ++ [x] ++ [0] := by unfold topped; rw [List.getLast?_concat]; exact if_pos h
theorem topped_lo {fr : List UInt8} {x : UInt8} (h : x.toNat < 128) : topped (fr ++ [x]) = fr ++ [x] := by unfold topped; rw [List.getLast?_concat]; exact if_neg (by show ¬ 128 ≤ x.toNat; omega)
theorem signd_snoc (fr : List UInt8) (x : UInt8) : signd (fr ++ [x]) = fr ++ [UInt8.ofNat (x.toNat % 128 + 128)] := by
  unfold signd
  rw [List.getLast?_concat, List.length_append, List.length_cons, List.length_nil, Nat.zero_add, Nat.add_sub_cancel]
  simp

/-- The number that bytes say. -/
def valS (b : List UInt8) : Int := if 128 ≤ (b.getLast?.getD 0).toNat then -(valN (b.dropLast ++ [UInt8.ofNat ((b.getLast?.getD 0).toNat % 128)]) : Int) else valN b
theorem valS_nil : valS [] = 0 := rfl
theorem valS_hi {fr : List UInt8} {x : UInt8} (h : 128 ≤ x.toNat) : valS (fr ++ [x]) = -(valN (fr ++ [UInt8.ofNat (x.toNat % 128)]) : Int) := by unfold valS; rw [List.getLast?_concat, List.dropLast_concat]; exact if_pos h
theorem valS_lo {fr : List UInt8} {x : UInt8} (h : x.toNat < 128) : valS (fr ++ [x]) = valN (fr ++ [x]) := by unfold valS; rw [List.getLast?_concat]; exact if_neg (by show ¬ 128 ≤ x.toNat; omega)
theorem lo128 {x : UInt8} (h : x.toNat < 128) : UInt8.ofNat (x.toNat % 128) = x := u8_ext (by rw [UInt8.toNat_ofNat']; omega)
theorem to_lo (x : UInt8) : (UInt8.ofNat (x.toNat % 128)).toNat = x.toNat % 128 := by rw [UInt8.toNat_ofNat']; omega
theorem to_hi (x : UInt8) : (UInt8.ofNat (x.toNat % 128 + 128)).toNat = x.toNat % 128 + 128 := by rw [UInt8.toNat_ofNat']; omega
theorem hi128 {x : UInt8} (h : 128 ≤ x.toNat) : UInt8.ofNat ((UInt8.ofNat (x.toNat % 128)).toNat % 128 + 128) = x := u8_ext (by have := x.toNat_lt; rw [UInt8.toNat_ofNat', to_lo]; omega)
theorem valN_last_lt {fr : List UInt8} {x : UInt8} (hl : fr.length ≤ 7) (hx : x.toNat < 128) : valN (fr ++ [x]) < 9223372036854775808 := by
  have h1 := valN_lt fr
  have h2 : 256 ^ fr.length ≤ 256 ^ 7 := Nat.pow_le_pow_right (by decide) hl
  have h3 : (256 : Nat) ^ 7 = 72057594037927936 := by decide
  have h4 : 256 ^ fr.length * x.toNat ≤ 72057594037927936 * 127 := Nat.mul_le_mul (by omega) (by omega)
  rw [valN_append]
  show valN fr + 256 ^ fr.length * (x.toNat + 256 * 0) < _
  rw [Nat.mul_zero, Nat.add_zero]
  omega
theorem mag_nat {m : Nat} : mag (m : Int) = m := by unfold mag; rw [if_neg (by omega)]; exact Int.natAbs_natCast m
theorem mag_neg {m : Nat} (h : m < 9223372036854775808) : mag (-(m : Int)) = m := by unfold mag; rw [if_neg (by omega)]; omega

/-- Are these bytes as few as can be? -/
def fewest (b : List UInt8) : Bool := !(decide ((b.getLast?.getD 0).toNat % 128 = 0) && (decide (b.length ≤ 1) || decide ((b.dropLast.getLast?.getD 0).toNat < 128)))

theorem signd_length (b : List UInt8) : (signd b).length = b.length := by unfold signd; simp
theorem topped_le (b : List UInt8) : (topped b).length ≤ b.length + 1 := by unfold topped; split <;> simp
theorem numB_le (n : Int) : (numB n).length ≤ (bytesN (mag n)).length + 1 := by
  unfold numB
  split
  · rw [signd_length]; exact topped_le _
  · exact topped_le _

theorem numB_nat (m : Nat) : numB (m : Int) = topped (bytesN m) := by unfold numB; rw [if_neg (by omega), mag_nat]
theorem numB_neg {m : Nat} (h0 : 0 < m) (h : m < 9223372036854775808) : numB (-(m : Int)) = signd (topped (bytesN m)) := by unfold numB; rw [if_pos (by omega), mag_neg h]
theorem numB_neg0 : numB (-((0 : Nat) : Int)) = [] := by show numB 0 = []; unfold numB mag; simp [bytesN_zero, topped_nil]

theorem snoc_cases (b : List UInt8) : b = [] ∨ ∃ fr x, b = fr ++ [x] := by
  rcases List.eq_nil_or_concat b with h | ⟨fr, x, h⟩
  · exact .inl h
  · exact .inr ⟨fr, x, by rw [h, List.concat_eq_append]⟩

/-- The number's bytes are these again just if they are as few as can be. -/
theorem again_snoc (fr : List UInt8) (x : UInt8) (hl : fr.length ≤ 7) : decide (numB (valS (fr ++ [x])) = fr ++ [x]) = fewest (fr ++ [x]) := by
  have hxl := x.toNat_lt
  have hb := valN_last_lt (fr := fr) (x := UInt8.ofNat (x.toNat % 128)) hl (by rw [to_lo]; omega)
  have hfew : fewest (fr ++ [x]) = !(decide (x.toNat % 128 = 0) && (decide (fr.length ≤ 0) || decide ((fr.getLast?.getD 0).toNat < 128))) := by
    unfold fewest
    rw [List.getLast?_concat, List.dropLast_concat, List.length_append, List.length_cons, List.length_nil]
    simp
  rw [hfew]
  by_cases hy : x.toNat % 128 = 0
  · rw [decide_eq_true hy, Bool.true_and]
    have hy0 : UInt8.ofNat (x.toNat % 128) = 0 := by rw [hy]; rfl
    rw [hy0, valN_snoc0] at hb
    have hval : valS (fr ++ [x]) = if 128 ≤ x.toNat then -(valN fr : Int) else (valN fr : Int) := by
      split
      · rw [valS_hi ‹_›, hy0, valN_snoc0]
      · have hx0 : x = 0 := u8_ext (by show x.toNat = 0; omega)
        rw [valS_lo (by omega), hx0, valN_snoc0]
    rcases snoc_cases fr with rfl | ⟨gr, z, rfl⟩
    · rw [hval]
      have : numB (if 128 ≤ x.toNat then -((valN [] : Nat) : Int) else ((valN [] : Nat) : Int)) = [] := by
        split
        · exact numB_neg0
        · exact numB_neg0
      rw [this]
      simp
    · have hpos : decide ((gr ++ [z]).length ≤ 0) = false := by simp
      rw [hpos, Bool.false_or, List.getLast?_concat]
      show _ = !decide (z.toNat < 128)
      by_cases hz : z.toNat < 128
      · rw [decide_eq_true hz]
        refine decide_eq_false fun he => ?_
        have hlen := congrArg List.length he
        rw [hval] at hlen
        by_cases hz0 : z = 0
        · subst hz0
          rw [valN_snoc0] at hlen
          have h1 := bytesN_le gr
          have h2 := numB_le (if 128 ≤ x.toNat then -(valN gr : Int) else (valN gr : Int))
          rw [show mag (if 128 ≤ x.toNat then -(valN gr : Int) else (valN gr : Int)) = valN gr by split; exact mag_neg (by rw [valN_snoc0] at hb; exact hb); exact mag_nat] at h2
          simp at hlen
          omega
        · have h3 : numB (if 128 ≤ x.toNat then -(valN (gr ++ [z]) : Int) else (valN (gr ++ [z]) : Int)) = if 128 ≤ x.toNat then (if 0 < valN (gr ++ [z]) then signd (gr ++ [z]) else []) else gr ++ [z] := by
            split
            · split
              · rw [numB_neg ‹_› hb, bytesN_snoc _ _ hz0, topped_lo hz]
              · rw [show valN (gr ++ [z]) = 0 by omega]; exact numB_neg0
            · rw [numB_nat, bytesN_snoc _ _ hz0, topped_lo hz]
          rw [h3] at hlen
          split at hlen
          · split at hlen
            · rw [signd_length] at hlen; simp at hlen
            · simp at hlen
          · simp at hlen
      · rw [decide_eq_false hz]
        have hz0 : z ≠ 0 := by rintro rfl; exact hz (by decide)
        have hpos2 : 0 < valN (gr ++ [z]) := by
          rw [valN_append]
          have : 0 < 256 ^ gr.length * valN [z] := Nat.mul_pos (Nat.pow_pos (by decide)) (by show 0 < z.toNat + 256 * 0; omega)
          omega
        refine decide_eq_true ?_
        rw [hval]
        split
        · rw [numB_neg hpos2 hb, bytesN_snoc _ _ hz0, topped_hi (by omega), signd_snoc]
          congr 2
          refine u8_ext ?_
          rw [to_hi]
          show 0 % 128 + 128 = _
          omega
        · rw [numB_nat, bytesN_snoc _ _ hz0, topped_hi (by omega)]
          congr 2
          exact u8_ext (by show 0 = x.toNat; omega)
  · rw [decide_eq_false hy]
    show _ = true
    have hyn : UInt8.ofNat (x.toNat % 128) ≠ 0 := fun e => hy (by rw [← to_lo, e]; rfl)
    have hpos : 0 < valN (fr ++ [UInt8.ofNat (x.toNat % 128)]) := by
      rw [valN_append]
      have : 0 < 256 ^ fr.length * valN [UInt8.ofNat (x.toNat % 128)] := Nat.mul_pos (Nat.pow_pos (by decide)) (by show 0 < (UInt8.ofNat (x.toNat % 128)).toNat + 256 * 0; rw [to_lo]; omega)
      omega
    refine decide_eq_true ?_
    by_cases hx : 128 ≤ x.toNat
    · rw [valS_hi hx, numB_neg hpos hb, bytesN_snoc _ _ hyn, topped_lo (by rw [to_lo]; omega), signd_snoc, hi128 hx]
    · have hlo := lo128 (x := x) (by omega)
      rw [hlo] at hyn
      rw [valS_lo (by omega), numB_nat, bytesN_snoc _ _ hyn, topped_lo (by omega)]

theorem again_any (b : List UInt8) (hl : b.length ≤ 8) : decide (numB (valS b) = b) = (decide (b = []) || fewest b) := by
  rcases snoc_cases b with rfl | ⟨fr, x, rfl⟩
  · rw [valS_nil, show numB 0 = [] from numB_neg0]; simp
  · rw [again_snoc fr x (by simp at hl; omega)]
    simp

/-- What is read back of a number's bytes. -/
def clip (n : Int) : Int := if n = -9223372036854775808 then -9223372036854775807 else n
theorem back_numB (n : Int) : valS (numB n) = clip n := by
  have hm : (mag n : Int) = if n < 0 then -clip n else clip n := by unfold mag clip; split <;> split <;> omega
  by_cases h0 : mag n = 0
  · have : n = 0 := by unfold mag at h0; split at h0 <;> omega
    subst this
    rw [show numB 0 = [] from numB_neg0]; rfl
  · obtain ⟨fr, x, e, hx⟩ := bytesN_last (mag n) (by omega)
    have hv : valN (fr ++ [x]) = mag n := by rw [← e, valN_bytesN]
    have hxl := x.toNat_lt
    unfold numB
    rw [e]
    by_cases hn : n < 0
    · rw [if_pos hn] at hm ⊢
      by_cases ht : 128 ≤ x.toNat
      · rw [topped_hi ht, signd_snoc, valS_hi (by rw [to_hi]; omega)]
        rw [show UInt8.ofNat ((UInt8.ofNat ((0 : UInt8).toNat % 128 + 128)).toNat % 128) = 0 from rfl, valN_snoc0, hv]
        omega
      · rw [topped_lo (by omega), signd_snoc, valS_hi (by rw [to_hi]; omega), to_hi]
        rw [show UInt8.ofNat ((x.toNat % 128 + 128) % 128) = x from u8_ext (by rw [UInt8.toNat_ofNat']; omega), hv]
        omega
    · rw [if_neg hn] at hm ⊢
      by_cases ht : 128 ≤ x.toNat
      · rw [topped_hi ht, valS_lo (by decide), valN_snoc0, hv]; exact hm
      · rw [topped_lo (by omega), valS_lo (by omega), hv]; exact hm
theorem numB_clip (n : Int) : numB (clip n) = numB n := by
  unfold clip
  split
  · subst n; rfl
  · rfl

/-- Has it a byte other than 0, where a last byte 128 counts for none? -/
def truthB (b : List UInt8) : Bool := if b.getLast? = some 128 then b.dropLast.any (· != 0) else b.any (· != 0)
theorem truth_nil : truthB [] = false := rfl
theorem truth_sign (fr : List UInt8) : truthB (fr ++ [128]) = fr.any (· != 0) := by unfold truthB; rw [List.getLast?_concat, List.dropLast_concat, if_pos rfl]
theorem truth_plain {fr : List UInt8} {x : UInt8} (h : x ≠ 128) : truthB (fr ++ [x]) = (fr.any (· != 0) || x != 0) := by
  unfold truthB
  rw [List.getLast?_concat, if_neg (by simpa using h), List.any_append]
  simp
theorem truth_numB (n : Int) : truthB (numB n) = decide (n ≠ 0) := by
  by_cases h0 : n = 0
  · subst h0; rw [show numB 0 = [] from numB_neg0]; rfl
  · rw [decide_eq_true h0]
    have hm : 0 < mag n := by unfold mag; split <;> omega
    obtain ⟨fr, x, e, hx⟩ := bytesN_last (mag n) hm
    have hxl := x.toNat_lt
    have hx0 : (x != 0) = true := by simpa using hx
    unfold numB
    rw [e]
    split
    · by_cases ht : 128 ≤ x.toNat
      · rw [topped_hi ht, signd_snoc]
        show truthB (fr ++ [x] ++ [128]) = true
        rw [truth_sign, List.any_append]
        simp [hx0]
      · rw [topped_lo (by omega), signd_snoc, truth_plain]
        · have : (UInt8.ofNat (x.toNat % 128 + 128) != 0) = true := by
            simp only [bne_iff_ne, ne_eq]
            intro e2
            have := congrArg UInt8.toNat e2
            rw [to_hi] at this
            simp at this
          rw [this, Bool.or_true]
        · intro e2
          have := congrArg UInt8.toNat e2
          rw [to_hi] at this
          have h128 : (128 : UInt8).toNat = 128 := rfl
          rw [h128] at this
          exact hx (u8_ext (by show x.toNat = 0; omega))
    · by_cases ht : 128 ≤ x.toNat
      · rw [topped_hi ht, truth_plain (by decide), List.any_append]
        simp [hx0]
      · rw [topped_lo (by omega), truth_plain (by rintro rfl; exact ht (by decide)), hx0, Bool.or_true]
theorem numB_len (n : Int) (h0 : -9223372036854775808 ≤ n) (h1 : n ≤ 9223372036854775807) : (numB n).length ≤ 9 := by
  have h := numB_le n
  have := bytesN_len 8 (mag n) (by rw [show (256 : Nat) ^ 8 = 18446744073709551616 by decide]; unfold mag; split <;> omega)
  omega
end Go.Proofs.Ytadgaeokiolmmaa
