/-
  Texts joined: SnLawN, SnRpush, TSpare. Conditions: those of each.
-/
import Derived.Test.YtocblkacdoahfaaGreatDoorJ9
import Derived.Test.YtocblkacdoahfaaGreatDoorJ5
/-
  The law on a script's numbers. Conditions: none.
-/
namespace Go.Proofs.YtocblkacdoahfaaGreatDoor.Sn
open Go.RowKit

theorem byt_take {w : World} {B n c : Nat} {A : Option Addr} {xs : List UInt8} (h : Byt w B (.slice A xs.length c) xs) (hn : n ≤ xs.length) : Byt w B (.slice A n c) (xs.take n) := by
  obtain ⟨A', c', e, h1, h2, h3, h4⟩ := h
  obtain ⟨e1, _, e3⟩ := Value.slice.inj e
  subst e1 e3
  refine ⟨A, c, by rw [List.length_take, Nat.min_eq_left hn], by rw [List.length_take]; omega, h2, fun hA => by rw [(h3 hA).1]; exact ⟨by simp, (h3 hA).2⟩, fun hne => ?_⟩
  obtain ⟨b, o, e, hb, hc⟩ := h4 (by rintro rfl; simp at hne)
  exact ⟨b, o, e, hb, fun j u hu => hc j u (by rw [List.getElem?_take] at hu; split at hu; exact hu; cases hu)⟩

theorem numB_eight (n : Int) (h0 : -9223372036854775808 ≤ n) (h1 : n ≤ 9223372036854775807) : (numB n).length ≤ 8 := by
  have hb := bytesN_eight n h0 h1
  have hm := mag_le n h0 h1
  have ht : (topped (bytesN (mag n))).length ≤ 8 := by
    by_cases h : mag n = 0
    · rw [h, bytesN_zero]; simp [topped_nil]
    · obtain ⟨fr, x, e, _⟩ := bytesN_last (mag n) (by omega)
      have hv := valN_bytesN (mag n)
      rw [e] at hb hv ⊢
      by_cases hx : 128 ≤ x.toNat
      · rw [topped_hi hx]
        rw [valN_append] at hv
        rw [List.length_append, List.length_cons, List.length_nil] at hb
        by_cases h7 : fr.length = 7
        · exfalso
          have : 256 ^ fr.length * valN [x] ≥ 256 ^ 7 * 128 := by rw [h7]; exact Nat.mul_le_mul_left _ (by show 128 ≤ x.toNat + 256 * 0; omega)
          have h3 : (256 : Nat) ^ 7 * 128 = 9223372036854775808 := by decide
          omega
        · rw [List.length_append, List.length_append, List.length_cons, List.length_nil, List.length_cons, List.length_nil]; omega
      · rw [topped_lo (by omega)]; exact hb
  unfold numB
  split
  · rw [signd_length]; exact ht
  · exact ht

theorem from_back (n : Int) (h0 : -9223372036854775808 ≤ n) (h1 : n ≤ 9223372036854775807) : fromB (numB n) 9 = (clip n, 0) := by
  have h8 := numB_eight n h0 h1
  have hag := again_any (numB n) h8
  rw [back_numB, numB_clip, decide_eq_true rfl] at hag
  unfold fromB
  rw [if_neg (by omega)]
  by_cases hn : numB n = []
  · rw [if_pos hn]
    have := back_numB n
    rw [hn, valS_nil] at this
    rw [← this]
  · rw [if_neg hn]
    rw [decide_eq_false hn, Bool.false_or] at hag
    rw [if_pos hag.symm, back_numB]

theorem truth_num (n : Int) : truthB (numB n) = (n != 0) := by
  rw [truth_numB, Bool.eq_iff_iff]
  simp

end Go.Proofs.YtocblkacdoahfaaGreatDoor.Sn

/-
  What is pushed is parsed as one operation; the reference's Push. Conditions: sizes within the reach.
-/
namespace Go.Proofs.YtocblkacdoahfaaGreatDoor.Sn
open Go.RowKit

theorem val_low (k : Nat) : ∀ n : Int, 0 ≤ n → val (low n k) = n % 256 ^ k := by
  induction k with
  | zero => intro n _; simp [low, val, Int.emod_one]
  | succ k ih =>
    intro n hn
    have h := ih (n / 256) (by omega)
    simp only [low, val, b8_toNat, h]
    have hp : (0 : Int) < 256 ^ k := Int.pow_pos (by decide)
    rw [Int.pow_succ, Int.mul_comm (256 ^ k) 256]
    have e1 : n % (256 * 256 ^ k) = n % 256 + 256 * (n / 256 % 256 ^ k) := by
      have h1 : n = 256 * (n / 256) + n % 256 := (Int.mul_ediv_add_emod n 256).symm
      have h2 : n / 256 = 256 ^ k * (n / 256 / 256 ^ k) + n / 256 % 256 ^ k := (Int.mul_ediv_add_emod (n / 256) (256 ^ k)).symm
      have h3 : 0 ≤ n / 256 % 256 ^ k ∧ n / 256 % 256 ^ k < 256 ^ k := ⟨Int.emod_nonneg _ (by omega), Int.emod_lt_of_pos _ hp⟩
      have h4 : n = (n % 256 + 256 * (n / 256 % 256 ^ k)) + (256 * 256 ^ k) * (n / 256 / 256 ^ k) := by
        have h5 : 256 * (n / 256) = 256 * (256 ^ k * (n / 256 / 256 ^ k)) + 256 * (n / 256 % 256 ^ k) := by
          rw [← Int.mul_add]; exact congrArg (fun q => 256 * q) h2
        rw [Int.mul_assoc]
        omega
      have h6 : (n % 256 + 256 * (n / 256 % 256 ^ k)) % (256 * 256 ^ k) = n % 256 + 256 * (n / 256 % 256 ^ k) := by
        apply Int.emod_eq_of_lt
        · omega
        · omega
      calc n % (256 * 256 ^ k) = ((n % 256 + 256 * (n / 256 % 256 ^ k)) + (256 * 256 ^ k) * (n / 256 / 256 ^ k)) % (256 * 256 ^ k) := by rw [← h4]
        _ = (n % 256 + 256 * (n / 256 % 256 ^ k)) % (256 * 256 ^ k) := by rw [Int.add_mul_emod_self_left]
        _ = _ := h6
    rw [e1]

theorem take_app {us bs : List UInt8} {k : Nat} (h : us.length = k) : (us ++ bs).take k = us := by rw [← h, List.take_left]
theorem drop_app {us bs : List UInt8} {k : Nat} (h : us.length = k) : (us ++ bs).drop k = bs := by rw [← h, List.drop_left]

theorem numR_low (n : Int) (k : Nat) (ys : List UInt8) (hn : 0 ≤ n) : numR k 0 (low n k ++ ys) = (n % 256 ^ k, 0, ys) := by
  unfold numR
  rw [if_neg (by decide), if_neg (by rw [List.length_append, low_length]; omega), take_app (low_length n k), drop_app (low_length n k), val_low k n hn]


theorem rawR_app (ds zs : List UInt8) : rawR (ds.length : Int) 0 (ds ++ zs) = (ds, 0, zs) := by
  unfold rawR
  rw [if_neg (by decide), if_neg (by rw [List.length_append]; omega), Int.toNat_natCast, List.take_left, List.drop_left]
theorem opR_none {c : UInt8} (h : c.toNat = 0 ∨ 79 ≤ c.toNat) (xs : List UInt8) : opR c xs = ([], 0, xs) := by
  have hs : sizeD c xs = (0, 0, xs) := by
    unfold sizeD
    rcases h with h | h
    · rw [if_pos (by omega), h]; rfl
    · rw [if_neg (by omega), if_neg (by omega), if_neg (by omega), if_neg (by omega)]
  unfold opR
  rw [hs]
  have := rawR_app [] xs
  exact this
theorem alone_code {xs : List UInt8} {c : UInt8} (h : aloneB xs = some c) : (c.toNat = 0 ∨ 79 ≤ c.toNat) ∧ c.toNat ≤ 96 := by
  match xs, h with
  | [], h => cases h; exact ⟨.inl rfl, by decide⟩
  | [q], h =>
    rw [alone_one] at h
    split at h
    · cases h; exact ⟨.inr (by decide), by decide⟩
    · split at h
      · cases h
        have : (UInt8.ofNat (80 + q.toNat)).toNat = 80 + q.toNat := by rw [UInt8.toNat_ofNat']; omega
        rw [this]
        omega
      · cases h
  | _ :: _ :: _, h => cases h
/-- The bytes that stand behind the code. -/
def behind (ds : List UInt8) : List UInt8 := if aloneB ds = none then ds else []
theorem push_op (ds : List UInt8) (hl : ds.length ≤ 47000000) : ∃ c rest, pushB ds = c :: rest ∧ (∀ zs, opR c (rest ++ zs) = (behind ds, 0, zs)) ∧ c.toNat ≤ 96 ∧ (aloneB ds = none → c.toNat < 79) ∧ (∀ k, aloneB ds = some k → c = k) := by
  cases h : aloneB ds with
  | some c =>
    obtain ⟨h1, h2⟩ := alone_code h
    refine ⟨c, [], by unfold pushB; rw [h], fun zs => ?_, h2, (by intro e; cases e), fun k hk => by cases hk; rfl⟩
    rw [List.nil_append, opR_none h1]
    unfold behind
    rw [h, if_neg (by simp)]
  | none =>
    have hb : behind ds = ds := by unfold behind; rw [h, if_pos rfl]
    have hp : pushB ds = headB ds.length ++ ds := by unfold pushB; rw [h]
    rw [hb, hp]
    have hn : (b8 (ds.length : Int)).toNat = ds.length % 256 := by have := b8_toNat (ds.length : Int); omega
    by_cases c1 : ds.length < 76
    · refine ⟨b8 (ds.length : Int), ds, by unfold headB; rw [if_pos c1]; rfl, fun zs => ?_, by omega, fun _ => by omega, (by intro k hk; cases hk)⟩
      unfold opR sizeD
      rw [if_pos (by omega)]
      dsimp only
      rw [hn, Nat.mod_eq_of_lt (by omega)]
      exact rawR_app ds zs
    by_cases c2 : ds.length ≤ 255
    · refine ⟨76, b8 (ds.length : Int) :: ds, by unfold headB; rw [if_neg c1, if_pos c2]; rfl, fun zs => ?_, by decide, fun _ => by decide, (by intro k hk; cases hk)⟩
      unfold opR sizeD
      rw [if_neg (by decide), if_pos (by decide), List.cons_append, numR_one]
      dsimp only
      rw [hn, Nat.mod_eq_of_lt (by omega)]
      exact rawR_app ds zs
    by_cases c3 : ds.length ≤ 65535
    · refine ⟨77, low (ds.length : Int) 2 ++ ds, by unfold headB; rw [if_neg c1, if_neg c2, if_pos c3]; rfl, fun zs => ?_, by decide, fun _ => by decide, (by intro k hk; cases hk)⟩
      unfold opR sizeD
      rw [if_neg (by decide), if_neg (by decide), if_pos (by decide), List.append_assoc, numR_low _ _ _ (by omega)]
      dsimp only
      rw [show (ds.length : Int) % 256 ^ 2 = (ds.length : Int) by omega]
      exact rawR_app ds zs
    · refine ⟨78, low (ds.length : Int) 4 ++ ds, by unfold headB; rw [if_neg c1, if_neg c2, if_neg c3]; rfl, fun zs => ?_, by decide, fun _ => by decide, (by intro k hk; cases hk)⟩
      unfold opR sizeD
      rw [if_neg (by decide), if_neg (by decide), if_neg (by decide), if_pos (by decide), List.append_assoc, numR_low _ _ _ (by omega)]
      dsimp only
      rw [show min ((ds.length : Int) % 256 ^ 4) 2147483647 = (ds.length : Int) by omega]
      exact rawR_app ds zs
/-- Two pushes, one behind the other. -/
theorem push_two (ds es : List UInt8) (hd : ds.length ≤ 47000000) (he : es.length ≤ 47000000) :
    ∃ c1 c2, parseP (pushB ds ++ pushB es) = some [(c1, behind ds), (c2, behind es)] ∧ (aloneB ds = none → c1.toNat < 79) ∧ (∀ k, aloneB ds = some k → c1 = k) := by
  obtain ⟨c1, r1, e1, o1, _, k1, k2⟩ := push_op ds hd
  obtain ⟨c2, r2, e2, o2, _, _, _⟩ := push_op es he
  refine ⟨c1, c2, ?_, k1, k2⟩
  have h2 : parseP (pushB es) = some [(c2, behind es)] := by
    have := o2 []
    rw [List.append_nil] at this
    rw [e2, parseP_ok (by rw [this]), this, parseP_nil]
    rfl
  rw [e1, List.cons_append, parseP_ok (by rw [o1]), o1, h2]
  rfl
theorem push_pushes (ds : List UInt8) (hd : ds.length ≤ 47000000) : pushesB (pushB ds) = true := by
  obtain ⟨c1, r1, e1, o1, l1, _, _⟩ := push_op ds hd
  have := o1 []
  rw [List.append_nil] at this
  have h2 : parseP (pushB ds) = some [(c1, behind ds)] := by
    rw [e1, parseP_ok (by rw [this]), this, parseP_nil]
    rfl
  unfold pushesB
  rw [h2]
  simp
  omega

end Go.Proofs.YtocblkacdoahfaaGreatDoor.Sn

/-
  The references' Spare and Kept: a copy with tinted room behind it, and whether it is still as it was. Conditions: sizes within the reach.
-/
namespace Go.Proofs.YtocblkacdoahfaaGreatDoor.Tx
open Go.RowKit

/-- The bytes, and nine tinted ones behind them. -/
def tinted (bs : List UInt8) : List UInt8 := bs ++ (List.range 9).map fun k => b8 (201 + (bs.length + k : Nat))
theorem tinted_length (bs : List UInt8) : (tinted bs).length = bs.length + 9 := by simp [tinted]
theorem tinted_low {bs : List UInt8} {i : Nat} (h : i < bs.length) : (tinted bs)[i]? = bs[i]? := by
  unfold tinted
  rw [List.getElem?_append_left h]
theorem tinted_high {bs : List UInt8} {i : Nat} (h : bs.length ≤ i) (h2 : i < bs.length + 9) : (tinted bs)[i]? = some (b8 (201 + (i : Int))) := by
  unfold tinted
  rw [List.getElem?_append_right h, List.getElem?_map, List.getElem?_range (by omega)]
  simp
  congr 1
  omega

/-- Behind i rounds: the first i bytes are as they will be, the rest is zero. -/
def Fill (w : World) (g i : Nat) (bs : List UInt8) (wr : World) : Prop :=
  ∃ zs, zs = (tinted bs).take i ++ List.replicate (bs.length + 9 - i) 0 ∧ Row wr g zs ∧ Below w.heap.size w wr

theorem fill_next {w wr w' : World} {g i : Nat} {bs zs : List UInt8} {c : UInt8} (hi : i < bs.length + 9) (hc : (tinted bs)[i]? = some c) (hz : zs = (tinted bs).take i ++ List.replicate (bs.length + 9 - i) 0)
    (hr : Row w' g (zs.set i c)) (_hb : Below w.heap.size w wr) (hb' : Below w.heap.size w w') : Fill w g (i + 1) bs w' :=
  ⟨_, set_next (by rw [tinted_length]; exact hi) hc hz (by rw [tinted_length]), hr, hb'⟩

theorem fill_zero {bs zs : List UInt8} {i : Nat} (hi : i < bs.length + 9) (hz : zs = (tinted bs).take i ++ List.replicate (bs.length + 9 - i) 0) : zs[i]? = some 0 := by
  subst hz
  have hl : ((tinted bs).take i).length = i := by rw [List.length_take, tinted_length]; omega
  rw [List.getElem?_append_right (by omega), hl, Nat.sub_self]
  obtain ⟨m, hm⟩ : ∃ m, bs.length + 9 - i = m + 1 := ⟨bs.length + 9 - i - 1, by omega⟩
  rw [hm, List.replicate_succ]
  rfl

end Go.Proofs.YtocblkacdoahfaaGreatDoor.Tx
