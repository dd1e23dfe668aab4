/-
  Texts joined: B5L, B5Q, RmPure. Conditions: those of each.
-/
import Derived.Test.YtocblkacdoahfaaGreatDoorJ38
import Derived.Test.YtocblkacdoahfaaGreatDoorJ31
import Derived.Test.YtocblkacdoahfaaGreatDoorJ35
/-
  The reference's Check58 and FromCheck58. Conditions: sizes within the reach.
-/
namespace Go.Proofs.YtocblkacdoahfaaGreatDoor.Tx
open Go.RowKit

end Go.Proofs.YtocblkacdoahfaaGreatDoor.Tx

/-
  Pure: letters and places, and how long. Conditions: none.
-/
namespace Go.Proofs.YtocblkacdoahfaaGreatDoor.Tx
open Go.RowKit

theorem letter_pos_fin : ∀ d : Fin 58, posB b58D (b58D.data.toList.getD d.val 0) = (d.val : Int) := by decide +kernel
theorem letter_pos {n : Nat} (h : n < 58) : posB b58D (b58D.data.toList.getD n 0) = (n : Int) := letter_pos_fin ⟨n, h⟩
theorem places_letters {out : List UInt8} (h : ∀ d ∈ out, d.toNat < 58) : placesB b58D (letters b58D out) = out ∧ ∀ c ∈ letters b58D out, 0 ≤ posB b58D c := by
  induction out with
  | nil => exact ⟨rfl, fun c h => by cases h⟩
  | cons d r ih =>
    obtain ⟨h1, h2⟩ := ih (fun e he => h e (List.mem_cons_of_mem _ he))
    have hp := letter_pos (h d (List.mem_cons_self ..))
    have e1 : letters b58D (d :: r) = b58D.data.toList.getD d.toNat 0 :: letters b58D r := rfl
    have e2 : placesB b58D (b58D.data.toList.getD d.toNat 0 :: letters b58D r) = b8 (posB b58D (b58D.data.toList.getD d.toNat 0)) :: placesB b58D (letters b58D r) := rfl
    rw [e1]
    refine ⟨?_, ?_⟩
    · rw [e2, hp, h1]
      congr 1
      apply UInt8.toNat_inj.1
      have := b8_toNat ((d.toNat : Nat) : Int)
      have := d.toNat_lt
      omega
    · intro c hc
      rcases List.mem_cons.1 hc with rfl | hc
      · rw [hp]; omega
      · exact h2 c hc
theorem letters_places {cs : List UInt8} (h : ∀ c ∈ cs, 0 ≤ posB b58D c) : letters b58D (placesB b58D cs) = cs := by
  induction cs with
  | nil => rfl
  | cons c r ih =>
    have h2 := ih (fun e he => h e (List.mem_cons_of_mem _ he))
    have h0 := h c (List.mem_cons_self ..)
    have hr := posB_range8 b58D c
    have h58' : (b58D.size : Int) = 58 := rfl
    have hb := b8_toNat (posB b58D c)
    have hp := letter_pos (n := (b8 (posB b58D c)).toNat) (by omega)
    have e1 : letters b58D (placesB b58D (c :: r)) = b58D.data.toList.getD (b8 (posB b58D c)).toNat 0 :: letters b58D (placesB b58D r) := rfl
    rw [e1, h2]
    congr 1
    exact posB_inj8 (by rw [hp]; omega) (by rw [hp]; omega)
theorem reb_short {ds out : List UInt8} (h : RebOf 58 256 ds out) (hl : ds.length ≤ 124) : out.length ≤ 250 := by
  obtain ⟨asc, ⟨k, rfl, _, hj⟩, rfl⟩ := h
  have hz := zerosN_le ds
  have hv := valF_pow (b := 256) (ds.drop (zerosN ds)) (fun d _ => d.toNat_lt)
  rw [List.length_drop] at hv
  rw [List.length_append, List.length_replicate, List.length_reverse, digitsL_length]
  rcases Nat.eq_zero_or_pos k with rfl | hk
  · omega
  · have h1 := hj (k - 1) (by omega)
    have h2 : 58 ^ (k - 1) ≤ valF 256 (ds.drop (zerosN ds)) := by
      rcases Nat.lt_or_ge (valF 256 (ds.drop (zerosN ds))) (58 ^ (k - 1)) with h | h
      · exact absurd (Nat.div_eq_of_lt h) h1
      · exact h
    have h3 : 2 ^ (5 * (k - 1)) ≤ 58 ^ (k - 1) := by
      rw [Nat.pow_mul]
      exact Nat.pow_le_pow_left (by decide) _
    have h4 : (256 : Nat) ^ (ds.length - zerosN ds) = 2 ^ (8 * (ds.length - zerosN ds)) := by rw [Nat.pow_mul]
    have h5 : 2 ^ (5 * (k - 1)) < 2 ^ (8 * (ds.length - zerosN ds)) := by omega
    have h6 := (Nat.pow_lt_pow_iff_right (by decide : 1 < 2)).1 h5
    omega
theorem dec_of_reb {ds out : List UInt8} (h : RebOf 58 256 ds out) (hl : ds.length ≤ 124) : Dec (letters b58D out) 0 ds := by
  obtain ⟨h1, h2⟩ := places_letters (reb_small h (by decide) (by decide))
  refine .inr (.inr ⟨by rw [letters_length]; exact reb_short h hl, h2, rfl, ?_⟩)
  rw [h1]
  exact reb_back h (by decide) (by decide) (by decide) (by decide) (fun d _ => d.toNat_lt)
theorem chk_back (b : List UInt8) : chkF 0 (b ++ sum4 b) = (0, b) := by
  have h := sum4_length b
  have e : (b ++ sum4 b).length - 4 = b.length := by rw [List.length_append, h]; omega
  unfold chkF
  rw [if_neg (by simp), if_neg (by rw [List.length_append]; omega), e, List.take_left, List.drop_left, if_pos rfl]
/-- What stands spelled so is what is spelled so. -/
theorem dec_again {cs u out : List UInt8} (h : Dec cs 0 u) (h2 : RebOf 58 256 u out) : letters b58D out = cs := by
  rcases h with ⟨_, h, _⟩ | ⟨_, _, h, _⟩ | ⟨h1, ha, _, h3⟩
  · exact absurd h (by decide)
  · exact absurd h (by decide)
  · have hs : ∀ d ∈ placesB b58D cs, d.toNat < 58 := fun d hd => by
      unfold placesB at hd
      obtain ⟨c1, hc1, rfl⟩ := List.mem_map.1 hd
      have a2 := posB_range8 b58D c1
      have a3 := ha c1 hc1
      have a4 := b8_toNat (posB b58D c1)
      have h58' : (b58D.size : Int) = 58 := rfl
      omega
    have hb := reb_back h3 (by decide) (by decide) (by decide) (by decide) hs
    rw [h2.unique hb]
    exact letters_places ha
end Go.Proofs.YtocblkacdoahfaaGreatDoor.Tx

/-
  RIPEMD-160 on plain numbers, in the words of the walks. Conditions: none (plain mathematics).
-/
namespace Go.Proofs.YtocblkacdoahfaaGreatDoor.Rm
open Go.RowKit

structure S5 where
  a : Int
  b : Int
  c : Int
  d : Int
  e : Int
structure S5.Ok (s : S5) : Prop where
  a : U32 s.a
  b : U32 s.b
  c : U32 s.c
  d : U32 s.d
  e : U32 s.e
def S5.list (s : S5) : List Int := [s.a, s.b, s.c, s.d, s.e]
theorem S5.list_length (s : S5) : s.list.length = 5 := rfl
theorem S5.mem_ok {s : S5} (h : s.Ok) {x : Int} (hx : x ∈ [s.a, s.b, s.c, s.d, s.e]) : U32 x := by
  simp only [List.mem_cons, List.not_mem_nil, or_false] at hx
  rcases hx with rfl | rfl | rfl | rfl | rfl
  · exact h.a
  · exact h.b
  · exact h.c
  · exact h.d
  · exact h.e
/-- A round's way to mix. -/
def fR (r : Nat) (b c d : Int) : Int :=
  if r = 0 then bits .xor .u32 (bits .xor .u32 b c) d
  else if r = 1 then bits .or .u32 (bits .and .u32 b c) (bits .and .u32 (not32 b) d)
  else if r = 2 then bits .xor .u32 (bits .or .u32 b (not32 c)) d
  else if r = 3 then bits .or .u32 (bits .and .u32 b d) (bits .andNot .u32 c d)
  else bits .xor .u32 b (bits .or .u32 c (not32 d))
theorem fR_u (r : Nat) (b c d : Int) : U32 (fR r b c d) := by
  unfold fR
  split
  · exact bits32_u _ _ _
  · split
    · exact bits32_u _ _ _
    · split
      · exact bits32_u _ _ _
      · split
        · exact bits32_u _ _ _
        · exact bits32_u _ _ _
/-- A step of a line: the sum that is turned, then the step. -/
def sumR (r : Nat) (x k : Int) (v : S5) : Int := add32 (add32 (add32 v.a (fR r v.b v.c v.d)) x) k
def stepR (r : Nat) (x k : Int) (s : Nat) (v : S5) : S5 := ⟨v.e, add32 (rot32 s (sumR r x k v)) v.e, v.b, rot32 10 v.c, v.d⟩
theorem rot32_u (n : Nat) (x : Int) : U32 (rot32 n x) := bits32_u _ _ _
theorem stepR_ok (r : Nat) (x k : Int) (s : Nat) {v : S5} (h : v.Ok) : (stepR r x k s v).Ok := ⟨h.e, add32_u _ _, h.b, rot32_u _ _, h.d⟩
def ord1 : List Int := [0, 1, 2, 3, 4, 5, 6, 7, 8, 9, 10, 11, 12, 13, 14, 15, 7, 4, 13, 1, 10, 6, 15, 3, 12, 0, 9, 5, 2, 14, 11, 8, 3, 10, 14, 4, 9, 15, 8, 1, 2, 7, 0, 6, 13, 11, 5, 12, 1, 9, 11, 10, 0, 8, 12, 4, 13, 3, 7, 15, 14, 5, 6, 2, 4, 0, 5, 9, 7, 12, 2, 10, 14, 1, 3, 8, 11, 6, 15, 13]
def ord2 : List Int := [5, 14, 7, 0, 9, 2, 11, 4, 13, 6, 15, 8, 1, 10, 3, 12, 6, 11, 3, 7, 0, 13, 5, 10, 14, 15, 8, 12, 4, 9, 1, 2, 15, 5, 1, 3, 7, 14, 6, 9, 11, 8, 12, 2, 10, 0, 4, 13, 8, 6, 4, 1, 3, 11, 15, 0, 5, 12, 2, 13, 9, 7, 10, 14, 12, 15, 10, 4, 1, 5, 8, 7, 6, 2, 13, 14, 0, 3, 9, 11]
def turn1 : List Int := [11, 14, 15, 12, 5, 8, 7, 9, 11, 13, 14, 15, 6, 7, 9, 8, 7, 6, 8, 13, 11, 9, 7, 15, 7, 12, 15, 9, 11, 7, 13, 12, 11, 13, 6, 7, 14, 9, 13, 15, 14, 8, 13, 6, 5, 12, 7, 5, 11, 12, 14, 15, 14, 15, 9, 8, 9, 14, 5, 6, 8, 6, 5, 12, 9, 15, 5, 11, 6, 8, 13, 12, 5, 12, 13, 14, 11, 8, 5, 6]
def turn2 : List Int := [8, 9, 9, 11, 13, 15, 15, 5, 7, 7, 8, 11, 14, 14, 12, 6, 9, 13, 15, 7, 12, 8, 9, 11, 7, 7, 12, 7, 6, 15, 13, 11, 9, 7, 15, 11, 8, 6, 6, 14, 12, 13, 5, 14, 13, 13, 7, 5, 15, 5, 8, 11, 14, 14, 6, 14, 6, 9, 12, 9, 12, 5, 15, 8, 8, 5, 12, 9, 12, 5, 14, 6, 8, 13, 6, 5, 15, 13, 11, 11]
def add1 : List Int := [0, 0x5a827999, 0x6ed9eba1, 0x8f1bbcdc, 0xa953fd4e]
def add2 : List Int := [0x50a28be6, 0x5c4dd124, 0x6d703ef3, 0x7a6d76e9, 0]
def line1 (xs : List Int) : Nat → S5 → S5
  | 0, v => v
  | t + 1, v => stepR (t / 16) (xs.getD (ord1.getD t 0).toNat 0) (add1.getD (t / 16) 0) (turn1.getD t 0).toNat (line1 xs t v)
def line2 (xs : List Int) : Nat → S5 → S5
  | 0, v => v
  | t + 1, v => stepR (4 - t / 16) (xs.getD (ord2.getD t 0).toNat 0) (add2.getD (t / 16) 0) (turn2.getD t 0).toNat (line2 xs t v)
theorem line1_ok (xs : List Int) : ∀ (t : Nat) {v : S5}, v.Ok → (line1 xs t v).Ok
  | 0, _, h => h
  | t + 1, _, h => stepR_ok _ _ _ _ (line1_ok xs t h)
theorem line2_ok (xs : List Int) : ∀ (t : Nat) {v : S5}, v.Ok → (line2 xs t v).Ok
  | 0, _, h => h
  | t + 1, _, h => stepR_ok _ _ _ _ (line2_ok xs t h)
theorem nat_of {l : List Int} {t B : Nat} (ht : t < l.length) (h : ∀ x ∈ l, 0 ≤ x ∧ x < (B : Int)) : ∃ r : Nat, l[t]? = some (r : Int) ∧ l.getD t 0 = (r : Int) ∧ r < B := by
  obtain ⟨h0, h1⟩ := h _ (List.getElem_mem ht)
  refine ⟨l[t].toNat, ?_, ?_, by omega⟩
  · rw [List.getElem?_eq_getElem ht]; congr 1; omega
  · rw [List.getD_eq_getElem?_getD, List.getElem?_eq_getElem ht]; simp only [Option.getD_some]; omega
theorem ord1_at {t : Nat} (h : t < 80) : ∃ r : Nat, ord1[t]? = some (r : Int) ∧ ord1.getD t 0 = (r : Int) ∧ r < 16 := nat_of (B := 16) h (by decide)
theorem ord2_at {t : Nat} (h : t < 80) : ∃ r : Nat, ord2[t]? = some (r : Int) ∧ ord2.getD t 0 = (r : Int) ∧ r < 16 := nat_of (B := 16) h (by decide)
theorem turn1_at {t : Nat} (h : t < 80) : ∃ r : Nat, turn1[t]? = some (r : Int) ∧ turn1.getD t 0 = (r : Int) ∧ r < 16 := nat_of (B := 16) h (by decide)
theorem turn2_at {t : Nat} (h : t < 80) : ∃ r : Nat, turn2[t]? = some (r : Int) ∧ turn2.getD t 0 = (r : Int) ∧ r < 16 := nat_of (B := 16) h (by decide)
theorem add1_at {j : Nat} (h : j < 5) : ∃ k : Int, add1[j]? = some k ∧ add1.getD j 0 = k := ⟨add1[j]'h, List.getElem?_eq_getElem h, by rw [List.getD_eq_getElem?_getD, List.getElem?_eq_getElem (show j < add1.length from h)]; rfl⟩
theorem add2_at {j : Nat} (h : j < 5) : ∃ k : Int, add2[j]? = some k ∧ add2.getD j 0 = k := ⟨add2[j]'h, List.getElem?_eq_getElem h, by rw [List.getD_eq_getElem?_getD, List.getElem?_eq_getElem (show j < add2.length from h)]; rfl⟩

def wordR (bs : List UInt8) (t : Nat) : Int := be32 (bs.getD (4 * t + 3) 0) (bs.getD (4 * t + 2) 0) (bs.getD (4 * t + 1) 0) (bs.getD (4 * t) 0)
def wordsR (bs : List UInt8) (t : Nat) : List Int := (List.range t).map (wordR bs)
theorem wordsR_succ (bs : List UInt8) (t : Nat) : wordsR bs (t + 1) = wordsR bs t ++ [wordR bs t] := by simp [wordsR, List.range_succ]
theorem wordsR_length (bs : List UInt8) (t : Nat) : (wordsR bs t).length = t := by simp [wordsR]
/-- What both lines give. -/
def joinR (s p q : S5) : S5 := ⟨add32 (add32 s.b p.c) q.d, add32 (add32 s.c p.d) q.e, add32 (add32 s.d p.e) q.a, add32 (add32 s.e p.a) q.b, add32 (add32 s.a p.b) q.c⟩
theorem joinR_ok (s p q : S5) : (joinR s p q).Ok := ⟨add32_u _ _, add32_u _ _, add32_u _ _, add32_u _ _, add32_u _ _⟩
def compR (s : S5) (bs : List UInt8) : S5 := joinR s (line1 (wordsR bs 16) 80 s) (line2 (wordsR bs 16) 80 s)
def startR : S5 := ⟨0x67452301, 0xefcdab89, 0x98badcfe, 0x10325476, 0xc3d2e1f0⟩
theorem startR_ok : startR.Ok := ⟨by unfold U32; decide, by unfold U32; decide, by unfold U32; decide, by unfold U32; decide, by unfold U32; decide⟩
/-- Block by block. -/
def blocksR (m : List UInt8) : Nat → S5
  | 0 => startR
  | n + 1 => compR (blocksR m n) ((m.drop (64 * n)).take 64)
theorem blocksR_ok (m : List UInt8) : ∀ n, (blocksR m n).Ok
  | 0 => startR_ok
  | _ + 1 => joinR_ok _ _ _
theorem blocksR_more {m : List UInt8} (x : List UInt8) : ∀ n, 64 * n ≤ m.length → blocksR (m ++ x) n = blocksR m n
  | 0, _ => rfl
  | n + 1, h => by
    unfold blocksR
    rw [blocksR_more x n (by omega), List.drop_append_of_le_length (by omega), List.take_append_of_le_length (by rw [List.length_drop]; omega)]
/-- What closes a message of n bytes. -/
def padR (n : Nat) : List UInt8 := [128] ++ List.replicate ((119 - n % 64) % 64) 0 ++ (lenB n).reverse
theorem padR_length (n : Nat) : (padR n).length = (119 - n % 64) % 64 + 9 := by
  unfold padR lenB
  simp only [List.length_append, List.length_cons, List.length_nil, List.length_replicate, List.length_reverse, List.length_map, List.length_range]
  omega
def fullR (m : List UInt8) : List UInt8 := m ++ padR m.length
theorem fullR_blocks (m : List UInt8) : (fullR m).length % 64 = 0 := by
  unfold fullR
  rw [List.length_append, padR_length]
  omega
/-- A word with its bytes turned round. -/
def rev32 (x : Int) : Int := x % 256 * 16777216 + x / 256 % 256 * 65536 + x / 65536 % 256 * 256 + x / 16777216
theorem rev32_u {x : Int} (h : U32 x) : U32 (rev32 x) := by
  obtain ⟨h0, h1⟩ := h
  unfold rev32 U32
  omega
theorem rev_be (a b c d : UInt8) : rev32 (be32 a b c d) = be32 d c b a := by
  have h0 := a.toNat_lt
  have h1 := b.toNat_lt
  have h2 := c.toNat_lt
  have h3 := d.toNat_lt
  unfold rev32 be32
  omega
def outR (ws : List Int) : List UInt8 := outB (ws.map rev32)
def ripemd (m : List UInt8) : List UInt8 := outR (blocksR (fullR m) ((fullR m).length / 64)).list
theorem outR_length (ws : List Int) : (outR ws).length = 4 * ws.length := by
  unfold outR
  rw [outB_length, List.length_map]
theorem ripemd_length (m : List UInt8) : (ripemd m).length = 20 := by
  unfold ripemd
  rw [outR_length]
  rfl
end Go.Proofs.YtocblkacdoahfaaGreatDoor.Rm
