/-
  Texts joined: B5F, ShaPure, Words. Conditions: those of each.
-/
import Derived.Test.YtocblkacdoahfaaGreatDoorJ31
import Derived.Laws.Bits64
import Derived.Lib.EndianBits
import Derived.KernelRfl
import Derived.Test.YtocblkacdoahfaaGreatDoorJ5
/-
  The reference's FromBase58. Conditions: sizes within the reach.
-/
namespace Go.Proofs.YtocblkacdoahfaaGreatDoor
open Go.RowKit

theorem posB_inj8 {al : ByteArray} {a b : UInt8} (ha : 0 ≤ posB al a) (hb : posB al a = posB al b) : a = b := by
  obtain ⟨o, ho⟩ : ∃ o : Nat, posB al a = o := ⟨(posB al a).toNat, by omega⟩
  have h1 := (Lib.indexByte_some (l := al.data.toList) (c := a) (by exact ho)).1
  have h2 := (Lib.indexByte_some (l := al.data.toList) (c := b) (by exact hb ▸ ho)).1
  rw [h1] at h2
  injection h2
theorem posB_range8 (al : ByteArray) (c : UInt8) : -1 ≤ posB al c ∧ posB al c < al.size := by
  have hge := Lib.indexByte_ge al.data.toList c
  have e : posB al c = Lib.indexByte al.data.toList c := rfl
  refine ⟨by omega, ?_⟩
  by_cases h : posB al c < 0
  · have : 0 ≤ al.size := Nat.zero_le _
    omega
  · obtain ⟨o, ho⟩ : ∃ o : Nat, posB al c = o := ⟨(posB al c).toNat, by omega⟩
    have := (List.getElem?_eq_some_iff.1 (Lib.indexByte_some (l := al.data.toList) (by exact ho)).1).1
    have h2 : al.data.toList.length = al.size := rfl
    omega
/-- What a text in base 58 says: the error, the bytes. -/
def Dec (cs : List UInt8) (k : Int) (out : List UInt8) : Prop :=
  (250 < cs.length ∧ k = 2 ∧ out = []) ∨ (cs.length ≤ 250 ∧ (∃ c ∈ cs, posB b58D c < 0) ∧ k = 3 ∧ out = []) ∨ (cs.length ≤ 250 ∧ (∀ c ∈ cs, 0 ≤ posB b58D c) ∧ k = 0 ∧ RebOf 256 58 (placesB b58D cs) out)
theorem Dec.unique {cs : List UInt8} {k k' : Int} {out out' : List UInt8} (h : Dec cs k out) (h' : Dec cs k' out') : k = k' ∧ out = out' := by
  rcases h with ⟨h1, h2, h3⟩ | ⟨h1, ⟨c, hc, hn⟩, h2, h3⟩ | ⟨h1, ha, h2, h3⟩ <;> rcases h' with ⟨g1, g2, g3⟩ | ⟨g1, ⟨c', hc', hn'⟩, g2, g3⟩ | ⟨g1, ga, g2, g3⟩
  · exact ⟨by rw [h2, g2], by rw [h3, g3]⟩
  · omega
  · omega
  · omega
  · exact ⟨by rw [h2, g2], by rw [h3, g3]⟩
  · have := ga c hc; omega
  · omega
  · have := ha c' hc'; omega
  · exact ⟨by rw [h2, g2], h3.unique g3⟩
/-- The state behind some letters: the digits of the number that they are. -/
def AccOf (cs : List UInt8) (n : List UInt8) : Prop := AscOf 256 (valF 58 (placesB b58D cs)) n.reverse
theorem placesB_snoc (cs : List UInt8) (c : UInt8) : placesB b58D (cs ++ [c]) = placesB b58D cs ++ [b8 (posB b58D c)] := by unfold placesB; rw [List.map_append]; rfl

/-- Digits of M * 58 + d, the lower m of them turned. -/
def mixR (N M k m : Nat) : List UInt8 := (digitsL 256 N m ++ (digitsL 256 M k).drop m).reverse
theorem mixR_length {N M k m : Nat} (h : m ≤ k) : (mixR N M k m).length = k := by
  unfold mixR
  rw [List.length_reverse, List.length_append, digitsL_length, List.length_drop, digitsL_length]
  omega
theorem mixR_get {N M k m : Nat} (h : m < k) : (mixR N M k m)[k - 1 - m]? = some (digN 256 M m) := by
  unfold mixR
  have hl : (digitsL 256 N m ++ (digitsL 256 M k).drop m).length = k := by rw [List.length_append, digitsL_length, List.length_drop, digitsL_length]; omega
  rw [List.getElem?_reverse (by omega), hl, show k - 1 - (k - 1 - m) = m by omega, List.getElem?_append_right (by rw [digitsL_length]; exact Nat.le_refl _), digitsL_length, Nat.sub_self, List.getElem?_drop, Nat.add_zero]
  exact digitsL_at h
theorem mixR_set {N M k m : Nat} (h : m < k) : (mixR N M k m).set (k - 1 - m) (digN 256 N m) = mixR N M k (m + 1) := by
  have hl0 := mixR_length (N := N) (M := M) (Nat.le_of_lt h)
  have hl1 := mixR_length (N := N) (M := M) (show m + 1 ≤ k from h)
  refine List.ext_getElem? fun j => ?_
  by_cases hj : j < k
  · have hg : ∀ m', m' ≤ k → (mixR N M k m')[j]? = if k - 1 - j < m' then some (digN 256 N (k - 1 - j)) else some (digN 256 M (k - 1 - j)) := by
      intro m' hm'
      unfold mixR
      have hl : (digitsL 256 N m' ++ (digitsL 256 M k).drop m').length = k := by rw [List.length_append, digitsL_length, List.length_drop, digitsL_length]; omega
      rw [List.getElem?_reverse (by omega), hl]
      split
      · rename_i hlt
        rw [List.getElem?_append_left (by rw [digitsL_length]; exact hlt)]
        exact digitsL_at hlt
      · rename_i hge
        rw [List.getElem?_append_right (by rw [digitsL_length]; omega), digitsL_length, List.getElem?_drop, show m' + (k - 1 - j - m') = k - 1 - j by omega]
        exact digitsL_at (by omega)
    by_cases hjm : j = k - 1 - m
    · subst hjm
      rw [List.getElem?_set_self (by omega), hg (m + 1) h, if_pos (by omega), show k - 1 - (k - 1 - m) = m by omega]
    · rw [List.getElem?_set_ne (by omega), hg m (by omega), hg (m + 1) h]
      by_cases hlt : k - 1 - j < m
      · rw [if_pos hlt, if_pos (by omega)]
      · rw [if_neg hlt, if_neg (by omega)]
  · rw [List.getElem?_eq_none (by rw [List.length_set]; omega), List.getElem?_eq_none (by omega)]
theorem mixR_zero (N M k : Nat) : mixR N M k 0 = (digitsL 256 M k).reverse := by unfold mixR; simp [digitsL]
theorem mixR_full (N M k : Nat) : mixR N M k k = (digitsL 256 N k).reverse := by unfold mixR; rw [List.drop_of_length_le (by rw [digitsL_length]; exact Nat.le_refl _), List.append_nil]
theorem own_made8 (w : World) (e : TypeId) (l : List Value) (ys : List UInt8) (h : l = ys.map bv) (hl : ys.length ≤ maxLen) {base : Nat} (hb : base ≤ w.heap.size) :
    (w.alloc (.cells l.toArray e)).ownsRow base e 1 (.slice (some ⟨w.heap.size, 0, none⟩) ys.length ys.length) ys.length (ys.map bv) :=
  ⟨by simp, .inr ⟨w.heap.size, ys.length, _, rfl, hb, heap_alloc_new w _, Nat.le_refl _, hl, by rw [h]; simp, by
    rw [Nat.mul_one, h]
    exact List.take_of_length_le (by simp)⟩⟩
theorem own_base8 {w : World} {b b' : Nat} {e : TypeId} {size n : Nat} {v : Value} {xs : List Value} (h : w.ownsRow b e size v n xs) (hb : b' ≤ b) : w.ownsRow b' e size v n xs := by
  refine ⟨h.1, ?_⟩
  rcases h.2 with h | ⟨g, cap, cur, hv, hg, r⟩
  · exact .inl h
  · exact .inr ⟨g, cap, cur, hv, Nat.le_trans hb hg, r⟩
theorem own_join8 {w : World} {base : Nat} {v : Value} {t l p : List UInt8} (h : w.ownsRow base 5 1 v (t.length + l.length) (t.map bv ++ l.map bv)) (hp : p = t ++ l) : OwnB w base v p := by
  subst hp
  unfold OwnB
  rw [List.length_append, List.map_append]
  exact h
theorem pos_one (c : UInt8) : posB b58D c = 0 ↔ c = 49 := by
  constructor
  · intro h
    exact (posB_inj8 (al := b58D) (a := c) (b := 49) (by omega) (by rw [h]; decide +kernel))
  · rintro rfl
    decide +kernel
/-- The digits behind one letter more. -/
theorem acc_step {M kk p cr : Nat} (hp : p < 58) (hk : M / 256 ^ kk = 0) (hkj : ∀ j, j < kk → M / 256 ^ j ≠ 0) (hcr : cr = (M * 58 + p) / 256 ^ kk) (hcr58 : cr < 58) :
    (cr = 0 → AscOf 256 (M * 58 + p) (digitsL 256 (M * 58 + p) kk)) ∧ (0 < cr → AscOf 256 (M * 58 + p) (digitsL 256 (M * 58 + p) (kk + 1)) ∧ digN 256 (M * 58 + p) kk = b8 (cr : Int)) := by
  have hge : ∀ j, j < kk → (M * 58 + p) / 256 ^ j ≠ 0 := fun j hj h => hkj j hj (by
    have h1 : M / 256 ^ j ≤ (M * 58 + p) / 256 ^ j := Nat.div_le_div_right (by omega)
    rw [h] at h1
    exact Nat.le_zero.1 h1)
  refine ⟨fun h0 => ⟨kk, rfl, by rw [← hcr]; exact h0, hge⟩, fun h0 => ⟨⟨kk + 1, rfl, ?_, fun j hj => ?_⟩, ?_⟩⟩
  · rw [div_next, ← hcr]
    exact Nat.div_eq_of_lt (by omega)
  · by_cases h : j < kk
    · exact hge j h
    · obtain rfl : j = kk := by omega
      rw [← hcr]
      exact Nat.ne_of_gt h0
  · unfold digN
    rw [← hcr, Nat.mod_eq_of_lt (by omega)]
theorem byt_own8 {w : World} {base : Nat} {v : Value} {n : List UInt8} (h : OwnB w base v n) : ∃ A c, v = .slice A n.length c ∧ n.length ≤ c ∧ c ≤ 9223372036854775807 := by
  obtain ⟨A, c, e, h1, h2, _⟩ := Byt.of_own h
  unfold maxLen at h2
  exact ⟨A, c, e, h1, h2⟩
def RDec (w : World) (cs : List UInt8) (e : Ending) (w' : World) : Prop := ∃ k v out, Dec cs k out ∧ e = .returned (.tuple #[v, .int .i64 k]) ∧ OwnB w' w.heap.size v out ∧ Below w.heap.size w w'

end Go.Proofs.YtocblkacdoahfaaGreatDoor

/-
  SHA-256 on plain numbers, in the words of the walks. Conditions: none (plain mathematics).
-/
namespace Go.Proofs.YtocblkacdoahfaaGreatDoor

/-- The sum of two words. -/
def add32 (a b : Int) : Int := (a + b) % 4294967296
def rot32 (n : Nat) (x : Int) : Int := bits .or .u32 (x * 2 ^ n % 4294967296) (x / 2 ^ (32 - n))
def not32 (x : Int) : Int := bits .xor .u32 IntKind.u32.max x
def big1 (e : Int) : Int := bits .xor .u32 (bits .xor .u32 (rot32 26 e) (rot32 21 e)) (rot32 7 e)
def big0 (a : Int) : Int := bits .xor .u32 (bits .xor .u32 (rot32 30 a) (rot32 19 a)) (rot32 10 a)
def ch32 (e f g : Int) : Int := bits .xor .u32 (bits .and .u32 e f) (bits .and .u32 (not32 e) g)
def maj32 (a b c : Int) : Int := bits .xor .u32 (bits .xor .u32 (bits .and .u32 a b) (bits .and .u32 a c)) (bits .and .u32 b c)
def small0 (x : Int) : Int := bits .xor .u32 (bits .xor .u32 (rot32 25 x) (rot32 14 x)) (x / 8)
def small1 (x : Int) : Int := bits .xor .u32 (bits .xor .u32 (rot32 15 x) (rot32 13 x)) (x / 1024)

structure S8 where
  a : Int
  b : Int
  c : Int
  d : Int
  e : Int
  f : Int
  g : Int
  h : Int
def rnd (k w : Int) (s : S8) : S8 :=
  let t1 := add32 (add32 (add32 (add32 s.h (big1 s.e)) (ch32 s.e s.f s.g)) k) w
  let t2 := add32 (big0 s.a) (maj32 s.a s.b s.c)
  ⟨add32 t1 t2, s.a, s.b, s.c, add32 s.d t1, s.e, s.f, s.g⟩

def U32 (x : Int) : Prop := 0 ≤ x ∧ x < 4294967296
theorem add32_u (a b : Int) : U32 (add32 a b) := by unfold add32 U32; omega
theorem bits32_u (op : BinOp) (a b : Int) : U32 (bits op .u32 a b) := by
  unfold bits
  have : ∀ n : Int, U32 (IntKind.u32.wrap n) := fun n => by unfold U32 IntKind.wrap; simp [IntKind.bits, IntKind.signed]; omega
  exact this _
structure S8.Ok (s : S8) : Prop where
  a : U32 s.a
  b : U32 s.b
  c : U32 s.c
  d : U32 s.d
  e : U32 s.e
  f : U32 s.f
  g : U32 s.g
  h : U32 s.h
theorem rnd_ok (k w : Int) {s : S8} (h : s.Ok) : (rnd k w s).Ok := ⟨add32_u _ _, h.a, h.b, h.c, add32_u _ _, h.e, h.f, h.g⟩

/-- The first 64 constants. -/
def k256 : List Int := [0x428a2f98, 0x71374491, 0xb5c0fbcf, 0xe9b5dba5, 0x3956c25b, 0x59f111f1, 0x923f82a4, 0xab1c5ed5, 0xd807aa98, 0x12835b01, 0x243185be, 0x550c7dc3, 0x72be5d74, 0x80deb1fe, 0x9bdc06a7, 0xc19bf174, 0xe49b69c1, 0xefbe4786, 0x0fc19dc6, 0x240ca1cc, 0x2de92c6f, 0x4a7484aa, 0x5cb0a9dc, 0x76f988da, 0x983e5152, 0xa831c66d, 0xb00327c8, 0xbf597fc7, 0xc6e00bf3, 0xd5a79147, 0x06ca6351, 0x14292967, 0x27b70a85, 0x2e1b2138, 0x4d2c6dfc, 0x53380d13, 0x650a7354, 0x766a0abb, 0x81c2c92e, 0x92722c85, 0xa2bfe8a1, 0xa81a664b, 0xc24b8b70, 0xc76c51a3, 0xd192e819, 0xd6990624, 0xf40e3585, 0x106aa070, 0x19a4c116, 0x1e376c08, 0x2748774c, 0x34b0bcb5, 0x391c0cb3, 0x4ed8aa4a, 0x5b9cca4f, 0x682e6ff3, 0x748f82ee, 0x78a5636f, 0x84c87814, 0x8cc70208, 0x90befffa, 0xa4506ceb, 0xbef9a3f7, 0xc67178f2]
def h256 : List Int := [0x6a09e667, 0xbb67ae85, 0x3c6ef372, 0xa54ff53a, 0x510e527f, 0x9b05688c, 0x1f83d9ab, 0x5be0cd19]

/-- Four bytes as a word, the greatest first. -/
def be32 (b0 b1 b2 b3 : UInt8) : Int := (b0.toNat : Int) * 16777216 + (b1.toNat : Int) * 65536 + (b2.toNat : Int) * 256 + (b3.toNat : Int)
theorem be32_u (b0 b1 b2 b3 : UInt8) : U32 (be32 b0 b1 b2 b3) := by
  have h0 := b0.toNat_lt
  have h1 := b1.toNat_lt
  have h2 := b2.toNat_lt
  have h3 := b3.toNat_lt
  unfold be32 U32
  omega
def wordAt (bs : List UInt8) (t : Nat) : Int := be32 (bs.getD (4 * t) 0) (bs.getD (4 * t + 1) 0) (bs.getD (4 * t + 2) 0) (bs.getD (4 * t + 3) 0)
def words16 (bs : List UInt8) : List Int := (List.range 16).map (wordAt bs)

/-- The next word of the schedule. -/
def nextW (ws : List Int) : Int :=
  add32 (add32 (add32 (small1 (ws.getD (ws.length - 2) 0)) (ws.getD (ws.length - 7) 0)) (small0 (ws.getD (ws.length - 15) 0))) (ws.getD (ws.length - 16) 0)
def schedN (ws : List Int) : Nat → List Int
  | 0 => ws
  | n + 1 => schedN ws n ++ [nextW (schedN ws n)]
theorem schedN_length (ws : List Int) : ∀ n, (schedN ws n).length = ws.length + n
  | 0 => rfl
  | n + 1 => by rw [schedN, List.length_append, schedN_length ws n]; rfl
def W64 (bs : List UInt8) : List Int := schedN (words16 bs) 48
theorem W64_length (bs : List UInt8) : (W64 bs).length = 64 := by
  unfold W64
  rw [schedN_length]
  simp [words16]

def rounds (ks ws : List Int) : Nat → S8 → S8
  | 0, s => s
  | t + 1, s => rnd (ks.getD t 0) (ws.getD t 0) (rounds ks ws t s)
theorem rounds_ok (ks ws : List Int) : ∀ (t : Nat) {s : S8}, s.Ok → (rounds ks ws t s).Ok
  | 0, _, h => h
  | t + 1, _, h => rnd_ok _ _ (rounds_ok ks ws t h)
def S8.list (s : S8) : List Int := [s.a, s.b, s.c, s.d, s.e, s.f, s.g, s.h]
/-- A block more. -/
def comp256 (s : S8) (bs : List UInt8) : S8 :=
  let v := rounds k256 (W64 bs) 64 s
  ⟨add32 s.a v.a, add32 s.b v.b, add32 s.c v.c, add32 s.d v.d, add32 s.e v.e, add32 s.f v.f, add32 s.g v.g, add32 s.h v.h⟩
theorem comp256_ok (s : S8) (bs : List UInt8) : (comp256 s bs).Ok := ⟨add32_u _ _, add32_u _ _, add32_u _ _, add32_u _ _, add32_u _ _, add32_u _ _, add32_u _ _, add32_u _ _⟩
def start256 : S8 := ⟨0x6a09e667, 0xbb67ae85, 0x3c6ef372, 0xa54ff53a, 0x510e527f, 0x9b05688c, 0x1f83d9ab, 0x5be0cd19⟩
theorem start256_ok : start256.Ok := ⟨by unfold U32; decide, by unfold U32; decide, by unfold U32; decide, by unfold U32; decide, by unfold U32; decide, by unfold U32; decide, by unfold U32; decide, by unfold U32; decide⟩
/-- Block by block. -/
def blocks256 (m : List UInt8) : Nat → S8
  | 0 => start256
  | n + 1 => comp256 (blocks256 m n) ((m.drop (64 * n)).take 64)
theorem blocks256_ok (m : List UInt8) : ∀ n, (blocks256 m n).Ok
  | 0 => start256_ok
  | _ + 1 => comp256_ok _ _
theorem blocks256_more {m : List UInt8} (x : List UInt8) : ∀ n, 64 * n ≤ m.length → blocks256 (m ++ x) n = blocks256 m n
  | 0, _ => rfl
  | n + 1, h => by
    unfold blocks256
    rw [blocks256_more x n (by omega), List.drop_append_of_le_length (by omega), List.take_append_of_le_length (by rw [List.length_drop]; omega)]

/-- What closes a message of n bytes. -/
def lenB (n : Nat) : List UInt8 := (List.range 8).map fun i => UInt8.ofNat (8 * n / 256 ^ (7 - i) % 256)
def padB (n : Nat) : List UInt8 := [128] ++ List.replicate ((119 - n % 64) % 64) 0 ++ lenB n
theorem padB_fits (n : Nat) : (n + (padB n).length) % 64 = 0 := by
  unfold padB lenB
  simp only [List.length_append, List.length_cons, List.length_nil, List.length_replicate, List.length_map, List.length_range]
  omega
def full (m : List UInt8) : List UInt8 := m ++ padB m.length
/-- The bytes of the words. -/
def outB (ws : List Int) : List UInt8 := ws.flatMap fun w => [UInt8.ofNat (w / 16777216 % 256).toNat, UInt8.ofNat (w / 65536 % 256).toNat, UInt8.ofNat (w / 256 % 256).toNat, UInt8.ofNat (w % 256).toNat]
def sha256 (m : List UInt8) : List UInt8 := outB (blocks256 (full m) ((full m).length / 64)).list
theorem outB_length (ws : List Int) : (outB ws).length = 4 * ws.length := by
  induction ws with
  | nil => rfl
  | cons w ws ih => unfold outB at ih ⊢; rw [List.flatMap_cons, List.length_append, ih, List.length_cons]; simp; omega
theorem sha256_length (m : List UInt8) : (sha256 m).length = 32 := by
  unfold sha256
  rw [outB_length]
  rfl

theorem sha_abc : sha256 [97, 98, 99] = [0xba, 0x78, 0x16, 0xbf, 0x8f, 0x01, 0xcf, 0xea, 0x41, 0x41, 0x40, 0xde, 0x5d, 0xae, 0x22, 0x23, 0xb0, 0x03, 0x61, 0xa3, 0x96, 0x17, 0x7a, 0x9c, 0xb4, 0x10, 0xff, 0x61, 0xf2, 0x00, 0x15, 0xad] := by decide +kernel
end Go.Proofs.YtocblkacdoahfaaGreatDoor

/-
  Rows of numbers that may be written. Conditions: none.
-/
namespace Go.Proofs.YtocblkacdoahfaaGreatDoor
open Go.RowKit

/-- Block g holds these numbers of kind k, and may be written. -/
def IRow (w : World) (g : Nat) (t : TypeId) (k : IntKind) (xs : List Int) : Prop := w.heap[g]? = some (.cells (xs.map (Value.int k)).toArray t (0, 0))
section
variable {w w' : World} {g : Nat} {t : TypeId} {k : IntKind} {xs : List Int}
theorem IRow.lt (h : IRow w g t k xs) : g < w.heap.size := (Array.getElem?_eq_some_iff.1 h).1
theorem IRow.cell (h : IRow w g t k xs) {i : Nat} {z : Int} (hi : xs[i]? = some z) : w.cell? ⟨g, i, none⟩ = some (.int k z) := by
  rw [cell_of_row w g i _ _ _ h]
  simp [hi]
theorem IRow.free (h : IRow w g t k xs) (i : Nat) : w.frozen? ⟨g, i, none⟩ = false := by
  unfold IRow at h
  simp [World.frozen?, h]
theorem IRow.set (h : IRow w g t k xs) (i : Nat) (z : Int) : IRow (w.setCell ⟨g, i, none⟩ (.int k z)) g t k (xs.set i z) := by
  unfold IRow at h ⊢
  simp [World.setCell, Array.getElem?_modify, h, List.map_set]
theorem IRow.turns {S : Nat → Prop} (h : IRow w g t k xs) (ht : Turns S w w') (hS : ¬ S g) : IRow w' g t k xs := (ht.block g h.lt hS).trans h
theorem IRow.below {B : Nat} (h : IRow w g t k xs) (hb : Below B w w') (hg : g < B) : IRow w' g t k xs := (hb.block g hg).trans h
theorem IRow.drew (h : IRow w g t k xs) : IRow w.drew g t k xs := h
theorem IRow.new (w : World) (t : TypeId) (k : IntKind) (xs : List Int) : IRow (w.alloc (.cells (xs.map (Value.int k)).toArray t)) w.heap.size t k xs := heap_alloc_new w _
end

/-- The first words as they will be, the rest zero. -/
def padZ (n : Nat) (l : List Int) : List Int := l ++ List.replicate (n - l.length) 0
theorem padZ_length {n : Nat} {l : List Int} (h : l.length ≤ n) : (padZ n l).length = n := by simp [padZ]; omega
theorem padZ_set {n : Nat} {l : List Int} {z : Int} (h : l.length < n) : (padZ n l).set l.length z = padZ n (l ++ [z]) := by
  unfold padZ
  rw [List.set_append_right _ _ (Nat.le_refl _), Nat.sub_self, List.length_append, List.append_assoc]
  obtain ⟨m, hm⟩ : ∃ m, n - l.length = m + 1 := ⟨n - l.length - 1, by omega⟩
  rw [hm, List.replicate_succ, List.set_cons_zero]
  have : n - (l.length + [z].length) = m := by simp; omega
  rw [this]
  rfl
theorem padZ_low {n i : Nat} {l : List Int} {z : Int} (h : l[i]? = some z) : (padZ n l)[i]? = some z := by
  unfold padZ
  rw [List.getElem?_append_left (List.getElem?_eq_some_iff.1 h).1]
  exact h
theorem padZ_next {n : Nat} {l : List Int} (h : l.length < n) : (padZ n l)[l.length]? = some 0 := by
  unfold padZ
  rw [List.getElem?_append_right (Nat.le_refl _), Nat.sub_self, List.getElem?_replicate, if_pos (by omega)]
theorem padZ_full {n : Nat} {l : List Int} (h : l.length = n) : padZ n l = l := by
  unfold padZ
  rw [h, Nat.sub_self, List.replicate_zero, List.append_nil]

theorem u32_wrap (n : Int) : IntKind.u32.wrap n = n % 4294967296 := by simp [IntKind.wrap, IntKind.bits, IntKind.signed]
end Go.Proofs.YtocblkacdoahfaaGreatDoor
