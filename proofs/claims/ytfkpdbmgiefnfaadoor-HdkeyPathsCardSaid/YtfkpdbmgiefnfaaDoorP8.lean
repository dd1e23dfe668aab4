/-
  Texts joined: S5Pure, S5Rot, S5Sched. Conditions: those of each.
-/
import Derived.Test.YtfkpdbmgiefnfaaDoorP4
import Derived.Test.YtfkpdbmgiefnfaaDoorP1
import Derived.IntWalk
import Derived.StillTailTactics
/-
  SHA-512 on plain numbers, in the words of the walks. Conditions: none (plain mathematics).
-/
namespace Go.Proofs.YtfkpdbmgiefnfaaDoor.S5

/-- The sum of two words. -/
def add64 (a b : Int) : Int := (a + b) % 18446744073709551616
def rot64 (n : Nat) (x : Int) : Int := bits .or .u64 (x * 2 ^ n % 18446744073709551616) (x / 2 ^ (64 - n))
def not64 (x : Int) : Int := bits .xor .u64 IntKind.u64.max x
def big1 (e : Int) : Int := bits .xor .u64 (bits .xor .u64 (rot64 50 e) (rot64 46 e)) (rot64 23 e)
def big0 (a : Int) : Int := bits .xor .u64 (bits .xor .u64 (rot64 36 a) (rot64 30 a)) (rot64 25 a)
def ch64 (e f g : Int) : Int := bits .xor .u64 (bits .and .u64 e f) (bits .and .u64 (not64 e) g)
def maj64 (a b c : Int) : Int := bits .xor .u64 (bits .xor .u64 (bits .and .u64 a b) (bits .and .u64 a c)) (bits .and .u64 b c)
def small0 (x : Int) : Int := bits .xor .u64 (bits .xor .u64 (rot64 63 x) (rot64 56 x)) (x / 128)
def small1 (x : Int) : Int := bits .xor .u64 (bits .xor .u64 (rot64 45 x) (rot64 3 x)) (x / 64)

structure S8 where
  a : Int
  b : Int
  c : Int
  d : Int
  e : Int
  f : Int
  g : Int
  h : Int
def rnd (k w : Int) (s : S8) : S8 :=
  let t1 := add64 (add64 (add64 (add64 s.h (big1 s.e)) (ch64 s.e s.f s.g)) k) w
  let t2 := add64 (big0 s.a) (maj64 s.a s.b s.c)
  ⟨add64 t1 t2, s.a, s.b, s.c, add64 s.d t1, s.e, s.f, s.g⟩

def U64 (x : Int) : Prop := 0 ≤ x ∧ x < 18446744073709551616
theorem add64_u (a b : Int) : U64 (add64 a b) := by unfold add64 U64; omega
theorem bits64_u (op : BinOp) (a b : Int) : U64 (bits op .u64 a b) := by
  unfold bits
  have : ∀ n : Int, U64 (IntKind.u64.wrap n) := fun n => by unfold U64 IntKind.wrap; simp [IntKind.bits, IntKind.signed]; omega
  exact this _
structure S8.Ok (s : S8) : Prop where
  a : U64 s.a
  b : U64 s.b
  c : U64 s.c
  d : U64 s.d
  e : U64 s.e
  f : U64 s.f
  g : U64 s.g
  h : U64 s.h
theorem rnd_ok (k w : Int) {s : S8} (h : s.Ok) : (rnd k w s).Ok := ⟨add64_u _ _, h.a, h.b, h.c, add64_u _ _, h.e, h.f, h.g⟩


theorem u64_wrap (n : Int) : IntKind.u64.wrap n = n % 18446744073709551616 := by simp [IntKind.wrap, IntKind.bits, IntKind.signed]
/-- Eight bytes as a word, the greatest first. -/
def be64 (x y : Int) : Int := x * 4294967296 + y
theorem be64_u {x y : Int} (hx : U32 x) (hy : U32 y) : U64 (be64 x y) := by
  obtain ⟨h0, h1⟩ := hx
  obtain ⟨h2, h3⟩ := hy
  unfold be64 U64
  omega
def wordAt (bs : List UInt8) (t : Nat) : Int := be64 (be32 (bs.getD (8 * t) 0) (bs.getD (8 * t + 1) 0) (bs.getD (8 * t + 2) 0) (bs.getD (8 * t + 3) 0)) (be32 (bs.getD (8 * t + 4) 0) (bs.getD (8 * t + 5) 0) (bs.getD (8 * t + 6) 0) (bs.getD (8 * t + 7) 0))
def words16 (bs : List UInt8) : List Int := (List.range 16).map (wordAt bs)

/-- The next word of the schedule. -/
def nextW (ws : List Int) : Int :=
  add64 (add64 (add64 (small1 (ws.getD (ws.length - 2) 0)) (ws.getD (ws.length - 7) 0)) (small0 (ws.getD (ws.length - 15) 0))) (ws.getD (ws.length - 16) 0)
def schedN (ws : List Int) : Nat → List Int
  | 0 => ws
  | n + 1 => schedN ws n ++ [nextW (schedN ws n)]
theorem schedN_length (ws : List Int) : ∀ n, (schedN ws n).length = ws.length + n
  | 0 => rfl
  | n + 1 => by rw [schedN, List.length_append, schedN_length ws n]; rfl
def W80 (bs : List UInt8) : List Int := schedN (words16 bs) 64
theorem W80_length (bs : List UInt8) : (W80 bs).length = 80 := by
  unfold W80
  rw [schedN_length]
  simp [words16]

def rounds (ks ws : List Int) : Nat → S8 → S8
  | 0, s => s
  | t + 1, s => rnd (ks.getD t 0) (ws.getD t 0) (rounds ks ws t s)
theorem rounds_ok (ks ws : List Int) : ∀ (t : Nat) {s : S8}, s.Ok → (rounds ks ws t s).Ok
  | 0, _, h => h
  | t + 1, _, h => rnd_ok _ _ (rounds_ok ks ws t h)
def S8.list (s : S8) : List Int := [s.a, s.b, s.c, s.d, s.e, s.f, s.g, s.h]
/-- A block more. -/
def comp512 (s : S8) (bs : List UInt8) : S8 :=
  let v := rounds k512 (W80 bs) 80 s
  ⟨add64 s.a v.a, add64 s.b v.b, add64 s.c v.c, add64 s.d v.d, add64 s.e v.e, add64 s.f v.f, add64 s.g v.g, add64 s.h v.h⟩
theorem comp512_ok (s : S8) (bs : List UInt8) : (comp512 s bs).Ok := ⟨add64_u _ _, add64_u _ _, add64_u _ _, add64_u _ _, add64_u _ _, add64_u _ _, add64_u _ _, add64_u _ _⟩
def start512 : S8 := ⟨0x6a09e667f3bcc908, 0xbb67ae8584caa73b, 0x3c6ef372fe94f82b, 0xa54ff53a5f1d36f1, 0x510e527fade682d1, 0x9b05688c2b3e6c1f, 0x1f83d9abfb41bd6b, 0x5be0cd19137e2179⟩
theorem start512_ok : start512.Ok := ⟨by unfold U64; decide, by unfold U64; decide, by unfold U64; decide, by unfold U64; decide, by unfold U64; decide, by unfold U64; decide, by unfold U64; decide, by unfold U64; decide⟩
/-- Block by block. -/
def blocks512 (m : List UInt8) : Nat → S8
  | 0 => start512
  | n + 1 => comp512 (blocks512 m n) ((m.drop (128 * n)).take 128)
theorem blocks512_ok (m : List UInt8) : ∀ n, (blocks512 m n).Ok
  | 0 => start512_ok
  | _ + 1 => comp512_ok _ _
theorem blocks512_more {m : List UInt8} (x : List UInt8) : ∀ n, 128 * n ≤ m.length → blocks512 (m ++ x) n = blocks512 m n
  | 0, _ => rfl
  | n + 1, h => by
    unfold blocks512
    rw [blocks512_more x n (by omega), List.drop_append_of_le_length (by omega), List.take_append_of_le_length (by rw [List.length_drop]; omega)]

/-- What closes a message of n bytes. -/
def padB (n : Nat) : List UInt8 := [128] ++ List.replicate ((239 - n % 128) % 128 + 8) 0 ++ lenB n
theorem padB_fits (n : Nat) : (n + (padB n).length) % 128 = 0 := by
  unfold padB lenB
  simp only [List.length_append, List.length_cons, List.length_nil, List.length_replicate, List.length_map, List.length_range]
  omega
def full (m : List UInt8) : List UInt8 := m ++ padB m.length
/-- The halves of the words. -/
def halves (ws : List Int) : List Int := ws.flatMap fun w => [w / 4294967296, w % 4294967296]
theorem halves_length (ws : List Int) : (halves ws).length = 2 * ws.length := by
  induction ws with
  | nil => rfl
  | cons w ws ih => unfold halves at ih ⊢; rw [List.flatMap_cons, List.length_append, ih, List.length_cons]; simp; omega
theorem halves_append (a b : List Int) : halves (a ++ b) = halves a ++ halves b := by simp [halves]
theorem halves_u {x : Int} (h : U64 x) : U32 (x / 4294967296) ∧ U32 (x % 4294967296) := by
  obtain ⟨h0, h1⟩ := h
  unfold U32
  omega
/-- The bytes of the words. -/
def outW (ws : List Int) : List UInt8 := outB (halves ws)
def sha512 (m : List UInt8) : List UInt8 := outW (blocks512 (full m) ((full m).length / 128)).list
theorem outW_length (ws : List Int) : (outW ws).length = 8 * ws.length := by
  unfold outW
  rw [outB_length, halves_length]
  omega
theorem sha512_length (m : List UInt8) : (sha512 m).length = 64 := by
  unfold sha512
  rw [outW_length]
  rfl
end Go.Proofs.YtfkpdbmgiefnfaaDoor.S5

/-
  math/bits.RotateLeft64. Conditions: none.
-/
namespace Go.Proofs.YtfkpdbmgiefnfaaDoor.S5
open Go.RowKit

set_option maxRecDepth 100000 in
set_option maxHeartbeats 800000 in
theorem rotl_any (x k : Int) (m n : Nat) (w : World) (_hx : U64 x) (h1 : IntKind.u64.wrap k = (m : Int)) (h2 : m % 64 = n) (hm : m < 18446744073709551616) :
    Calls Tryd.prog 66 #[.int .u64 x, .int .i64 k] w fun e w' => e = .returned (.int .u64 (rot64 n x)) ∧ w = w' := by
  have e1 : (m : Int) % 64 = (n : Int) := by omega
  have hn : n ≤ 63 := by omega
  have e2 : bits .and .u64 (m : Int) 63 = (n : Int) := by
    have h := bits_mask .u64 64 (by decide) wraps_u64 6 (by decide) (m : Int) (by omega) (by omega)
    have e5 : ((2 : Int) ^ 6 - 1) = 63 := by decide
    rw [e5] at h
    rw [h, ← e1]
    rfl
  obtain ⟨q, hq⟩ : ∃ q, q = 64 - n := ⟨_, rfl⟩
  have e3 : (64 : Int) - (n : Int) = (q : Int) := by omega
  have hr : rot64 n x = bits .or .u64 (x * 2 ^ n % 18446744073709551616) (x / 2 ^ q) := by rw [hq]; rfl
  have HR := Lib.hid hr
  have hq32 : q ≤ 64 := by omega
  clear hr hq h2
  go_enter Tryd.func66, Tryd.ntmps66
  go_wp2
  go_ret
  exact ⟨by rw [HR.out]; rfl, rfl⟩

end Go.Proofs.YtfkpdbmgiefnfaaDoor.S5

/-
  hash.schedule512, walked. Conditions: the block has 128 bytes.
-/
namespace Go.Proofs.YtfkpdbmgiefnfaaDoor.S5
open Go.RowKit

theorem zero_80 (W : World) : (zeroValue 103).run Tryd.prog W = .ok (.agg ((List.replicate 80 (0 : Int)).map (Value.int .u64)).toArray) W := by kernel_rfl
theorem info_80 : (Tryd.prog.info? 103).map (·.size) = some 80 := by kernel_rfl
theorem wordAt_cells {bs : List UInt8} {t : Nat} (h : 8 * t + 8 ≤ bs.length) : ∃ q0 q1 q2 q3 q4 q5 q6 q7, bs[8 * t]? = some q0 ∧ bs[8 * t + 1]? = some q1 ∧ bs[8 * t + 2]? = some q2 ∧ bs[8 * t + 3]? = some q3 ∧
    bs[8 * t + 4]? = some q4 ∧ bs[8 * t + 5]? = some q5 ∧ bs[8 * t + 6]? = some q6 ∧ bs[8 * t + 7]? = some q7 ∧ wordAt bs t = be64 (be32 q0 q1 q2 q3) (be32 q4 q5 q6 q7) := by
  refine ⟨bs[8 * t]'(by omega), bs[8 * t + 1]'(by omega), bs[8 * t + 2]'(by omega), bs[8 * t + 3]'(by omega), bs[8 * t + 4]'(by omega), bs[8 * t + 5]'(by omega), bs[8 * t + 6]'(by omega), bs[8 * t + 7]'(by omega), List.getElem?_eq_getElem _, List.getElem?_eq_getElem _, List.getElem?_eq_getElem _, List.getElem?_eq_getElem _, List.getElem?_eq_getElem _, List.getElem?_eq_getElem _, List.getElem?_eq_getElem _, List.getElem?_eq_getElem _, ?_⟩
  unfold wordAt
  simp only [List.getD_eq_getElem?_getD]
  rw [List.getElem?_eq_getElem (show 8 * t < bs.length by omega), List.getElem?_eq_getElem (show 8 * t + 1 < bs.length by omega), List.getElem?_eq_getElem (show 8 * t + 2 < bs.length by omega), List.getElem?_eq_getElem (show 8 * t + 3 < bs.length by omega),
    List.getElem?_eq_getElem (show 8 * t + 4 < bs.length by omega), List.getElem?_eq_getElem (show 8 * t + 5 < bs.length by omega), List.getElem?_eq_getElem (show 8 * t + 6 < bs.length by omega), List.getElem?_eq_getElem (show 8 * t + 7 < bs.length by omega)]
  rfl
theorem or_64 {x y : Int} (hx : U32 x) (hy : U32 y) : bits .or .u64 (x * 4294967296) y = be64 x y := by
  obtain ⟨a0, a1⟩ := hx
  obtain ⟨b0, b1⟩ := hy
  unfold be64
  exact bits_join .u64 64 (by decide) wraps_u64 32 _ _ (by omega) (by omega) (by omega) (by omega) (by omega) (by omega)
def wordsN (bs : List UInt8) (t : Nat) : List Int := (List.range t).map (wordAt bs)
theorem wordsN_succ (bs : List UInt8) (t : Nat) : wordsN bs (t + 1) = wordsN bs t ++ [wordAt bs t] := by simp [wordsN, List.range_succ]
theorem wordsN_length (bs : List UInt8) (t : Nat) : (wordsN bs t).length = t := by simp [wordsN]

theorem nextW_u (ws : List Int) : U64 (nextW ws) := add64_u _ _
theorem sched_u (bs : List UInt8) : ∀ n, ∀ x ∈ schedN (words16 bs) n, U64 x
  | 0, x, hx => by
    unfold schedN words16 at hx
    obtain ⟨t, _, rfl⟩ := List.mem_map.1 hx
    exact be64_u (be32_u _ _ _ _) (be32_u _ _ _ _)
  | n + 1, x, hx => by
    rw [schedN] at hx
    rcases List.mem_append.1 hx with h | h
    · exact sched_u bs n x h
    · rw [List.mem_singleton.1 h]
      exact nextW_u _

set_option maxRecDepth 100000 in
set_option maxHeartbeats 6400000 in
theorem sched_any (b o c : Nat) (bs : List UInt8) (w : World) (hl : bs.length = 128) (hc : 128 ≤ c) (hcm : c ≤ 9223372036854775807) (hb : b < w.heap.size) (hcell : ∀ (j : Nat) (u : UInt8), bs[j]? = some u → w.cell? ⟨b, o + j, none⟩ = some (bv u)) :
    Calls Tryd.prog 65 #[.slice (some ⟨b, o, none⟩) 128 c] w fun e w' => e = .returned (.agg ((W80 bs).map (Value.int .u64)).toArray) ∧ Below w.heap.size w w' := by
  have HC := Lib.hid hcell
  have HL := Lib.hid hl
  clear hcell hl
  have hz80 := zero_80
  go_enter Tryd.func65, Tryd.ntmps65
  go_wp2_with fail
  have r1 := IRow.new w 103 .u64 (List.replicate 80 0)
  have r2 := IRow.new (w.alloc (.cells ((List.replicate 80 (0 : Int)).map (Value.int .u64)).toArray 103)) 103 .u64 (List.replicate 80 0)
  have hs1 : (w.alloc (.cells ((List.replicate 80 (0 : Int)).map (Value.int .u64)).toArray 103)).heap.size = w.heap.size + 1 := by simp
  rw [hs1] at r2
  have R1 := Lib.hid r1
  have R2 := Lib.hid r2
  have HU := Lib.hid u64_wrap
  clear r1 r2 hs1
  go_loopw [10] (fun j wr => ∃ t : Nat, t ≤ 16 ∧ j = .int .i64 t ∧ IRow wr (w.heap.size + 1) 103 .u64 (padZ 80 (wordsN bs t)) ∧ IRow wr w.heap.size 103 .u64 (List.replicate 80 0) ∧ Below w.heap.size w wr) (fun j _ => 16 - (intOf j).toNat)
  case atStart => exact ⟨0, by omega, rfl, R2.out, (Below.refl (w.heap.size + 1) _).alloc (by simp) _ |>.block _ (by simp) |>.trans R1.out, ((Below.refl _ w).alloc (Nat.le_refl _) _).alloc (by simp) _⟩
  case round =>
    obtain ⟨t, ht, rfl, hrow, hres, hbel⟩ := hrel
    by_cases h16 : t < 16
    · obtain ⟨q0, q1, q2, q3, q4, q5, q6, q7, g0, g1, g2, g3, g4, g5, g6, g7, hw⟩ := wordAt_cells (bs := bs) (t := t) (by have := HL.out; omega)
      have c0 := (hbel.cell (p := ⟨b, o + 8 * t, none⟩) hb).trans (HC.out _ _ g0)
      have c1 := (hbel.cell (p := ⟨b, o + (8 * t + 1), none⟩) hb).trans (HC.out _ _ g1)
      have c2 := (hbel.cell (p := ⟨b, o + (8 * t + 2), none⟩) hb).trans (HC.out _ _ g2)
      have c3 := (hbel.cell (p := ⟨b, o + (8 * t + 3), none⟩) hb).trans (HC.out _ _ g3)
      have c4 := (hbel.cell (p := ⟨b, o + (8 * t + 4), none⟩) hb).trans (HC.out _ _ g4)
      have c5 := (hbel.cell (p := ⟨b, o + (8 * t + 5), none⟩) hb).trans (HC.out _ _ g5)
      have c6 := (hbel.cell (p := ⟨b, o + (8 * t + 6), none⟩) hb).trans (HC.out _ _ g6)
      have c7 := (hbel.cell (p := ⟨b, o + (8 * t + 7), none⟩) hb).trans (HC.out _ _ g7)
      rw [← Nat.add_assoc] at c1 c2 c3
      rw [show o + (8 * t + 4) = o + (8 * t + 4) from rfl] at c4
      rw [show o + (8 * t + 5) = o + (8 * t + 4) + 1 by omega] at c5
      rw [show o + (8 * t + 6) = o + (8 * t + 4) + 2 by omega] at c6
      rw [show o + (8 * t + 7) = o + (8 * t + 4) + 3 by omega] at c7
      have hux := be32_u q0 q1 q2 q3
      have huy := be32_u q4 q5 q6 q7
      have G1 := Lib.hid (fun n => get32_any b (o + 8 * t) (128 - 8 * t) (c - 8 * t) q0 q1 q2 q3 (wr.drewN n) (by omega) c0 c1 c2 c3)
      obtain ⟨t8, ht8⟩ : ∃ t8, t8 = 8 * t + 4 := ⟨_, rfl⟩
      rw [← ht8] at c4 c5 c6 c7
      have G2 := Lib.hid (fun n => get32_any b (o + t8) (128 - t8) (c - t8) q4 q5 q6 q7 (wr.drewN n) (by omega) c4 c5 c6 c7)
      obtain ⟨X, hX⟩ : ∃ X, X = be32 q0 q1 q2 q3 := ⟨_, rfl⟩
      obtain ⟨Y, hY⟩ : ∃ Y, Y = be32 q4 q5 q6 q7 := ⟨_, rfl⟩
      rw [← hX] at hux G1 hw
      rw [← hY] at huy G2 hw
      have hor := or_64 hux huy
      rw [← hw] at hor
      obtain ⟨hx0, hx1⟩ := hux
      obtain ⟨hy0, hy1⟩ := huy
      have wx : IntKind.u64.wrap X = X := by rw [u64_wrap]; omega
      have wy : IntKind.u64.wrap Y = Y := by rw [u64_wrap]; omega
      have wxx : IntKind.u64.wrap (X * 4294967296) = X * 4294967296 := by rw [u64_wrap]; omega
      have hsn := wordsN_succ bs t
      have hll := wordsN_length bs t
      have hcz : wr.cell? ⟨w.heap.size + 1, t, none⟩ = some (.int .u64 0) := hrow.cell (by have := padZ_next (n := 80) (l := wordsN bs t) (by omega); rw [hll] at this; exact this)
      have hcf := hrow.free t
      have hset := fun z => hrow.set t z
      have hpz := fun z => padZ_set (n := 80) (l := wordsN bs t) (z := z) (by omega)
      rw [hll] at hpz
      simp only [hpz] at hset
      have hset2 := hset (wordAt bs t)
      rw [← hsn] at hset2
      have HSET := Lib.hid hset2
      have HRES := Lib.hid hres
      have e4 : ¬ (c = 8 * t) := by omega
      have e5 : 8 * t ≤ 128 := by omega
      have e6 : ¬ (c = t8) := by omega
      have e7 : t8 ≤ 128 := by omega
      have e8 : (8 : Int) * (t : Int) ≤ 128 := by omega
      have e9 : (t8 : Int) ≤ 128 := by omega
      have bt : (t : Int) < 80 := by omega
      have w8 : IntKind.i64.wrap (8 * (t : Int)) = 8 * (t : Int) := by rw [IntWalk.i64_in _ (by omega)]
      have w84 : IntKind.i64.wrap (8 * (t : Int) + 4) = 8 * (t : Int) + 4 := by rw [IntWalk.i64_in _ (by omega)]
      have z0 : (0 : Int) ≤ 8 * (t : Int) := by omega
      have z1 : (8 * (t : Int)).toNat = 8 * t := by omega
      have z2 : (0 : Int) ≤ 8 * (t : Int) + 4 := by omega
      have z3 : (8 * (t : Int) + 4).toNat = t8 := by omega
      have z4 : 8 * (t : Int) + 4 ≤ 128 := by omega
      clear g0 g1 g2 g3 g4 g5 g6 g7 hw c0 c1 c2 c3 c4 c5 c6 c7 hsn hll hset hpz hset2 hrow hres hX hY ht8
      go_wp2_with fail
      refine wp_region_held_drew (S := AnyW) (by kernel_rfl) ?_ (fun hHeld => ?_)
      · exact anyW _
      refine wpAnyH_take (i := 0) (oi := { dst := some 13, op := Go.Op.move (Go.Operand.tmp 4), type := 3, pos := "sha512.go:42", after := #[], guard := none }) (v := ?av0) rfl (by kernel_rfl) (by kernel_rfl) (by kernel_rfl) (fun _ _ _ h => h) (Or.inl ⟨by rfl, ?ay0⟩) (by assumption) ?ar0
      case ay0 => (intro w hSw; (try dsimp only at hSw); go_simp; try (with_reducible rfl))
      case ar0 =>
      try simp only [Act.put, List.setIfInBounds_toArray, List.set_cons_zero, List.set_cons_succ]
      refine wpAnyH_take (i := 1) (oi := { dst := some 14, op := Go.Op.move (Go.Operand.tmp 0), type := 22, pos := "sha512.go:42", after := #[], guard := none }) (v := ?av1) rfl (by kernel_rfl) (by kernel_rfl) (by kernel_rfl) (fun _ _ _ h => h) (Or.inl ⟨by rfl, ?ay1⟩) (by assumption) ?ar1
      case ay1 => (intro w hSw; (try dsimp only at hSw); go_simp; try (with_reducible rfl))
      case ar1 =>
      try simp only [Act.put, List.setIfInBounds_toArray, List.set_cons_zero, List.set_cons_succ]
      refine wpAnyH_take (i := 2) (oi := { dst := some 15, op := Go.Op.move (Go.Operand.tmp 4), type := 3, pos := "sha512.go:42", after := #[], guard := none }) (v := ?av2) rfl (by kernel_rfl) (by kernel_rfl) (by kernel_rfl) (fun _ _ _ h => h) (Or.inl ⟨by rfl, ?ay2⟩) (by assumption) ?ar2
      case ay2 => (intro w hSw; (try dsimp only at hSw); go_simp; try (with_reducible rfl))
      case ar2 =>
      try simp only [Act.put, List.setIfInBounds_toArray, List.set_cons_zero, List.set_cons_succ]
      refine wpAnyH_take (i := 3) (oi := { dst := some 16, op := Go.Op.binOp Go.BinOp.mul 3 (Go.Operand.const (Go.Value.int Go.IntKind.i64 8)) (Go.Operand.tmp 15) 3, type := 3, pos := "sha512.go:42", after := #[{ on := 2, ground := Go.Ground.data }], guard := none }) (v := ?av3) rfl (by kernel_rfl) (by kernel_rfl) (by kernel_rfl) (fun _ _ _ h => h) (Or.inl ⟨by rfl, ?ay3⟩) (by assumption) ?ar3
      case ay3 => (intro w hSw; (try dsimp only at hSw); go_simp; try (with_reducible rfl))
      case ar3 =>
      try simp only [Act.put, List.setIfInBounds_toArray, List.set_cons_zero, List.set_cons_succ]
      refine wpAnyH_take (i := 4) (oi := { dst := some 17, op := Go.Op.slice 22 (Go.Operand.tmp 14) (some (Go.Operand.tmp 16)) none none, type := 22, pos := "sha512.go:42", after := #[{ on := 1, ground := Go.Ground.data }, { on := 3, ground := Go.Ground.data }], guard := none }) (v := Value.slice (some ⟨b, o + 8 * t, none⟩) (128 - 8 * t) (c - 8 * t)) rfl (by kernel_rfl) (by kernel_rfl) (by kernel_rfl) (fun _ _ _ h => h) (Or.inl ⟨by rfl, ?ay4⟩) (by assumption) ?ar4
      case ay4 => (intro w hSw; (try dsimp only at hSw); go_simp; try (with_reducible rfl))
      case ar4 =>
      try simp only [Act.put, List.setIfInBounds_toArray, List.set_cons_zero, List.set_cons_succ]
      refine wpAnyH_take (i := 8) (oi := { dst := some 21, op := Go.Op.move (Go.Operand.tmp 0), type := 22, pos := "sha512.go:42", after := #[], guard := none }) (v := ?av8) rfl (by kernel_rfl) (by kernel_rfl) (by kernel_rfl) (fun _ _ _ h => h) (Or.inl ⟨by rfl, ?ay8⟩) (by assumption) ?ar8
      case ay8 => (intro w hSw; (try dsimp only at hSw); go_simp; try (with_reducible rfl))
      case ar8 =>
      try simp only [Act.put, List.setIfInBounds_toArray, List.set_cons_zero, List.set_cons_succ]
      refine wpAnyH_take (i := 9) (oi := { dst := some 22, op := Go.Op.move (Go.Operand.tmp 4), type := 3, pos := "sha512.go:42", after := #[], guard := none }) (v := ?av9) rfl (by kernel_rfl) (by kernel_rfl) (by kernel_rfl) (fun _ _ _ h => h) (Or.inl ⟨by rfl, ?ay9⟩) (by assumption) ?ar9
      case ay9 => (intro w hSw; (try dsimp only at hSw); go_simp; try (with_reducible rfl))
      case ar9 =>
      try simp only [Act.put, List.setIfInBounds_toArray, List.set_cons_zero, List.set_cons_succ]
      refine wpAnyH_take (i := 10) (oi := { dst := some 23, op := Go.Op.binOp Go.BinOp.mul 3 (Go.Operand.const (Go.Value.int Go.IntKind.i64 8)) (Go.Operand.tmp 22) 3, type := 3, pos := "sha512.go:42", after := #[{ on := 9, ground := Go.Ground.data }], guard := none }) (v := ?av10) rfl (by kernel_rfl) (by kernel_rfl) (by kernel_rfl) (fun _ _ _ h => h) (Or.inl ⟨by rfl, ?ay10⟩) (by assumption) ?ar10
      case ay10 => (intro w hSw; (try dsimp only at hSw); go_simp; try (with_reducible rfl))
      case ar10 =>
      try simp only [Act.put, List.setIfInBounds_toArray, List.set_cons_zero, List.set_cons_succ]
      refine wpAnyH_take (i := 11) (oi := { dst := some 24, op := Go.Op.binOp Go.BinOp.add 3 (Go.Operand.tmp 23) (Go.Operand.const (Go.Value.int Go.IntKind.i64 4)) 3, type := 3, pos := "sha512.go:42", after := #[{ on := 10, ground := Go.Ground.data }], guard := none }) (v := ?av11) rfl (by kernel_rfl) (by kernel_rfl) (by kernel_rfl) (fun _ _ _ h => h) (Or.inl ⟨by rfl, ?ay11⟩) (by assumption) ?ar11
      case ay11 => (intro w hSw; (try dsimp only at hSw); go_simp; try (with_reducible rfl))
      case ar11 =>
      try simp only [Act.put, List.setIfInBounds_toArray, List.set_cons_zero, List.set_cons_succ]
      refine wpAnyH_take (i := 12) (oi := { dst := some 25, op := Go.Op.slice 22 (Go.Operand.tmp 21) (some (Go.Operand.tmp 24)) none none, type := 22, pos := "sha512.go:42", after := #[{ on := 8, ground := Go.Ground.data }, { on := 11, ground := Go.Ground.data }], guard := none }) (v := Value.slice (some ⟨b, o + t8, none⟩) (128 - t8) (c - t8)) rfl (by kernel_rfl) (by kernel_rfl) (by kernel_rfl) (fun _ _ _ h => h) (Or.inl ⟨by rfl, ?ay12⟩) (by assumption) ?ar12
      case ay12 => (intro w hSw; (try dsimp only at hSw); go_simp; try (with_reducible rfl))
      case ar12 =>
      try simp only [Act.put, List.setIfInBounds_toArray, List.set_cons_zero, List.set_cons_succ]
      refine wpAnyH_ready (rs := [5]) (by kernel_rfl) (by simp) ?_
      refine AllReadyH.cons (o := { dst := some 18, op := Go.Op.call { callee := Go.Callee.value (Go.Operand.func 86), args := #[Go.Operand.tmp 17], argTypes := #[22] }, type := 27, pos := "sha512.go:42", after := #[{ on := 4, ground := Go.Ground.data }], guard := none }) rfl (fun K hK => ?_) (AllReadyH.nil)
      go_simp
      refine (G1.out 1).mono ?_
      rintro e w5 ⟨rfl, k5, rfl⟩
      go_simp
      refine hK.out _ _ ?_ (fun hHeld => ?_)
      · exact anyW _
      clear hK K
      try simp only [Act.put, List.setIfInBounds_toArray, List.set_cons_zero, List.set_cons_succ]
      refine wpAnyH_take (i := 6) (oi := { dst := some 19, op := Go.Op.convert 27 57 (Go.Operand.tmp 18), type := 57, pos := "sha512.go:42", after := #[{ on := 5, ground := Go.Ground.data }], guard := none }) (v := ?a_5v6) rfl (by kernel_rfl) (by kernel_rfl) (by kernel_rfl) (fun _ _ _ h => h) (Or.inl ⟨by rfl, ?a_5y6⟩) (by assumption) ?a_5r6
      case a_5y6 => (intro w hSw; (try dsimp only at hSw); go_simp; try (with_reducible rfl))
      case a_5r6 =>
      try simp only [Act.put, List.setIfInBounds_toArray, List.set_cons_zero, List.set_cons_succ]
      refine wpAnyH_take (i := 7) (oi := { dst := some 20, op := Go.Op.binOp Go.BinOp.shl 57 (Go.Operand.tmp 19) (Go.Operand.const (Go.Value.int Go.IntKind.u64 32)) 99, type := 57, pos := "sha512.go:42", after := #[{ on := 6, ground := Go.Ground.data }], guard := none }) (v := ?a_5v7) rfl (by kernel_rfl) (by kernel_rfl) (by kernel_rfl) (fun _ _ _ h => h) (Or.inl ⟨by rfl, ?a_5y7⟩) (by assumption) ?a_5r7
      case a_5y7 => (intro w hSw; (try dsimp only at hSw); go_simp; try (with_reducible rfl))
      case a_5r7 =>
      try simp only [Act.put, List.setIfInBounds_toArray, List.set_cons_zero, List.set_cons_succ]
      refine wpAnyH_ready (rs := [13]) (by kernel_rfl) (by simp) ?_
      refine AllReadyH.cons (o := { dst := some 26, op := Go.Op.call { callee := Go.Callee.value (Go.Operand.func 86), args := #[Go.Operand.tmp 25], argTypes := #[22] }, type := 27, pos := "sha512.go:42", after := #[{ on := 12, ground := Go.Ground.data }, { on := 5, ground := Go.Ground.chain }], guard := none }) rfl (fun K hK => ?_) (AllReadyH.nil)
      go_simp
      refine (G2.out _).mono ?_
      rintro e w6 ⟨rfl, k6, rfl⟩
      go_simp
      refine hK.out _ _ ?_ (fun hHeld => ?_)
      · exact anyW _
      clear hK K
      try simp only [Act.put, List.setIfInBounds_toArray, List.set_cons_zero, List.set_cons_succ]
      refine wpAnyH_take (i := 14) (oi := { dst := some 27, op := Go.Op.convert 27 57 (Go.Operand.tmp 26), type := 57, pos := "sha512.go:42", after := #[{ on := 13, ground := Go.Ground.data }], guard := none }) (v := ?a_5_13v14) rfl (by kernel_rfl) (by kernel_rfl) (by kernel_rfl) (fun _ _ _ h => h) (Or.inl ⟨by rfl, ?a_5_13y14⟩) (by assumption) ?a_5_13r14
      case a_5_13y14 => (intro w hSw; (try dsimp only at hSw); go_simp; try (with_reducible rfl))
      case a_5_13r14 =>
      try simp only [Act.put, List.setIfInBounds_toArray, List.set_cons_zero, List.set_cons_succ]
      refine wpAnyH_take (i := 15) (oi := { dst := some 28, op := Go.Op.binOp Go.BinOp.or 57 (Go.Operand.tmp 20) (Go.Operand.tmp 27) 57, type := 57, pos := "sha512.go:42", after := #[{ on := 7, ground := Go.Ground.data }, { on := 14, ground := Go.Ground.data }], guard := none }) (v := ?a_5_13v15) rfl (by kernel_rfl) (by kernel_rfl) (by kernel_rfl) (fun _ _ _ h => h) (Or.inl ⟨by rfl, ?a_5_13y15⟩) (by assumption) ?a_5_13r15
      case a_5_13y15 => (intro w hSw; (try dsimp only at hSw); go_simp; try (with_reducible rfl))
      case a_5_13r15 =>
      try simp only [Act.put, List.setIfInBounds_toArray, List.set_cons_zero, List.set_cons_succ]
      refine wpAnyH_take (i := 16) (oi := { dst := some 29, op := Go.Op.indexAddr 103 (Go.Operand.tmp 3) (Go.Operand.tmp 13), type := 0, pos := "sha512.go:42", after := #[{ on := 0, ground := Go.Ground.data }, { on := 0, ground := Go.Ground.phase }, { on := 1, ground := Go.Ground.phase }, { on := 2, ground := Go.Ground.phase }, { on := 3, ground := Go.Ground.phase }, { on := 4, ground := Go.Ground.phase }, { on := 5, ground := Go.Ground.phase }, { on := 6, ground := Go.Ground.phase }, { on := 7, ground := Go.Ground.phase }, { on := 8, ground := Go.Ground.phase }, { on := 9, ground := Go.Ground.phase }, { on := 10, ground := Go.Ground.phase }, { on := 11, ground := Go.Ground.phase }, { on := 12, ground := Go.Ground.phase }, { on := 13, ground := Go.Ground.phase }, { on := 14, ground := Go.Ground.phase }, { on := 15, ground := Go.Ground.phase }], guard := none }) (v := ?a_5_13v16) rfl (by kernel_rfl) (by kernel_rfl) (by kernel_rfl) (fun _ _ _ h => h) (Or.inl ⟨by rfl, ?a_5_13y16⟩) (by assumption) ?a_5_13r16
      case a_5_13y16 => (intro w hSw; (try dsimp only at hSw); go_simp; try (with_reducible rfl))
      case a_5_13r16 =>
      try simp only [Act.put, List.setIfInBounds_toArray, List.set_cons_zero, List.set_cons_succ]
      refine wpAnyH_ready (rs := [17]) (by kernel_rfl) (by simp) ?_
      refine AllReadyH.cons (o := { dst := none, op := Go.Op.store 57 (Go.Operand.tmp 29) (Go.Operand.tmp 28), type := 0, pos := "sha512.go:42", after := #[{ on := 16, ground := Go.Ground.data }, { on := 15, ground := Go.Ground.data }, { on := 13, ground := Go.Ground.chain }, { on := 0, ground := Go.Ground.phase }, { on := 1, ground := Go.Ground.phase }, { on := 2, ground := Go.Ground.phase }, { on := 3, ground := Go.Ground.phase }, { on := 4, ground := Go.Ground.phase }, { on := 5, ground := Go.Ground.phase }, { on := 6, ground := Go.Ground.phase }, { on := 7, ground := Go.Ground.phase }, { on := 8, ground := Go.Ground.phase }, { on := 9, ground := Go.Ground.phase }, { on := 10, ground := Go.Ground.phase }, { on := 11, ground := Go.Ground.phase }, { on := 12, ground := Go.Ground.phase }, { on := 13, ground := Go.Ground.phase }, { on := 14, ground := Go.Ground.phase }, { on := 15, ground := Go.Ground.phase }], guard := none }) rfl (fun K hK => ?_) (AllReadyH.nil)
      go_simp
      refine hK.out _ _ ?_ (fun hHeld => ?_)
      · exact anyW _
      clear hK K
      try simp only [Act.put]
      refine wpAnyH_done (by kernel_rfl) ?_ _
      go_wp2_with fail
      refine ⟨⟨t + 1, by omega, by go_num, HSET.out, ?_, ?_⟩, by simp [intOf]; omega⟩
      · exact (Below.heap_setCell wr _ _ _ (by intro h; first | (have h' : w.heap.size = w.heap.size + 1 := h; omega) | (have h' : w.heap.size + 1 = w.heap.size := h; omega))).trans HRES.out
      · have h := hbel.setCell (p := ⟨w.heap.size + 1, t, none⟩) (by show w.heap.size ≤ w.heap.size + 1; omega) (.int .u64 (wordAt bs t))
        exact ⟨h.os, h.tape, h.output, h.size, h.block⟩
    · obtain rfl : t = 16 := by omega
      have h16' : ((16 : Nat) : Int) = 16 := rfl
      rw [h16']
      clear h16'
      have HROW := Lib.hid hrow
      clear hrow
      go_wp2_with fail
      go_loopw [5] (fun j wr => ∃ n t : Nat, n ≤ 64 ∧ Hid (t = 16 + n) ∧ 16 ≤ t ∧ t ≤ 80 ∧ j = .int .i64 t ∧ IRow wr (w.heap.size + 1) 103 .u64 (padZ 80 (schedN (words16 bs) n)) ∧ IRow wr w.heap.size 103 .u64 (List.replicate 80 0) ∧ Below w.heap.size w wr) (fun j _ => 80 - (intOf j).toNat)
      case atStart => exact ⟨0, 16, by omega, Lib.hid rfl, by omega, by omega, rfl, HROW.out, hres, hbel⟩
      case round =>
        obtain ⟨n, t, hn, ht2, hg16, hle64, rfl, hrow, hres, hbel⟩ := hrel
        obtain ⟨ws, hws⟩ : ∃ ws, ws = schedN (words16 bs) n := ⟨_, rfl⟩
        have hwl : ws.length = t := by rw [hws, schedN_length, ht2.out]; rfl
        rw [← hws] at hrow
        by_cases h64 : t < 80
        · obtain ⟨i1, hi1⟩ : ∃ i, i = t - 15 := ⟨_, rfl⟩
          obtain ⟨i2, hi2⟩ : ∃ i, i = t - 2 := ⟨_, rfl⟩
          obtain ⟨i3, hi3⟩ : ∃ i, i = t - 7 := ⟨_, rfl⟩
          obtain ⟨i4, hi4⟩ : ∃ i, i = t - 16 := ⟨_, rfl⟩
          have w1 : IntKind.i64.wrap ((t : Int) - 15) = (i1 : Int) := by rw [IntWalk.i64_in _ (by omega)]; omega
          have w2 : IntKind.i64.wrap ((t : Int) - 2) = (i2 : Int) := by rw [IntWalk.i64_in _ (by omega)]; omega
          have w3 : IntKind.i64.wrap ((t : Int) - 7) = (i3 : Int) := by rw [IntWalk.i64_in _ (by omega)]; omega
          have w4 : IntKind.i64.wrap ((t : Int) - 16) = (i4 : Int) := by rw [IntWalk.i64_in _ (by omega)]; omega
          have b1 : (i1 : Int) < 80 := by omega
          have b2 : (i2 : Int) < 80 := by omega
          have b3 : (i3 : Int) < 80 := by omega
          have b4 : (i4 : Int) < 80 := by omega
          have bt : (t : Int) < 80 := by omega
          obtain ⟨x, hx⟩ : ∃ x, ws[i1]? = some x := ⟨_, List.getElem?_eq_getElem (by omega)⟩
          obtain ⟨y, hy⟩ : ∃ y, ws[i2]? = some y := ⟨_, List.getElem?_eq_getElem (by omega)⟩
          obtain ⟨u, hu⟩ : ∃ u, ws[i3]? = some u := ⟨_, List.getElem?_eq_getElem (by omega)⟩
          obtain ⟨v, hv⟩ : ∃ v, ws[i4]? = some v := ⟨_, List.getElem?_eq_getElem (by omega)⟩
          have k1 := hrow.cell (padZ_low (n := 80) hx)
          have k2 := hrow.cell (padZ_low (n := 80) hy)
          have k3 := hrow.cell (padZ_low (n := 80) hu)
          have k4 := hrow.cell (padZ_low (n := 80) hv)
          have k5 : wr.cell? ⟨w.heap.size + 1, t, none⟩ = some (.int .u64 0) := hrow.cell (by have := padZ_next (n := 80) (l := ws) (by omega); rw [hwl] at this; exact this)
          have kf := hrow.free t
          have hnw : nextW ws = (small1 y + u + small0 x + v) % 18446744073709551616 := by
            unfold nextW
            rw [hwl, ← hi1, ← hi2, ← hi3, ← hi4]
            simp only [List.getD_eq_getElem?_getD, hx, hy, hu, hv, Option.getD_some]
            unfold add64
            omega
          have hsn : schedN (words16 bs) (n + 1) = ws ++ [nextW ws] := by rw [schedN, ← hws]
          have hset := hrow.set t (nextW ws)
          have hpz := padZ_set (n := 80) (l := ws) (z := nextW ws) (by omega)
          rw [hwl] at hpz
          rw [hpz, ← hsn] at hset
          rw [hnw] at hset
          have HSET := Lib.hid hset
          have HRES := Lib.hid hres
          have hux : U64 x := sched_u bs n x (by rw [← hws]; exact List.mem_of_getElem? hx)
          have huy : U64 y := sched_u bs n y (by rw [← hws]; exact List.mem_of_getElem? hy)
          have C1 := Lib.hid (fun W => rotl_any x (-1) 18446744073709551615 63 W hux (by decide) (by decide) (by decide))
          have C2 := Lib.hid (fun W => rotl_any x (-8) 18446744073709551608 56 W hux (by decide) (by decide) (by decide))
          have C3 := Lib.hid (fun W => rotl_any y (-19) 18446744073709551597 45 W huy (by decide) (by decide) (by decide))
          have C4 := Lib.hid (fun W => rotl_any y (-61) 18446744073709551555 3 W huy (by decide) (by decide) (by decide))
          clear hset hnw hsn hpz hrow hres hx hy hu hv hws hwl hi1 hi2 hi3 hi4
          go_wp2_with fail
          go_quiet (fail)
          go_wp2_with fail
          refine (C1.out _).mono ?_
          rintro e w5 ⟨rfl, rfl⟩
          go_wp2_with fail
          refine (C2.out _).mono ?_
          rintro e w5 ⟨rfl, rfl⟩
          go_wp2_with fail
          refine (C3.out _).mono ?_
          rintro e w5 ⟨rfl, rfl⟩
          go_wp2_with fail
          refine (C4.out _).mono ?_
          rintro e w5 ⟨rfl, rfl⟩
          go_wp2_with fail
          have hu2 := HU.out
          have m3 : ((wr.drewN nq).drew).cell? ⟨w.heap.size + 1, i3, none⟩ = some (.int .u64 u) := k3
          have m4 : ((wr.drewN nq).drew).cell? ⟨w.heap.size + 1, i4, none⟩ = some (.int .u64 v) := k4
          refine wp_region_still_tail 15 (by kernel_rfl) (by kernel_rfl) ?_
          simp only [List.take_succ_cons, List.take_zero, List.drop_succ_cons, List.drop_zero]
          change wpStill _ _ ((wr.drewN nq).drew) _ _ _
          repeat still_step
          refine wpStill_nil ?_
          change wpList _ _ _ _ _ ((wr.drewN nq).drew)
          go_wp2_with fail
          refine ⟨⟨n + 1, t + 1, by have := ht2.out; omega, Lib.hid (by have := ht2.out; omega), by omega, by omega, by go_num, HSET.out, ?_, ?_⟩, by simp [intOf]; omega⟩
          · exact (Below.heap_setCell wr _ _ _ (by intro h; first | (have h' : w.heap.size = w.heap.size + 1 := h; omega) | (have h' : w.heap.size + 1 = w.heap.size := h; omega))).trans HRES.out
          · have h := hbel.setCell (p := ⟨w.heap.size + 1, t, none⟩) (by show w.heap.size ≤ w.heap.size + 1; omega) (.int .u64 ((small1 y + u + small0 x + v) % 18446744073709551616))
            exact ⟨h.os, h.tape, h.output, h.size, h.block⟩
        · obtain rfl : t = 80 := by omega
          have hn48 : n = 64 := by have := ht2.out; omega
          have hW : ws = W80 bs := by rw [hws, hn48]; unfold W80; with_reducible rfl
          rw [padZ_full hwl, hW] at hrow
          have hrow2 : IRow wr (w.heap.size + 1) 103 .u64 (W80 bs) := by with_reducible exact hrow
          have hl64 := W80_length bs
          have hfin := setRow_irow (ys := W80 bs) hres
          have hbf := below_setRow hbel (Nat.le_refl _) ((W80 bs).map (Value.int .u64)).toArray
          have HB := Lib.hid hbf
          have HFIN := Lib.hid hfin
          have HROW2 := Lib.hid hrow2
          have HRES := Lib.hid hres
          have HL64 := Lib.hid hl64
          clear hW hws hwl hrow hrow2 hres hfin hbf hn48 ht2 hl64
          go_wp2_with (first
            | (refine wpList_load_irow rfl 103 (.tmp 3) rfl (g := w.heap.size + 1) (t := 103) (k := .u64) (xs := W80 bs) rfl HROW2.out Tryd.underlying103 (by rw [HL64.out]; exact info_80) ?_)
            | (refine wpList_store_irow rfl 103 (.tmp 2) (.tmp 74) rfl (g := w.heap.size) (t := 103) (k := .u64) (xs := List.replicate 80 0) (ys := W80 bs) rfl rfl HRES.out (by rw [HL64.out]; exact info_80) (by rw [HL64.out]; rfl) ?_))
          refine bodyPost_ret (v := .agg ((W80 bs).map (Value.int .u64)).toArray) ?_ rfl ⟨rfl, HB.out⟩
          obtain ⟨fr, hrw⟩ : ∃ fr, ((wr.setRow (w.heap.size) ((W80 bs).map (Value.int .u64)).toArray)).heap[w.heap.size]? = some (.cells ((W80 bs).map (Value.int .u64)).toArray 103 fr) := ⟨_, HFIN.out⟩
          exact results_cell_row Tryd.results65 _ _ w.heap.size 103 ((W80 bs).map (Value.int .u64)).toArray fr _ rfl hrw Tryd.underlying103 rfl (by rw [List.size_toArray, List.length_map, HL64.out]; exact info_80)
end Go.Proofs.YtfkpdbmgiefnfaaDoor.S5
