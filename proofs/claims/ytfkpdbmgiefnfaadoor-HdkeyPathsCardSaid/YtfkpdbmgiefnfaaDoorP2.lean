/-
  Texts joined: Own, ShaPure, Words. Conditions: those of each.
-/
import Derived.Test.YtfkpdbmgiefnfaaDoorP1
import Derived.Laws.Bits64
import Derived.Lib.EndianBits
import Derived.KernelRfl
/-
  A row of bytes of the call's own: what may be read, and what a store changes. Conditions: none.
-/
namespace Go.Proofs.YtfkpdbmgiefnfaaDoor
open Go.RowKit

/-- The slice value v owns these bytes, in a block from base on. -/
def OwnB (w : World) (base : Nat) (v : Value) (ys : List UInt8) : Prop := w.ownsRow base 5 1 v ys.length (ys.map bv)
theorem OwnB.nil (w : World) (base : Nat) : OwnB w base (.slice none 0 0) [] := World.ownsRow_nil _ _ _ _
theorem OwnB.form {w : World} {base : Nat} {v : Value} {ys : List UInt8} (h : OwnB w base v ys) : ∃ A c, v = .slice A ys.length c := own_form h
theorem OwnB.block {w : World} {base : Nat} {v : Value} {ys : List UInt8} (h : OwnB w base v ys) (hn : 0 < ys.length) : ∃ g c, v = .slice (some ⟨g, 0, none⟩) ys.length c ∧ base ≤ g ∧ g < w.heap.size ∧ ys.length ≤ c := by
  rcases h.2 with ⟨_, h0⟩ | ⟨g, cap, cur, rfl, hb, hg, hnc, _⟩
  · omega
  · exact ⟨g, cap, rfl, hb, (Array.getElem?_eq_some_iff.1 hg).1, hnc⟩
theorem OwnB.cell {w : World} {base g n c k : Nat} {q : UInt8} {ys : List UInt8} (h : OwnB w base (.slice (some ⟨g, 0, none⟩) n c) ys) (hk : ys[k]? = some q) : w.cell? ⟨g, k, none⟩ = some (bv q) := by
  have h1 := World.ownsRow.cells (g := g) h rfl k (bv q) (by rw [List.getElem?_map, hk]; rfl)
  have hadd : (⟨g, 0, none⟩ : Addr).add k = ⟨g, 0 + k, none⟩ := by unfold Addr.add; split <;> simp_all
  rw [hadd, Nat.zero_add] at h1
  exact h1
theorem OwnB.free {w : World} {base g n c : Nat} {ys : List UInt8} (h : OwnB w base (.slice (some ⟨g, 0, none⟩) n c) ys) (k : Nat) : w.frozen? ⟨g, k, none⟩ = false := by
  rcases h.2 with ⟨e, _⟩ | ⟨g', cap, cur, e, _, hg, _⟩
  · cases e
  · injection e with e1 _ _
    injection e1 with e1
    injection e1 with e1
    subst e1
    simp [World.frozen?, hg]
theorem OwnB.set {w : World} {base g n c : Nat} {ys : List UInt8} (h : OwnB w base (.slice (some ⟨g, 0, none⟩) n c) ys) (k : Nat) (q : UInt8) : OwnB (w.setCell ⟨g, k, none⟩ (bv q)) base (.slice (some ⟨g, 0, none⟩) n c) (ys.set k q) := by
  unfold OwnB at h ⊢
  rw [List.length_set]
  refine ⟨by simp, ?_⟩
  rcases h.2 with ⟨e, _⟩ | ⟨g', cap, cur, e, hb, hg, hnc, hcm, hcs, ht⟩
  · cases e
  · have e' := e
    injection e' with e1 _ _
    injection e1 with e1
    injection e1 with e1
    subst e1
    refine .inr ⟨g, cap, cur.setIfInBounds k (bv q), e, hb, ?_, hnc, hcm, by simpa using hcs, ?_⟩
    · simp [World.setCell, Array.getElem?_modify, hg]
    · rw [Array.toList_setIfInBounds, List.map_set, ← ht]
      exact List.take_set
theorem OwnB.byt {w : World} {base : Nat} {v : Value} {ys : List UInt8} (h : OwnB w base v ys) : Byt w w.heap.size v ys := Byt.of_own h
end Go.Proofs.YtfkpdbmgiefnfaaDoor

/-
  SHA-256 on plain numbers, in the words of the walks. Conditions: none (plain mathematics).
-/
namespace Go.Proofs.YtfkpdbmgiefnfaaDoor

/-- The sum of two words. -/
def add32 (a b : Int) : Int := (a + b) % 4294967296
def rot32 (n : Nat) (x : Int) : Int := bits .or .u32 (x * 2 ^ n % 4294967296) (x / 2 ^ (32 - n))
def not32 (x : Int) : Int := bits .xor .u32 IntKind.u32.max x
def big1 (e : Int) : Int := bits .xor .u32 (bits .xor .u32 (rot32 26 e) (rot32 21 e)) (rot32 7 e)
def big0 (a : Int) : Int := bits .xor .u32 (bits .xor .u32 (rot32 30 a) (rot32 19 a)) (rot32 10 a)
def ch32 (e f g : Int) : Int := bits .xor .u32 (bits .and .u32 e f) (bits .and .u32 (not32 e) g)
def maj32 (a b c : Int) : Int := bits .xor .u32 (bits .xor .u32 (bits .and .u32 a b) (bits .and .u32 a c)) (bits .and .u32 b c)
def small0 (x : Int) : Int := bits .xor .u32 (bits .xor .u32 (rot32 25 x) (rot32 14 x)) (x / 8)
def small1 (x : Int) : Int := bits .xor .u32 (bits .xor .u32 (rot32 15 x) (rot32 13 x)) (x / 1024)

structure S8 where
  a : Int
  b : Int
  c : Int
  d : Int
  e : Int
  f : Int
  g : Int
  h : Int
def rnd (k w : Int) (s : S8) : S8 :=
  let t1 := add32 (add32 (add32 (add32 s.h (big1 s.e)) (ch32 s.e s.f s.g)) k) w
  let t2 := add32 (big0 s.a) (maj32 s.a s.b s.c)
  ⟨add32 t1 t2, s.a, s.b, s.c, add32 s.d t1, s.e, s.f, s.g⟩

def U32 (x : Int) : Prop := 0 ≤ x ∧ x < 4294967296
theorem add32_u (a b : Int) : U32 (add32 a b) := by unfold add32 U32; omega
theorem bits32_u (op : BinOp) (a b : Int) : U32 (bits op .u32 a b) := by
  unfold bits
  have : ∀ n : Int, U32 (IntKind.u32.wrap n) := fun n => by unfold U32 IntKind.wrap; simp [IntKind.bits, IntKind.signed]; omega
  exact this _
structure S8.Ok (s : S8) : Prop where
  a : U32 s.a
  b : U32 s.b
  c : U32 s.c
  d : U32 s.d
  e : U32 s.e
  f : U32 s.f
  g : U32 s.g
  h : U32 s.h
theorem rnd_ok (k w : Int) {s : S8} (h : s.Ok) : (rnd k w s).Ok := ⟨add32_u _ _, h.a, h.b, h.c, add32_u _ _, h.e, h.f, h.g⟩

/-- The first 64 constants. -/
def k256 : List Int := [0x428a2f98, 0x71374491, 0xb5c0fbcf, 0xe9b5dba5, 0x3956c25b, 0x59f111f1, 0x923f82a4, 0xab1c5ed5, 0xd807aa98, 0x12835b01, 0x243185be, 0x550c7dc3, 0x72be5d74, 0x80deb1fe, 0x9bdc06a7, 0xc19bf174, 0xe49b69c1, 0xefbe4786, 0x0fc19dc6, 0x240ca1cc, 0x2de92c6f, 0x4a7484aa, 0x5cb0a9dc, 0x76f988da, 0x983e5152, 0xa831c66d, 0xb00327c8, 0xbf597fc7, 0xc6e00bf3, 0xd5a79147, 0x06ca6351, 0x14292967, 0x27b70a85, 0x2e1b2138, 0x4d2c6dfc, 0x53380d13, 0x650a7354, 0x766a0abb, 0x81c2c92e, 0x92722c85, 0xa2bfe8a1, 0xa81a664b, 0xc24b8b70, 0xc76c51a3, 0xd192e819, 0xd6990624, 0xf40e3585, 0x106aa070, 0x19a4c116, 0x1e376c08, 0x2748774c, 0x34b0bcb5, 0x391c0cb3, 0x4ed8aa4a, 0x5b9cca4f, 0x682e6ff3, 0x748f82ee, 0x78a5636f, 0x84c87814, 0x8cc70208, 0x90befffa, 0xa4506ceb, 0xbef9a3f7, 0xc67178f2]
def h256 : List Int := [0x6a09e667, 0xbb67ae85, 0x3c6ef372, 0xa54ff53a, 0x510e527f, 0x9b05688c, 0x1f83d9ab, 0x5be0cd19]

/-- Four bytes as a word, the greatest first. -/
def be32 (b0 b1 b2 b3 : UInt8) : Int := (b0.toNat : Int) * 16777216 + (b1.toNat : Int) * 65536 + (b2.toNat : Int) * 256 + (b3.toNat : Int)
theorem be32_u (b0 b1 b2 b3 : UInt8) : U32 (be32 b0 b1 b2 b3) := by
  have h0 := b0.toNat_lt
  have h1 := b1.toNat_lt
  have h2 := b2.toNat_lt
  have h3 := b3.toNat_lt
  unfold be32 U32
  omega
def wordAt (bs : List UInt8) (t : Nat) : Int := be32 (bs.getD (4 * t) 0) (bs.getD (4 * t + 1) 0) (bs.getD (4 * t + 2) 0) (bs.getD (4 * t + 3) 0)
def words16 (bs : List UInt8) : List Int := (List.range 16).map (wordAt bs)

/-- The next word of the schedule. -/
def nextW (ws : List Int) : Int :=
  add32 (add32 (add32 (small1 (ws.getD (ws.length - 2) 0)) (ws.getD (ws.length - 7) 0)) (small0 (ws.getD (ws.length - 15) 0))) (ws.getD (ws.length - 16) 0)
def schedN (ws : List Int) : Nat → List Int
  | 0 => ws
  | n + 1 => schedN ws n ++ [nextW (schedN ws n)]
theorem schedN_length (ws : List Int) : ∀ n, (schedN ws n).length = ws.length + n
  | 0 => rfl
  | n + 1 => by rw [schedN, List.length_append, schedN_length ws n]; rfl
def W64 (bs : List UInt8) : List Int := schedN (words16 bs) 48
theorem W64_length (bs : List UInt8) : (W64 bs).length = 64 := by
  unfold W64
  rw [schedN_length]
  simp [words16]

def rounds (ks ws : List Int) : Nat → S8 → S8
  | 0, s => s
  | t + 1, s => rnd (ks.getD t 0) (ws.getD t 0) (rounds ks ws t s)
theorem rounds_ok (ks ws : List Int) : ∀ (t : Nat) {s : S8}, s.Ok → (rounds ks ws t s).Ok
  | 0, _, h => h
  | t + 1, _, h => rnd_ok _ _ (rounds_ok ks ws t h)
def S8.list (s : S8) : List Int := [s.a, s.b, s.c, s.d, s.e, s.f, s.g, s.h]
/-- A block more. -/
def comp256 (s : S8) (bs : List UInt8) : S8 :=
  let v := rounds k256 (W64 bs) 64 s
  ⟨add32 s.a v.a, add32 s.b v.b, add32 s.c v.c, add32 s.d v.d, add32 s.e v.e, add32 s.f v.f, add32 s.g v.g, add32 s.h v.h⟩
theorem comp256_ok (s : S8) (bs : List UInt8) : (comp256 s bs).Ok := ⟨add32_u _ _, add32_u _ _, add32_u _ _, add32_u _ _, add32_u _ _, add32_u _ _, add32_u _ _, add32_u _ _⟩
def start256 : S8 := ⟨0x6a09e667, 0xbb67ae85, 0x3c6ef372, 0xa54ff53a, 0x510e527f, 0x9b05688c, 0x1f83d9ab, 0x5be0cd19⟩
theorem start256_ok : start256.Ok := ⟨by unfold U32; decide, by unfold U32; decide, by unfold U32; decide, by unfold U32; decide, by unfold U32; decide, by unfold U32; decide, by unfold U32; decide, by unfold U32; decide⟩
/-- Block by block. -/
def blocks256 (m : List UInt8) : Nat → S8
  | 0 => start256
  | n + 1 => comp256 (blocks256 m n) ((m.drop (64 * n)).take 64)
theorem blocks256_ok (m : List UInt8) : ∀ n, (blocks256 m n).Ok
  | 0 => start256_ok
  | _ + 1 => comp256_ok _ _
theorem blocks256_more {m : List UInt8} (x : List UInt8) : ∀ n, 64 * n ≤ m.length → blocks256 (m ++ x) n = blocks256 m n
  | 0, _ => rfl
  | n + 1, h => by
    unfold blocks256
    rw [blocks256_more x n (by omega), List.drop_append_of_le_length (by omega), List.take_append_of_le_length (by rw [List.length_drop]; omega)]

/-- What closes a message of n bytes. -/
def lenB (n : Nat) : List UInt8 := (List.range 8).map fun i => UInt8.ofNat (8 * n / 256 ^ (7 - i) % 256)
def padB (n : Nat) : List UInt8 := [128] ++ List.replicate ((119 - n % 64) % 64) 0 ++ lenB n
theorem padB_fits (n : Nat) : (n + (padB n).length) % 64 = 0 := by
  unfold padB lenB
  simp only [List.length_append, List.length_cons, List.length_nil, List.length_replicate, List.length_map, List.length_range]
  omega
def full (m : List UInt8) : List UInt8 := m ++ padB m.length
/-- The bytes of the words. -/
def outB (ws : List Int) : List UInt8 := ws.flatMap fun w => [UInt8.ofNat (w / 16777216 % 256).toNat, UInt8.ofNat (w / 65536 % 256).toNat, UInt8.ofNat (w / 256 % 256).toNat, UInt8.ofNat (w % 256).toNat]
def sha256 (m : List UInt8) : List UInt8 := outB (blocks256 (full m) ((full m).length / 64)).list
theorem outB_length (ws : List Int) : (outB ws).length = 4 * ws.length := by
  induction ws with
  | nil => rfl
  | cons w ws ih => unfold outB at ih ⊢; rw [List.flatMap_cons, List.length_append, ih, List.length_cons]; simp; omega
theorem sha256_length (m : List UInt8) : (sha256 m).length = 32 := by
  unfold sha256
  rw [outB_length]
  rfl

theorem sha_abc : sha256 [97, 98, 99] = [0xba, 0x78, 0x16, 0xbf, 0x8f, 0x01, 0xcf, 0xea, 0x41, 0x41, 0x40, 0xde, 0x5d, 0xae, 0x22, 0x23, 0xb0, 0x03, 0x61, 0xa3, 0x96, 0x17, 0x7a, 0x9c, 0xb4, 0x10, 0xff, 0x61, 0xf2, 0x00, 0x15, 0xad] := by decide +kernel
end Go.Proofs.YtfkpdbmgiefnfaaDoor

/-
  Rows of numbers that may be written. Conditions: none.
-/
namespace Go.Proofs.YtfkpdbmgiefnfaaDoor
open Go.RowKit

/-- Block g holds these numbers of kind k, and may be written. -/
def IRow (w : World) (g : Nat) (t : TypeId) (k : IntKind) (xs : List Int) : Prop := w.heap[g]? = some (.cells (xs.map (Value.int k)).toArray t (0, 0))
section
variable {w w' : World} {g : Nat} {t : TypeId} {k : IntKind} {xs : List Int}
theorem IRow.lt (h : IRow w g t k xs) : g < w.heap.size := (Array.getElem?_eq_some_iff.1 h).1
theorem IRow.cell (h : IRow w g t k xs) {i : Nat} {z : Int} (hi : xs[i]? = some z) : w.cell? ⟨g, i, none⟩ = some (.int k z) := by
  rw [cell_of_row w g i _ _ _ h]
  simp [hi]
theorem IRow.free (h : IRow w g t k xs) (i : Nat) : w.frozen? ⟨g, i, none⟩ = false := by
  unfold IRow at h
  simp [World.frozen?, h]
theorem IRow.set (h : IRow w g t k xs) (i : Nat) (z : Int) : IRow (w.setCell ⟨g, i, none⟩ (.int k z)) g t k (xs.set i z) := by
  unfold IRow at h ⊢
  simp [World.setCell, Array.getElem?_modify, h, List.map_set]
theorem IRow.turns {S : Nat → Prop} (h : IRow w g t k xs) (ht : Turns S w w') (hS : ¬ S g) : IRow w' g t k xs := (ht.block g h.lt hS).trans h
theorem IRow.below {B : Nat} (h : IRow w g t k xs) (hb : Below B w w') (hg : g < B) : IRow w' g t k xs := (hb.block g hg).trans h
theorem IRow.drew (h : IRow w g t k xs) : IRow w.drew g t k xs := h
theorem IRow.new (w : World) (t : TypeId) (k : IntKind) (xs : List Int) : IRow (w.alloc (.cells (xs.map (Value.int k)).toArray t)) w.heap.size t k xs := heap_alloc_new w _
end

/-- The first words as they will be, the rest zero. -/
def padZ (n : Nat) (l : List Int) : List Int := l ++ List.replicate (n - l.length) 0
theorem padZ_length {n : Nat} {l : List Int} (h : l.length ≤ n) : (padZ n l).length = n := by simp [padZ]; omega
theorem padZ_set {n : Nat} {l : List Int} {z : Int} (h : l.length < n) : (padZ n l).set l.length z = padZ n (l ++ [z]) := by
  unfold padZ
  rw [List.set_append_right _ _ (Nat.le_refl _), Nat.sub_self, List.length_append, List.append_assoc]
  obtain ⟨m, hm⟩ : ∃ m, n - l.length = m + 1 := ⟨n - l.length - 1, by omega⟩
  rw [hm, List.replicate_succ, List.set_cons_zero]
  have : n - (l.length + [z].length) = m := by simp; omega
  rw [this]
  rfl
theorem padZ_low {n i : Nat} {l : List Int} {z : Int} (h : l[i]? = some z) : (padZ n l)[i]? = some z := by
  unfold padZ
  rw [List.getElem?_append_left (List.getElem?_eq_some_iff.1 h).1]
  exact h
theorem padZ_next {n : Nat} {l : List Int} (h : l.length < n) : (padZ n l)[l.length]? = some 0 := by
  unfold padZ
  rw [List.getElem?_append_right (Nat.le_refl _), Nat.sub_self, List.getElem?_replicate, if_pos (by omega)]
theorem padZ_full {n : Nat} {l : List Int} (h : l.length = n) : padZ n l = l := by
  unfold padZ
  rw [h, Nat.sub_self, List.replicate_zero, List.append_nil]

theorem u32_wrap (n : Int) : IntKind.u32.wrap n = n % 4294967296 := by simp [IntKind.wrap, IntKind.bits, IntKind.signed]
end Go.Proofs.YtfkpdbmgiefnfaaDoor
