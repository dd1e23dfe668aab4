/-
  Texts joined: B5C, ShaPure, Words, Rot, Sched, Sched2, Step256, Kind256, Padding. Conditions: those of each.
-/
import Derived.Test.YtehodjbjioepnaaDoorJ1
import Derived.Lib.AppendZerosOnto
import Derived.Lib.AppendZeros
import Derived.Deep.CutBlock
import Derived.Deep.DeepCutAuto
import Derived.Deep.LoopGhost
import Derived.Laws.Bits64
import Derived.Lib.EndianBits
import Derived.KernelRfl
import Derived.StillTailTactics
import Derived.Laws.Tables
import Derived.Deep.MidRow
import Derived.IntWalk
import Derived.Laws.CopyRow
/-
  slices.Concat of slices of bytes. Conditions: sizes within the reach.
-/
namespace Go.Proofs.YtehodjbjioepnaaDoor
open Go.RowKit

def Fresh (w : World) (xs : List UInt8) (e : Ending) (w' : World) : Prop :=
  ∃ A c, e = .returned (.slice A xs.length c) ∧ w'.ownsRow w.heap.size 5 1 (.slice A xs.length c) xs.length (xs.map bv) ∧ Below w.heap.size w w'
theorem fresh_v {w w' : World} {xs : List UInt8} {e : Ending} (h : Fresh w xs e w') : ∃ v, e = .returned v ∧ OwnB w' w.heap.size v xs ∧ Below w.heap.size w w' := by
  obtain ⟨A, c, he, ho, hb⟩ := h
  exact ⟨_, he, ho, hb⟩
theorem byt_later {w : World} {B : Nat} {v : Value} {xs : List UInt8} (h : Byt w B v xs) (o : Obj) : Byt (w.alloc o) B v xs := by
  obtain ⟨A, c, hv, hl, hm, hA, hx⟩ := h
  refine ⟨A, c, hv, hl, hm, hA, fun hne => ?_⟩
  obtain ⟨b, o2, e, hb, hc⟩ := hx hne
  exact ⟨b, o2, e, hb, fun j u hu => cell_later ((Below.refl _ w).alloc (Nat.le_refl _) o) (hc j u hu)⟩
theorem fresh_of {w w' : World} {v : Value} {xs : List UInt8} (h : w'.ownsRow w.heap.size 5 1 v xs.length (xs.map bv)) (hb : Below w.heap.size w w') : Fresh w xs (.returned v) w' := by
  obtain ⟨A, c, rfl⟩ := own_form h
  exact ⟨A, c, rfl, h, hb⟩
theorem own_b {w : World} {base n : Nat} {v : Value} {ys zs : List UInt8} (h : w.ownsRow base 5 1 v n (ys.map bv ++ zs.map bv)) (hn : n = ys.length + zs.length) : OwnB w base v (ys ++ zs) := by
  subst hn
  unfold OwnB
  rw [List.length_append, List.map_append]
  exact h
theorem fresh_own {w w' : World} {v : Value} {xs : List UInt8} (h : OwnB w' w.heap.size v xs) (hb : Below w.heap.size w w') : Fresh w xs (.returned v) w' := fresh_of h hb
theorem grow_none (w : World) : Calls Tryd.prog 32 #[.slice none 0 0, .int .i64 0] w fun e w' => e = .returned (.slice none 0 0) ∧ w = w' := by
  go_enter Tryd.func32, Tryd.ntmps32
  go_wp2_with fail
  go_ret
  exact ⟨rfl, rfl⟩

set_option maxRecDepth 100000 in
set_option maxHeartbeats 1600000 in
theorem grow_some (n : Nat) (h0 : 0 < n) (hn : n ≤ 100000000) (w : World) :
    Calls Tryd.prog 32 #[.slice none 0 0, .int .i64 (n : Int)] w (Fresh w []) := by
  obtain ⟨i0, hi, hz0, hz1, hz2⟩ := info_parts info_u8
  obtain ⟨G, hG⟩ : ∃ G, G = grownCap w n 0 5 := ⟨_, rfl⟩
  have hrz : ∀ ty, (Builtin.append_ #[22, 3] ty #[.slice none 0 0, .int .i64 (n : Int)]).run Tryd.prog w =
      .ok (.slice (some ⟨w.heap.size, 0, none⟩) n G) (w.drew.alloc (.cells (#[] ++ Builtin.zeroCells (Value.int .u8 0).cells n ++ Builtin.zeroCells (Value.int .u8 0).cells (G - n)) 5)) := fun ty => by
    have h := Lib.run_append_grow_zeros (P := Tryd.prog) w 22 3 ty 5 i0 (.int .u8 0) .i64 .i64 slice_u8 Tryd.underlying3 hi hz0 none 0 0 [] (run_firstCells_none w.drew i0.size 0 0 0) n h0 (by rw [hz1]; decide) (by omega) (by omega)
      (by rw [hz2]; omega) (by rw [Nat.zero_add]; exact growslice_fits h0 (by rw [hz2]; omega))
    simp only [Nat.zero_add] at h
    rw [← hG] at h
    exact h
  have hGn : n ≤ G := by rw [hG]; exact grownCap_ge w _ _ _
  have hGm : G ≤ maxLen := by rw [hG]; exact grownCap_le_maxLen w _ _ _ (by unfold maxLen; omega)
  have hfr : Fresh w [] (.returned (.slice (some ⟨w.heap.size, 0, none⟩) 0 G)) (w.alloc (.cells (Builtin.zeroCells #[.int .u8 0] n ++ Builtin.zeroCells #[.int .u8 0] (G - n)) 5)).drew := by
    refine ⟨_, _, rfl, ?_, ?_⟩
    · have h := World.ownsRow_made (base := w.heap.size) (e := 5) (size := 1) w (Builtin.zeroCells #[.int .u8 0] n ++ Builtin.zeroCells #[.int .u8 0] (G - n)) G (Nat.le_refl _) hGm (by
        rw [Array.size_append, size_zeroCells, size_zeroCells]
        simp
        omega)
      exact h
    · exact (⟨rfl, rfl, rfl, by simp, fun k hk => Below.heap_alloc _ _ _ hk⟩ : Below w.heap.size w (w.alloc _).drew)
  have hG63 : G ≤ 9223372036854775807 := hGm
  have HF := Lib.hid hfr
  have hpos : (0 : Int) < n := by omega
  clear hfr hG hGm
  go_enter Tryd.func32, Tryd.ntmps32
  go_wp2_with (at_builtin; refine Lib.wpList_append_run _ rfl _ _ _ _ rfl _ _ rfl rfl _ _ (hrz _) ?_)
  go_ret
  exact HF.out

/-- The slice value v reads as these slices of bytes. -/
def BagR (w : World) (B : Nat) (v : Value) (L : List (Value × List UInt8)) : Prop :=
  (∃ A c, v = .slice A L.length c ∧ L.length ≤ c ∧ c ≤ maxLen ∧ (L ≠ [] → ∃ b o, A = some ⟨b, o, none⟩ ∧ b < B ∧ ∀ i p, L[i]? = some p → w.cell? ⟨b, o + i, none⟩ = some p.1)) ∧ ∀ p ∈ L, Byt w B p.1 p.2
theorem BagR.form {w : World} {B : Nat} {v : Value} {L : List (Value × List UInt8)} (h : BagR w B v L) : ∃ A c, v = .slice A L.length c := by
  obtain ⟨⟨A, c, hv, _⟩, _⟩ := h
  exact ⟨A, c, hv⟩
theorem BagR.len {w : World} {B : Nat} {v : Value} {L : List (Value × List UInt8)} (h : BagR w B v L) : L.length ≤ 9223372036854775807 := by
  obtain ⟨⟨A, c, hv, h1, h2, _⟩, _⟩ := h
  unfold maxLen at h2
  omega
theorem BagR.below {w w' : World} {B : Nat} {v : Value} {L : List (Value × List UInt8)} (h : BagR w B v L) (hb : Below B w w') : BagR w' B v L := by
  obtain ⟨⟨A, c, hv, h1, h2, h3⟩, h4⟩ := h
  refine ⟨⟨A, c, hv, h1, h2, fun hne => ?_⟩, fun p hp => (h4 p hp).below hb⟩
  obtain ⟨b, o, e, hb', hc⟩ := h3 hne
  exact ⟨b, o, e, hb', fun i p hp => (hb.cell (p := ⟨b, _, none⟩) hb').trans (hc i p hp)⟩
theorem BagR.more {w : World} {B B' : Nat} {v : Value} {L : List (Value × List UInt8)} (h : BagR w B v L) (hB : B ≤ B') : BagR w B' v L := by
  obtain ⟨⟨A, c, hv, h1, h2, h3⟩, h4⟩ := h
  refine ⟨⟨A, c, hv, h1, h2, fun hne => ?_⟩, fun p hp => (h4 p hp).more hB⟩
  obtain ⟨b, o, e, hb', hc⟩ := h3 hne
  exact ⟨b, o, e, by omega, hc⟩
/-- A new block of just these slices. -/
theorem BagR.made (w : World) (t : TypeId) (l : List Value) (L : List (Value × List UInt8)) (h : l = L.map (·.1)) (hl : L.length ≤ maxLen) (hb : ∀ p ∈ L, Byt w w.heap.size p.1 p.2) :
    BagR (w.alloc (.cells l.toArray t)) (w.heap.size + 1) (.slice (some ⟨w.heap.size, 0, none⟩) L.length L.length) L := by
  refine ⟨⟨_, _, rfl, Nat.le_refl _, hl, fun _ => ⟨_, _, rfl, by omega, fun i p hp => ?_⟩⟩, fun p hp => (byt_later (hb p hp) _).more (by omega)⟩
  rw [Nat.zero_add, cell_of_row _ w.heap.size i _ _ _ (heap_alloc_new w _), h]
  simp [hp]

def total (L : List (Value × List UInt8)) : Nat := (L.map (fun p => p.2.length)).sum
def joined (L : List (Value × List UInt8)) : List UInt8 := (L.map (·.2)).flatten
theorem total_take {L : List (Value × List UInt8)} {k : Nat} (h : k < L.length) : total (L.take (k + 1)) = total (L.take k) + L[k].2.length := by
  unfold total
  rw [List.take_succ_eq_append_getElem h]
  simp only [List.map_append, List.sum_append, List.map_cons, List.map_nil, List.sum_cons, List.sum_nil, Nat.add_zero]
theorem joined_take {L : List (Value × List UInt8)} {k : Nat} (h : k < L.length) : joined (L.take (k + 1)) = joined (L.take k) ++ L[k].2 := by
  unfold joined
  rw [List.take_succ_eq_append_getElem h]
  simp only [List.map_append, List.flatten_append, List.map_cons, List.map_nil, List.flatten_cons, List.flatten_nil, List.append_nil]
theorem joined_length (L : List (Value × List UInt8)) : (joined L).length = total L := by unfold joined total; simp [List.length_flatten, Function.comp_def]
theorem total_take_le (L : List (Value × List UInt8)) (k : Nat) : total (L.take k) ≤ total L := by
  have h : L = L.take k ++ L.drop k := (List.take_append_drop k L).symm
  have : total L = total (L.take k) + total (L.drop k) := by
    conv => lhs; rw [h]
    unfold total
    rw [List.map_append, List.sum_append]
  omega

set_option maxRecDepth 100000 in
set_option maxHeartbeats 3200000 in
theorem concat_any (B : Nat) (x : Value) (L : List (Value × List UInt8)) (w : World) (hx : BagR w B x L) (hB : B ≤ w.heap.size) (hl : total L ≤ 60000) :
    Calls Tryd.prog 21 #[x] w (Fresh w (joined L)) := by
  obtain ⟨i0, hi, hz0, hz1, hz2⟩ := info_parts info_u8
  have hlen := hx.len
  have HX := Lib.hid hx
  obtain ⟨A, c, rfl⟩ := hx.form
  clear hx
  go_enter Tryd.func21, Tryd.ntmps21
  go_wp2_with fail
  go_loop [3, 11] (fun s t => ∃ k : Nat, k ≤ L.length ∧ t = .int .i64 (k : Int) ∧ s = .int .i64 (total (L.take k) : Nat)) (fun _ t => L.length - (intOf t).toNat)
  case atStart => exact ⟨0, Nat.zero_le _, rfl, rfl⟩
  case round =>
    obtain ⟨k, hk, rfl, rfl⟩ := hrel
    by_cases hlt : k < L.length
    · obtain ⟨⟨A', c', e0, _, _, h4⟩, h5⟩ := HX.out
      obtain ⟨e1, e2, e3⟩ := Value.slice.inj e0
      subst e1 e3
      clear e2
      obtain ⟨b, o, rfl, hb, hc⟩ := h4 (by rintro rfl; simp at hlt)
      have hc0 := hc k _ (List.getElem?_eq_getElem hlt)
      obtain ⟨Ad, cd, hd⟩ := (h5 _ (List.getElem_mem hlt)).form
      have hts := total_take hlt
      have htl := total_take_le L (k + 1)
      rw [hd] at hc0
      obtain ⟨m, hm⟩ : ∃ m, m = L[k].2.length := ⟨_, rfl⟩
      rw [← hm] at hc0 hts
      obtain ⟨T, hT⟩ : ∃ T, T = total (L.take k) := ⟨_, rfl⟩
      rw [← hT] at hts ⊢
      have HTS := Lib.hid hts
      have hdk : decide (k < L.length) = true := decide_eq_true hlt
      have hbig : T + m ≤ 60000 := by omega
      have hng : decide ((T : Int) + (m : Int) < 0) = false := decide_eq_false (by omega)
      clear hc h4 h5 e0 hm hT hts htl hd
      go_wp2_with fail
      go_round
      case rel => exact ⟨k + 1, by omega, by go_num, by rw [HTS.out]; go_num⟩
      case measure => simp [intOf]; omega
    · obtain rfl : k = L.length := by omega
      rw [List.take_length]
      obtain ⟨T, hT⟩ : ∃ T, T = total L := ⟨_, rfl⟩
      rw [← hT] at hl ⊢
      have HT := Lib.hid hT
      clear hT
      have HG : Hid (Calls Tryd.prog 32 #[.slice none 0 0, .int .i64 (T : Int)] w (Fresh w [])) := Lib.hid (by
        rcases Nat.eq_zero_or_pos T with h | h
        · subst h
          exact (grow_none w).mono fun e w' ⟨he, hw⟩ => by subst hw; exact ⟨none, 0, he, World.ownsRow_nil _ _ _ _, Below.refl _ _⟩
        · exact grow_some T h (by omega) w)
      go_wp2_with fail
      refine HG.out.mono ?_
      intro e w1 hfr
      obtain ⟨v1, rfl, hown1, hb1⟩ := fresh_v hfr
      have HO1 := Lib.hid hown1
      have HB1 := Lib.hid hb1
      clear hfr hown1 hb1 HG
      go_wp2_with fail
      go_loopw [6, 27] (fun s t wr => ∃ (k : Nat) (v : Value), v = s ∧ k ≤ L.length ∧ t = .int .i64 (k : Int) ∧ Hid (OwnB wr w.heap.size v (joined (L.take k))) ∧ Hid (Below w.heap.size w wr)) (fun _ t _ => L.length - (intOf t).toNat)
      case atStart => exact ⟨0, _, rfl, Nat.zero_le _, rfl, HO1, HB1⟩
      case round =>
        obtain ⟨k, v, hv, hk, rfl, hown, hbel⟩ := hrel
        subst hv
        by_cases hlt : k < L.length
        · obtain ⟨⟨A', c', e0, _, _, h4⟩, h5⟩ := HX.out.below (hbel.out.mono hB)
          obtain ⟨e1, e2, e3⟩ := Value.slice.inj e0
          subst e1 e3
          clear e2
          obtain ⟨b, o, rfl, hb, hc⟩ := h4 (by rintro rfl; simp at hlt)
          have hc0 := hc k _ (List.getElem?_eq_getElem hlt)
          have hby := h5 _ (List.getElem_mem hlt)
          have hjt := joined_take hlt
          have htk := total_take_le L (k + 1)
          rw [total_take hlt, ← HT.out] at htk
          have hjl := joined_length (L.take k)
          obtain ⟨⟨pd, ys⟩, hpe⟩ : ∃ p, p = L[k] := ⟨_, rfl⟩
          rw [← hpe] at hc0 hby hjt htk
          dsimp only at hc0 hby hjt htk
          obtain ⟨Ad, cd, rfl⟩ := hby.form
          have HBY := Lib.hid hby
          have HJT := Lib.hid hjt
          have hbnd : (joined (L.take k)).length + ys.length ≤ 60000 := by omega
          have HBN := Lib.hid hbnd
          have hdk : decide (k < L.length) = true := decide_eq_true hlt
          clear hc h4 h5 e0 hby hjt htk hjl hpe hbnd
          go_wp2_with (at_builtin; refine wpList_append_bytes rfl (.tmp 31) (.tmp 32) 22 rfl w.heap.size 5 i0 slice_u8 hi hz0 hz1 hz2 _ _ _ rfl hown.out B _ ys rfl HBY.out (by have := HBN.out; omega) hbel.out.size ?_; intro v5 w5 hown5 hg5 hat5)
          have ho5 : OwnB w5 w.heap.size v5 (joined (L.take (k + 1))) := by rw [HJT.out]; exact own_b hown5 rfl
          have hb5 : Below w.heap.size w w5 := hbel.out.grown hg5 hbel.out.size (fun j hj => (World.ownsRow.lt hown.out j hj).1)
          have HO5 := Lib.hid ho5
          have HB5 := Lib.hid hb5
          clear hown5 hg5 hat5 ho5 hb5
          go_roundw
          case rel => exact ⟨k + 1, _, rfl, by omega, by go_num, HO5, HB5⟩
          case measure => simp [intOf]; omega
        · obtain rfl : k = L.length := by omega
          have ho := hown.out
          rw [List.take_length] at ho
          have HO := Lib.hid ho
          clear ho
          go_wp2_with fail
          go_ret
          exact fresh_own HO.out hbel.out
end Go.Proofs.YtehodjbjioepnaaDoor

/-
  SHA-256 on plain numbers, in the words of the walks. Conditions: none (plain mathematics).
-/
namespace Go.Proofs.YtehodjbjioepnaaDoor

/-- The sum of two words. -/
def add32 (a b : Int) : Int := (a + b) % 4294967296
def rot32 (n : Nat) (x : Int) : Int := bits .or .u32 (x * 2 ^ n % 4294967296) (x / 2 ^ (32 - n))
def not32 (x : Int) : Int := bits .xor .u32 IntKind.u32.max x
def big1 (e : Int) : Int := bits .xor .u32 (bits .xor .u32 (rot32 26 e) (rot32 21 e)) (rot32 7 e)
def big0 (a : Int) : Int := bits .xor .u32 (bits .xor .u32 (rot32 30 a) (rot32 19 a)) (rot32 10 a)
def ch32 (e f g : Int) : Int := bits .xor .u32 (bits .and .u32 e f) (bits .and .u32 (not32 e) g)
def maj32 (a b c : Int) : Int := bits .xor .u32 (bits .xor .u32 (bits .and .u32 a b) (bits .and .u32 a c)) (bits .and .u32 b c)
def small0 (x : Int) : Int := bits .xor .u32 (bits .xor .u32 (rot32 25 x) (rot32 14 x)) (x / 8)
def small1 (x : Int) : Int := bits .xor .u32 (bits .xor .u32 (rot32 15 x) (rot32 13 x)) (x / 1024)

structure S8 where
  a : Int
  b : Int
  c : Int
  d : Int
  e : Int
  f : Int
  g : Int
  h : Int
def rnd (k w : Int) (s : S8) : S8 :=
  let t1 := add32 (add32 (add32 (add32 s.h (big1 s.e)) (ch32 s.e s.f s.g)) k) w
  let t2 := add32 (big0 s.a) (maj32 s.a s.b s.c)
  ⟨add32 t1 t2, s.a, s.b, s.c, add32 s.d t1, s.e, s.f, s.g⟩

def U32 (x : Int) : Prop := 0 ≤ x ∧ x < 4294967296
theorem add32_u (a b : Int) : U32 (add32 a b) := by unfold add32 U32; omega
theorem bits32_u (op : BinOp) (a b : Int) : U32 (bits op .u32 a b) := by
  unfold bits
  have : ∀ n : Int, U32 (IntKind.u32.wrap n) := fun n => by unfold U32 IntKind.wrap; simp [IntKind.bits, IntKind.signed]; omega
  exact this _
structure S8.Ok (s : S8) : Prop where
  a : U32 s.a
  b : U32 s.b
  c : U32 s.c
  d : U32 s.d
  e : U32 s.e
  f : U32 s.f
  g : U32 s.g
  h : U32 s.h
theorem rnd_ok (k w : Int) {s : S8} (h : s.Ok) : (rnd k w s).Ok := ⟨add32_u _ _, h.a, h.b, h.c, add32_u _ _, h.e, h.f, h.g⟩

/-- The first 64 constants. -/
def k256 : List Int := [0x428a2f98, 0x71374491, 0xb5c0fbcf, 0xe9b5dba5, 0x3956c25b, 0x59f111f1, 0x923f82a4, 0xab1c5ed5, 0xd807aa98, 0x12835b01, 0x243185be, 0x550c7dc3, 0x72be5d74, 0x80deb1fe, 0x9bdc06a7, 0xc19bf174, 0xe49b69c1, 0xefbe4786, 0x0fc19dc6, 0x240ca1cc, 0x2de92c6f, 0x4a7484aa, 0x5cb0a9dc, 0x76f988da, 0x983e5152, 0xa831c66d, 0xb00327c8, 0xbf597fc7, 0xc6e00bf3, 0xd5a79147, 0x06ca6351, 0x14292967, 0x27b70a85, 0x2e1b2138, 0x4d2c6dfc, 0x53380d13, 0x650a7354, 0x766a0abb, 0x81c2c92e, 0x92722c85, 0xa2bfe8a1, 0xa81a664b, 0xc24b8b70, 0xc76c51a3, 0xd192e819, 0xd6990624, 0xf40e3585, 0x106aa070, 0x19a4c116, 0x1e376c08, 0x2748774c, 0x34b0bcb5, 0x391c0cb3, 0x4ed8aa4a, 0x5b9cca4f, 0x682e6ff3, 0x748f82ee, 0x78a5636f, 0x84c87814, 0x8cc70208, 0x90befffa, 0xa4506ceb, 0xbef9a3f7, 0xc67178f2]
def h256 : List Int := [0x6a09e667, 0xbb67ae85, 0x3c6ef372, 0xa54ff53a, 0x510e527f, 0x9b05688c, 0x1f83d9ab, 0x5be0cd19]

/-- Four bytes as a word, the greatest first. -/
def be32 (b0 b1 b2 b3 : UInt8) : Int := (b0.toNat : Int) * 16777216 + (b1.toNat : Int) * 65536 + (b2.toNat : Int) * 256 + (b3.toNat : Int)
theorem be32_u (b0 b1 b2 b3 : UInt8) : U32 (be32 b0 b1 b2 b3) := by
  have h0 := b0.toNat_lt
  have h1 := b1.toNat_lt
  have h2 := b2.toNat_lt
  have h3 := b3.toNat_lt
  unfold be32 U32
  omega
def wordAt (bs : List UInt8) (t : Nat) : Int := be32 (bs.getD (4 * t) 0) (bs.getD (4 * t + 1) 0) (bs.getD (4 * t + 2) 0) (bs.getD (4 * t + 3) 0)
def words16 (bs : List UInt8) : List Int := (List.range 16).map (wordAt bs)

/-- The next word of the schedule. -/
def nextW (ws : List Int) : Int :=
  add32 (add32 (add32 (small1 (ws.getD (ws.length - 2) 0)) (ws.getD (ws.length - 7) 0)) (small0 (ws.getD (ws.length - 15) 0))) (ws.getD (ws.length - 16) 0)
def schedN (ws : List Int) : Nat → List Int
  | 0 => ws
  | n + 1 => schedN ws n ++ [nextW (schedN ws n)]
theorem schedN_length (ws : List Int) : ∀ n, (schedN ws n).length = ws.length + n
  | 0 => rfl
  | n + 1 => by rw [schedN, List.length_append, schedN_length ws n]; rfl
def W64 (bs : List UInt8) : List Int := schedN (words16 bs) 48
theorem W64_length (bs : List UInt8) : (W64 bs).length = 64 := by
  unfold W64
  rw [schedN_length]
  simp [words16]

def rounds (ks ws : List Int) : Nat → S8 → S8
  | 0, s => s
  | t + 1, s => rnd (ks.getD t 0) (ws.getD t 0) (rounds ks ws t s)
theorem rounds_ok (ks ws : List Int) : ∀ (t : Nat) {s : S8}, s.Ok → (rounds ks ws t s).Ok
  | 0, _, h => h
  | t + 1, _, h => rnd_ok _ _ (rounds_ok ks ws t h)
def S8.list (s : S8) : List Int := [s.a, s.b, s.c, s.d, s.e, s.f, s.g, s.h]
/-- A block more. -/
def comp256 (s : S8) (bs : List UInt8) : S8 :=
  let v := rounds k256 (W64 bs) 64 s
  ⟨add32 s.a v.a, add32 s.b v.b, add32 s.c v.c, add32 s.d v.d, add32 s.e v.e, add32 s.f v.f, add32 s.g v.g, add32 s.h v.h⟩
theorem comp256_ok (s : S8) (bs : List UInt8) : (comp256 s bs).Ok := ⟨add32_u _ _, add32_u _ _, add32_u _ _, add32_u _ _, add32_u _ _, add32_u _ _, add32_u _ _, add32_u _ _⟩
def start256 : S8 := ⟨0x6a09e667, 0xbb67ae85, 0x3c6ef372, 0xa54ff53a, 0x510e527f, 0x9b05688c, 0x1f83d9ab, 0x5be0cd19⟩
theorem start256_ok : start256.Ok := ⟨by unfold U32; decide, by unfold U32; decide, by unfold U32; decide, by unfold U32; decide, by unfold U32; decide, by unfold U32; decide, by unfold U32; decide, by unfold U32; decide⟩
/-- Block by block. -/
def blocks256 (m : List UInt8) : Nat → S8
  | 0 => start256
  | n + 1 => comp256 (blocks256 m n) ((m.drop (64 * n)).take 64)
theorem blocks256_ok (m : List UInt8) : ∀ n, (blocks256 m n).Ok
  | 0 => start256_ok
  | _ + 1 => comp256_ok _ _
theorem blocks256_more {m : List UInt8} (x : List UInt8) : ∀ n, 64 * n ≤ m.length → blocks256 (m ++ x) n = blocks256 m n
  | 0, _ => rfl
  | n + 1, h => by
    unfold blocks256
    rw [blocks256_more x n (by omega), List.drop_append_of_le_length (by omega), List.take_append_of_le_length (by rw [List.length_drop]; omega)]

/-- What closes a message of n bytes. -/
def lenB (n : Nat) : List UInt8 := (List.range 8).map fun i => UInt8.ofNat (8 * n / 256 ^ (7 - i) % 256)
def padB (n : Nat) : List UInt8 := [128] ++ List.replicate ((119 - n % 64) % 64) 0 ++ lenB n
theorem padB_fits (n : Nat) : (n + (padB n).length) % 64 = 0 := by
  unfold padB lenB
  simp only [List.length_append, List.length_cons, List.length_nil, List.length_replicate, List.length_map, List.length_range]
  omega
def full (m : List UInt8) : List UInt8 := m ++ padB m.length
/-- The bytes of the words. -/
def outB (ws : List Int) : List UInt8 := ws.flatMap fun w => [UInt8.ofNat (w / 16777216 % 256).toNat, UInt8.ofNat (w / 65536 % 256).toNat, UInt8.ofNat (w / 256 % 256).toNat, UInt8.ofNat (w % 256).toNat]
def sha256 (m : List UInt8) : List UInt8 := outB (blocks256 (full m) ((full m).length / 64)).list
theorem outB_length (ws : List Int) : (outB ws).length = 4 * ws.length := by
  induction ws with
  | nil => rfl
  | cons w ws ih => unfold outB at ih ⊢; rw [List.flatMap_cons, List.length_append, ih, List.length_cons]; simp; omega
theorem sha256_length (m : List UInt8) : (sha256 m).length = 32 := by
  unfold sha256
  rw [outB_length]
  rfl

theorem sha_abc : sha256 [97, 98, 99] = [0xba, 0x78, 0x16, 0xbf, 0x8f, 0x01, 0xcf, 0xea, 0x41, 0x41, 0x40, 0xde, 0x5d, 0xae, 0x22, 0x23, 0xb0, 0x03, 0x61, 0xa3, 0x96, 0x17, 0x7a, 0x9c, 0xb4, 0x10, 0xff, 0x61, 0xf2, 0x00, 0x15, 0xad] := by decide +kernel
end Go.Proofs.YtehodjbjioepnaaDoor

/-
  Rows of numbers that may be written. Conditions: none.
-/
namespace Go.Proofs.YtehodjbjioepnaaDoor
open Go.RowKit

/-- Block g holds these numbers of kind k, and may be written. -/
def IRow (w : World) (g : Nat) (t : TypeId) (k : IntKind) (xs : List Int) : Prop := w.heap[g]? = some (.cells (xs.map (Value.int k)).toArray t (0, 0))
section
variable {w w' : World} {g : Nat} {t : TypeId} {k : IntKind} {xs : List Int}
theorem IRow.lt (h : IRow w g t k xs) : g < w.heap.size := (Array.getElem?_eq_some_iff.1 h).1
theorem IRow.cell (h : IRow w g t k xs) {i : Nat} {z : Int} (hi : xs[i]? = some z) : w.cell? ⟨g, i, none⟩ = some (.int k z) := by
  rw [cell_of_row w g i _ _ _ h]
  simp [hi]
theorem IRow.free (h : IRow w g t k xs) (i : Nat) : w.frozen? ⟨g, i, none⟩ = false := by
  unfold IRow at h
  simp [World.frozen?, h]
theorem IRow.set (h : IRow w g t k xs) (i : Nat) (z : Int) : IRow (w.setCell ⟨g, i, none⟩ (.int k z)) g t k (xs.set i z) := by
  unfold IRow at h ⊢
  simp [World.setCell, Array.getElem?_modify, h, List.map_set]
theorem IRow.turns {S : Nat → Prop} (h : IRow w g t k xs) (ht : Turns S w w') (hS : ¬ S g) : IRow w' g t k xs := (ht.block g h.lt hS).trans h
theorem IRow.below {B : Nat} (h : IRow w g t k xs) (hb : Below B w w') (hg : g < B) : IRow w' g t k xs := (hb.block g hg).trans h
theorem IRow.drew (h : IRow w g t k xs) : IRow w.drew g t k xs := h
theorem IRow.new (w : World) (t : TypeId) (k : IntKind) (xs : List Int) : IRow (w.alloc (.cells (xs.map (Value.int k)).toArray t)) w.heap.size t k xs := heap_alloc_new w _
end

/-- The first words as they will be, the rest zero. -/
def padZ (n : Nat) (l : List Int) : List Int := l ++ List.replicate (n - l.length) 0
theorem padZ_length {n : Nat} {l : List Int} (h : l.length ≤ n) : (padZ n l).length = n := by simp [padZ]; omega
theorem padZ_set {n : Nat} {l : List Int} {z : Int} (h : l.length < n) : (padZ n l).set l.length z = padZ n (l ++ [z]) := by
  unfold padZ
  rw [List.set_append_right _ _ (Nat.le_refl _), Nat.sub_self, List.length_append, List.append_assoc]
  obtain ⟨m, hm⟩ : ∃ m, n - l.length = m + 1 := ⟨n - l.length - 1, by omega⟩
  rw [hm, List.replicate_succ, List.set_cons_zero]
  have : n - (l.length + [z].length) = m := by simp; omega
  rw [this]
  rfl
theorem padZ_low {n i : Nat} {l : List Int} {z : Int} (h : l[i]? = some z) : (padZ n l)[i]? = some z := by
  unfold padZ
  rw [List.getElem?_append_left (List.getElem?_eq_some_iff.1 h).1]
  exact h
theorem padZ_next {n : Nat} {l : List Int} (h : l.length < n) : (padZ n l)[l.length]? = some 0 := by
  unfold padZ
  rw [List.getElem?_append_right (Nat.le_refl _), Nat.sub_self, List.getElem?_replicate, if_pos (by omega)]
theorem padZ_full {n : Nat} {l : List Int} (h : l.length = n) : padZ n l = l := by
  unfold padZ
  rw [h, Nat.sub_self, List.replicate_zero, List.append_nil]

theorem u32_wrap (n : Int) : IntKind.u32.wrap n = n % 4294967296 := by simp [IntKind.wrap, IntKind.bits, IntKind.signed]
end Go.Proofs.YtehodjbjioepnaaDoor

/-
  Words turned round, and read: bits.RotateLeft32, hash.get32, the reference's rot. Conditions: none.
-/
namespace Go.Proofs.YtehodjbjioepnaaDoor
open Go.RowKit

set_option maxRecDepth 100000 in
set_option maxHeartbeats 800000 in
theorem rotl_any (x k : Int) (m n : Nat) (w : World) (_hx : U32 x) (h1 : IntKind.u64.wrap k = (m : Int)) (h2 : m % 32 = n) (hm : m < 18446744073709551616) :
    Calls Tryd.prog 50 #[.int .u32 x, .int .i64 k] w fun e w' => e = .returned (.int .u32 (rot32 n x)) ∧ w = w' := by
  have e1 : (m : Int) % 32 = (n : Int) := by omega
  have hn : n ≤ 31 := by omega
  have e2 : bits .and .u64 (m : Int) 31 = (n : Int) := by
    have h := bits_mask .u64 64 (by decide) wraps_u64 5 (by decide) (m : Int) (by omega) (by omega)
    have e5 : ((2 : Int) ^ 5 - 1) = 31 := by decide
    rw [e5] at h
    rw [h, ← e1]
    rfl
  obtain ⟨q, hq⟩ : ∃ q, q = 32 - n := ⟨_, rfl⟩
  have e3 : (32 : Int) - (n : Int) = (q : Int) := by omega
  have hr : rot32 n x = bits .or .u32 (x * 2 ^ n % 4294967296) (x / 2 ^ q) := by rw [hq]; rfl
  have HR := Lib.hid hr
  have hq32 : q ≤ 32 := by omega
  clear hr hq h2
  go_enter Tryd.func50, Tryd.ntmps50
  go_wp2
  go_ret
  exact ⟨by rw [HR.out]; rfl, rfl⟩

theorem or_be32 (x0 x1 x2 x3 : Int) (a0 : 0 ≤ x0) (b0 : x0 < 256) (a1 : 0 ≤ x1) (b1 : x1 < 256) (a2 : 0 ≤ x2) (b2 : x2 < 256) (a3 : 0 ≤ x3) (b3 : x3 < 256) :
    bits .or .u32 (bits .or .u32 (bits .or .u32 (x0 * 16777216) (x1 * 65536)) (x2 * 256)) x3 = x0 * 16777216 + x1 * 65536 + x2 * 256 + x3 := by
  have e1 : bits .or .u32 (x0 * 16777216) (x1 * 65536) = x0 * 16777216 + x1 * 65536 :=
    bits_join .u32 32 (by decide) wraps_u32 24 _ _ (by omega) (by omega) (by omega) (by omega) (by omega) (by omega)
  have e2 : bits .or .u32 (x0 * 16777216 + x1 * 65536) (x2 * 256) = x0 * 16777216 + x1 * 65536 + x2 * 256 :=
    bits_join .u32 32 (by decide) wraps_u32 16 _ _ (by omega) (by omega) (by omega) (by omega) (by omega) (by omega)
  have e3 : bits .or .u32 (x0 * 16777216 + x1 * 65536 + x2 * 256) x3 = x0 * 16777216 + x1 * 65536 + x2 * 256 + x3 :=
    bits_join .u32 32 (by decide) wraps_u32 8 _ _ (by omega) (by omega) (by omega) (by omega) (by omega) (by omega)
  rw [e1, e2, e3]

set_option maxRecDepth 100000 in
set_option maxHeartbeats 1600000 in
theorem get32_any (b o len c : Nat) (q0 q1 q2 q3 : UInt8) (w : World) (hl : 4 ≤ len) (h0 : w.cell? ⟨b, o, none⟩ = some (bv q0)) (h1 : w.cell? ⟨b, o + 1, none⟩ = some (bv q1)) (h2 : w.cell? ⟨b, o + 2, none⟩ = some (bv q2)) (h3 : w.cell? ⟨b, o + 3, none⟩ = some (bv q3)) :
    Calls Tryd.prog 51 #[.slice (some ⟨b, o, none⟩) len c] w fun e w' => e = .returned (.int .u32 (be32 q0 q1 q2 q3)) ∧ ∃ k, w' = w.drewN k := by
  have a0 := q0.toNat_lt
  have a1 := q1.toNat_lt
  have a2 := q2.toNat_lt
  have a3 := q3.toNat_lt
  have hor := or_be32 q0.toNat q1.toNat q2.toNat q3.toNat (by omega) (by omega) (by omega) (by omega) (by omega) (by omega) (by omega) (by omega)
  unfold bv at h0 h1 h2 h3
  have i0 : (0 : Int) < (len : Int) := by omega
  have i1 : (1 : Int) < (len : Int) := by omega
  have i2 : (2 : Int) < (len : Int) := by omega
  have i3 : (3 : Int) < (len : Int) := by omega
  have u0 : IntKind.u32.wrap (q0.toNat : Int) = (q0.toNat : Int) := by rw [u32_wrap]; omega
  have u1 : IntKind.u32.wrap (q1.toNat : Int) = (q1.toNat : Int) := by rw [u32_wrap]; omega
  have u2 : IntKind.u32.wrap (q2.toNat : Int) = (q2.toNat : Int) := by rw [u32_wrap]; omega
  have u3 : IntKind.u32.wrap (q3.toNat : Int) = (q3.toNat : Int) := by rw [u32_wrap]; omega
  have v0 : IntKind.u32.wrap ((q0.toNat : Int) * 16777216) = (q0.toNat : Int) * 16777216 := by rw [u32_wrap]; omega
  have v1 : IntKind.u32.wrap ((q1.toNat : Int) * 65536) = (q1.toNat : Int) * 65536 := by rw [u32_wrap]; omega
  have v2 : IntKind.u32.wrap ((q2.toNat : Int) * 256) = (q2.toNat : Int) * 256 := by rw [u32_wrap]; omega
  go_enter Tryd.func51, Tryd.ntmps51
  go_wp2_with fail
  go_quiet (fail)
  go_wp2
  go_ret
  exact ⟨rfl, _, rfl⟩
end Go.Proofs.YtehodjbjioepnaaDoor

/-
  hash.schedule256. Conditions: the block has 64 bytes.
-/
namespace Go.Proofs.YtehodjbjioepnaaDoor
open Go.RowKit

theorem isU32_cells (xs : List Int) (k : IntKind) : (xs.map (Value.int k)).toArray.all (·.oneCell') = true :=
  Array.all_eq_true_iff_forall_mem.2 (fun v hv => by
    have h : v ∈ xs.map (Value.int k) := by simpa using hv
    obtain ⟨z, _, rfl⟩ := List.mem_map.1 h
    rfl)
theorem load_irow {w : World} {g : Nat} {t ty : TypeId} {k : IntKind} {xs : List Int} {n : Nat} {e : TypeId} (h : IRow w g t k xs) (hu : Tryd.prog.underlying ty = some (.array n e)) (hi : (Tryd.prog.info? ty).map (·.size) = some xs.length) :
    (loadVar ty ⟨g, 0, none⟩).run Tryd.prog w = .ok (.agg (xs.map (Value.int k)).toArray) w :=
  run_loadVar_row w g t ty _ (0, 0) (.array n e) h hu rfl (by rw [hi]; simp)
theorem loadAt_irow {w : World} {g : Nat} {t ty : TypeId} {k : IntKind} {xs : List Int} {n : Nat} {e : TypeId} (h : IRow w g t k xs) (hu : Tryd.prog.underlying ty = some (.array n e)) (hi : (Tryd.prog.info? ty).map (·.size) = some xs.length) :
    (Instr.loadAt ty (.pointer (some ⟨g, 0, none⟩))).run Tryd.prog w = .ok (.agg (xs.map (Value.int k)).toArray) w := by
  simp only [Instr.loadAt, Instr.sureAddr, Sem.run_bind, Sem.run_pure, Result.andThen_ok, load_irow h hu hi]
theorem storeAt_irow {w : World} {g : Nat} {t ty : TypeId} {k : IntKind} {xs ys : List Int} (h : IRow w g t k xs) (hi : (Tryd.prog.info? ty).map (·.size) = some ys.length) (hl : xs.length = ys.length) :
    (Instr.storeAt ty (.pointer (some ⟨g, 0, none⟩)) (.agg (ys.map (Value.int k)).toArray)).run Tryd.prog w = .ok () (w.setRow g (ys.map (Value.int k)).toArray) := by
  simp only [Instr.storeAt, Instr.sureAddr, Sem.run_bind, Sem.run_pure, Result.andThen_ok]
  exact run_storeVar_row w g t ty _ _ h (by rw [hi]; simp) (by simp [hl]) (isU32_cells _ _)
theorem setRow_irow {w : World} {g : Nat} {t : TypeId} {k : IntKind} {xs ys : List Int} (h : IRow w g t k xs) : IRow (w.setRow g (ys.map (Value.int k)).toArray) g t k ys := by
  unfold IRow at h ⊢
  simp [World.setRow, Array.getElem?_modify, h]
theorem below_setRow {B : Nat} {a w : World} (h : Below B a w) {g : Nat} (hg : B ≤ g) (cs : Array Value) : Below B a (w.setRow g cs) :=
  ⟨h.os, h.tape, h.output, by simpa [World.setRow] using h.size, fun k hk => by
    have e : (w.setRow g cs).heap[k]? = w.heap[k]? := by
      simp only [World.setRow, Array.getElem?_modify]
      rw [if_neg (by omega)]
    rw [e]; exact h.block k hk⟩
theorem wpList_load_irow {ops : Array Oper} {rest : List Oper} {op : Oper} {a : Act} {w : World} {Q : Exit → Act → World → Prop} (hgd : op.guard = none) (ty : TypeId) (x : Operand) (ho : op.op = .load ty x)
    {g : Nat} {t : TypeId} {k : IntKind} {xs : List Int} {n : Nat} {e : TypeId} (hx : a.eval x = .pointer (some ⟨g, 0, none⟩)) (h : IRow w g t k xs) (hu : Tryd.prog.underlying ty = some (.array n e)) (hi : (Tryd.prog.info? ty).map (·.size) = some xs.length)
    (hn : wpList Tryd.prog ops Q rest (a.put op.dst (.agg (xs.map (Value.int k)).toArray)) w) : wpList Tryd.prog ops Q (op :: rest) a w :=
  wpList_plain hgd fun K hK => by
    unfold Oper.wp execOp
    simp only [ho, hx, loadAt_irow h hu hi, Sem.run_bind, Sem.run_pure, Result.andThen_ok]
    exact hK _ _ hn
theorem wpList_store_irow {ops : Array Oper} {rest : List Oper} {op : Oper} {a : Act} {w : World} {Q : Exit → Act → World → Prop} (hgd : op.guard = none) (ty : TypeId) (x y : Operand) (ho : op.op = .store ty x y)
    {g : Nat} {t : TypeId} {k : IntKind} {xs ys : List Int} (hx : a.eval x = .pointer (some ⟨g, 0, none⟩)) (hy : a.eval y = .agg (ys.map (Value.int k)).toArray) (h : IRow w g t k xs) (hi : (Tryd.prog.info? ty).map (·.size) = some ys.length) (hl : xs.length = ys.length)
    (hn : wpList Tryd.prog ops Q rest (a.put op.dst undef) (w.setRow g (ys.map (Value.int k)).toArray)) : wpList Tryd.prog ops Q (op :: rest) a w :=
  wpList_plain hgd fun K hK => by
    unfold Oper.wp execOp
    simp only [ho, hx, hy, storeAt_irow h hi hl, Sem.run_bind, Sem.run_pure, Result.andThen_ok]
    exact hK _ _ hn
end Go.Proofs.YtehodjbjioepnaaDoor

/-
  hash.schedule256, walked. Conditions: the block has 64 bytes.
-/
namespace Go.Proofs.YtehodjbjioepnaaDoor
open Go.RowKit

theorem info_64 : (Tryd.prog.info? 62).map (·.size) = some 64 := by kernel_rfl
theorem wordAt_cells {bs : List UInt8} {t : Nat} (h : 4 * t + 4 ≤ bs.length) : ∃ q0 q1 q2 q3, bs[4 * t]? = some q0 ∧ bs[4 * t + 1]? = some q1 ∧ bs[4 * t + 2]? = some q2 ∧ bs[4 * t + 3]? = some q3 ∧ wordAt bs t = be32 q0 q1 q2 q3 := by
  refine ⟨bs[4 * t]'(by omega), bs[4 * t + 1]'(by omega), bs[4 * t + 2]'(by omega), bs[4 * t + 3]'(by omega), List.getElem?_eq_getElem _, List.getElem?_eq_getElem _, List.getElem?_eq_getElem _, List.getElem?_eq_getElem _, ?_⟩
  unfold wordAt
  simp only [List.getD_eq_getElem?_getD]
  rw [List.getElem?_eq_getElem (show 4 * t < bs.length by omega), List.getElem?_eq_getElem (show 4 * t + 1 < bs.length by omega), List.getElem?_eq_getElem (show 4 * t + 2 < bs.length by omega), List.getElem?_eq_getElem (show 4 * t + 3 < bs.length by omega)]
  rfl
def wordsN (bs : List UInt8) (t : Nat) : List Int := (List.range t).map (wordAt bs)
theorem wordsN_succ (bs : List UInt8) (t : Nat) : wordsN bs (t + 1) = wordsN bs t ++ [wordAt bs t] := by simp [wordsN, List.range_succ]
theorem wordsN_length (bs : List UInt8) (t : Nat) : (wordsN bs t).length = t := by simp [wordsN]

theorem nextW_u (ws : List Int) : U32 (nextW ws) := add32_u _ _
theorem sched_u (bs : List UInt8) : ∀ n, ∀ x ∈ schedN (words16 bs) n, U32 x
  | 0, x, hx => by
    unfold schedN words16 at hx
    obtain ⟨t, _, rfl⟩ := List.mem_map.1 hx
    exact be32_u _ _ _ _
  | n + 1, x, hx => by
    rw [schedN] at hx
    rcases List.mem_append.1 hx with h | h
    · exact sched_u bs n x h
    · rw [List.mem_singleton.1 h]
      exact nextW_u _

set_option maxRecDepth 100000 in
set_option maxHeartbeats 6400000 in
theorem sched_any (b o c : Nat) (bs : List UInt8) (w : World) (hl : bs.length = 64) (hc : 64 ≤ c) (hcm : c ≤ 9223372036854775807) (hb : b < w.heap.size) (hcell : ∀ (j : Nat) (u : UInt8), bs[j]? = some u → w.cell? ⟨b, o + j, none⟩ = some (bv u)) :
    Calls Tryd.prog 49 #[.slice (some ⟨b, o, none⟩) 64 c] w fun e w' => e = .returned (.agg ((W64 bs).map (Value.int .u32)).toArray) ∧ Below w.heap.size w w' := by
  have HC := Lib.hid hcell
  have HL := Lib.hid hl
  clear hcell hl
  go_enter Tryd.func49, Tryd.ntmps49
  go_wp2_with fail
  have r1 := IRow.new w 62 .u32 (List.replicate 64 0)
  have r2 := IRow.new (w.alloc (.cells ((List.replicate 64 (0 : Int)).map (Value.int .u32)).toArray 62)) 62 .u32 (List.replicate 64 0)
  have hs1 : (w.alloc (.cells ((List.replicate 64 (0 : Int)).map (Value.int .u32)).toArray 62)).heap.size = w.heap.size + 1 := by simp
  rw [hs1] at r2
  have R1 := Lib.hid r1
  have R2 := Lib.hid r2
  have HU := Lib.hid u32_wrap
  clear r1 r2 hs1
  go_loopw [10] (fun j wr => ∃ t : Nat, t ≤ 16 ∧ j = .int .i64 t ∧ IRow wr (w.heap.size + 1) 62 .u32 (padZ 64 (wordsN bs t)) ∧ IRow wr w.heap.size 62 .u32 (List.replicate 64 0) ∧ Below w.heap.size w wr) (fun j _ => 16 - (intOf j).toNat)
  case atStart => exact ⟨0, by omega, rfl, R2.out, (Below.refl (w.heap.size + 1) _).alloc (by simp) _ |>.block _ (by simp) |>.trans R1.out, ((Below.refl _ w).alloc (Nat.le_refl _) _).alloc (by simp) _⟩
  case round =>
    obtain ⟨t, ht, rfl, hrow, hres, hbel⟩ := hrel
    by_cases h16 : t < 16
    · obtain ⟨q0, q1, q2, q3, g0, g1, g2, g3, hw⟩ := wordAt_cells (bs := bs) (t := t) (by have := HL.out; omega)
      have c0 := (hbel.cell (p := ⟨b, o + 4 * t, none⟩) hb).trans (HC.out _ _ g0)
      have c1 := (hbel.cell (p := ⟨b, o + (4 * t + 1), none⟩) hb).trans (HC.out _ _ g1)
      have c2 := (hbel.cell (p := ⟨b, o + (4 * t + 2), none⟩) hb).trans (HC.out _ _ g2)
      have c3 := (hbel.cell (p := ⟨b, o + (4 * t + 3), none⟩) hb).trans (HC.out _ _ g3)
      rw [← Nat.add_assoc] at c1 c2 c3
      have G := Lib.hid (get32_any b (o + 4 * t) (64 - 4 * t) (c - 4 * t) q0 q1 q2 q3 wr (by omega) c0 c1 c2 c3)
      rw [← hw] at G
      have hsn := wordsN_succ bs t
      have hll := wordsN_length bs t
      have hcz : wr.cell? ⟨w.heap.size + 1, t, none⟩ = some (.int .u32 0) := hrow.cell (by have := padZ_next (n := 64) (l := wordsN bs t) (by omega); rw [hll] at this; exact this)
      have hcf := hrow.free t
      have hset := fun z => hrow.set t z
      have hpz := fun z => padZ_set (n := 64) (l := wordsN bs t) (z := z) (by omega)
      rw [hll] at hpz
      simp only [hpz] at hset
      have hset2 := hset (wordAt bs t)
      rw [← hsn] at hset2
      have HSET := Lib.hid hset2
      have HRES := Lib.hid hres
      have e4 : ¬ (c = 4 * t) := by omega
      have e5 : 4 * t ≤ 64 := by omega
      clear g0 g1 g2 g3 hw c0 c1 c2 c3 hsn hll hset hpz hset2 hrow hres
      go_wp2_with fail
      refine G.out.mono ?_
      rintro e w' ⟨rfl, k, rfl⟩
      go_wp2
      refine ⟨⟨t + 1, by omega, by go_num, HSET.out, ?_, ?_⟩, by simp [intOf]; omega⟩
      · exact (Below.heap_setCell wr _ _ _ (by intro h; first | (have h' : w.heap.size = w.heap.size + 1 := h; omega) | (have h' : w.heap.size + 1 = w.heap.size := h; omega))).trans HRES.out
      · have h := hbel.setCell (p := ⟨w.heap.size + 1, t, none⟩) (by show w.heap.size ≤ w.heap.size + 1; omega) (.int .u32 (wordAt bs t))
        exact ⟨h.os, h.tape, h.output, h.size, h.block⟩
    · obtain rfl : t = 16 := by omega
      have h16' : ((16 : Nat) : Int) = 16 := rfl
      rw [h16']
      clear h16'
      have HROW := Lib.hid hrow
      clear hrow
      go_wp2_with fail
      go_loopw [5] (fun j wr => ∃ n t : Nat, n ≤ 48 ∧ Hid (t = 16 + n) ∧ 16 ≤ t ∧ t ≤ 64 ∧ j = .int .i64 t ∧ IRow wr (w.heap.size + 1) 62 .u32 (padZ 64 (schedN (words16 bs) n)) ∧ IRow wr w.heap.size 62 .u32 (List.replicate 64 0) ∧ Below w.heap.size w wr) (fun j _ => 64 - (intOf j).toNat)
      case atStart => exact ⟨0, 16, by omega, Lib.hid rfl, by omega, by omega, rfl, HROW.out, hres, hbel⟩
      case round =>
        obtain ⟨n, t, hn, ht2, hg16, hle64, rfl, hrow, hres, hbel⟩ := hrel
        obtain ⟨ws, hws⟩ : ∃ ws, ws = schedN (words16 bs) n := ⟨_, rfl⟩
        have hwl : ws.length = t := by rw [hws, schedN_length, ht2.out]; rfl
        rw [← hws] at hrow
        by_cases h64 : t < 64
        · obtain ⟨i1, hi1⟩ : ∃ i, i = t - 15 := ⟨_, rfl⟩
          obtain ⟨i2, hi2⟩ : ∃ i, i = t - 2 := ⟨_, rfl⟩
          obtain ⟨i3, hi3⟩ : ∃ i, i = t - 7 := ⟨_, rfl⟩
          obtain ⟨i4, hi4⟩ : ∃ i, i = t - 16 := ⟨_, rfl⟩
          have w1 : IntKind.i64.wrap ((t : Int) - 15) = (i1 : Int) := by rw [IntWalk.i64_in _ (by omega)]; omega
          have w2 : IntKind.i64.wrap ((t : Int) - 2) = (i2 : Int) := by rw [IntWalk.i64_in _ (by omega)]; omega
          have w3 : IntKind.i64.wrap ((t : Int) - 7) = (i3 : Int) := by rw [IntWalk.i64_in _ (by omega)]; omega
          have w4 : IntKind.i64.wrap ((t : Int) - 16) = (i4 : Int) := by rw [IntWalk.i64_in _ (by omega)]; omega
          have b1 : (i1 : Int) < 64 := by omega
          have b2 : (i2 : Int) < 64 := by omega
          have b3 : (i3 : Int) < 64 := by omega
          have b4 : (i4 : Int) < 64 := by omega
          have bt : (t : Int) < 64 := by omega
          obtain ⟨x, hx⟩ : ∃ x, ws[i1]? = some x := ⟨_, List.getElem?_eq_getElem (by omega)⟩
          obtain ⟨y, hy⟩ : ∃ y, ws[i2]? = some y := ⟨_, List.getElem?_eq_getElem (by omega)⟩
          obtain ⟨u, hu⟩ : ∃ u, ws[i3]? = some u := ⟨_, List.getElem?_eq_getElem (by omega)⟩
          obtain ⟨v, hv⟩ : ∃ v, ws[i4]? = some v := ⟨_, List.getElem?_eq_getElem (by omega)⟩
          have k1 := hrow.cell (padZ_low (n := 64) hx)
          have k2 := hrow.cell (padZ_low (n := 64) hy)
          have k3 := hrow.cell (padZ_low (n := 64) hu)
          have k4 := hrow.cell (padZ_low (n := 64) hv)
          have k5 : wr.cell? ⟨w.heap.size + 1, t, none⟩ = some (.int .u32 0) := hrow.cell (by have := padZ_next (n := 64) (l := ws) (by omega); rw [hwl] at this; exact this)
          have kf := hrow.free t
          have hnw : nextW ws = (small1 y + u + small0 x + v) % 4294967296 := by
            unfold nextW
            rw [hwl, ← hi1, ← hi2, ← hi3, ← hi4]
            simp only [List.getD_eq_getElem?_getD, hx, hy, hu, hv, Option.getD_some]
            unfold add32
            omega
          have hsn : schedN (words16 bs) (n + 1) = ws ++ [nextW ws] := by rw [schedN, ← hws]
          have hset := hrow.set t (nextW ws)
          have hpz := padZ_set (n := 64) (l := ws) (z := nextW ws) (by omega)
          rw [hwl] at hpz
          rw [hpz, ← hsn] at hset
          rw [hnw] at hset
          have HSET := Lib.hid hset
          have HRES := Lib.hid hres
          have hux : U32 x := sched_u bs n x (by rw [← hws]; exact List.mem_of_getElem? hx)
          have huy : U32 y := sched_u bs n y (by rw [← hws]; exact List.mem_of_getElem? hy)
          have C1 := Lib.hid (fun W => rotl_any x (-7) 18446744073709551609 25 W hux (by decide) (by decide) (by decide))
          have C2 := Lib.hid (fun W => rotl_any x (-18) 18446744073709551598 14 W hux (by decide) (by decide) (by decide))
          have C3 := Lib.hid (fun W => rotl_any y (-17) 18446744073709551599 15 W huy (by decide) (by decide) (by decide))
          have C4 := Lib.hid (fun W => rotl_any y (-19) 18446744073709551597 13 W huy (by decide) (by decide) (by decide))
          clear hset hnw hsn hpz hrow hres hx hy hu hv hws hwl hi1 hi2 hi3 hi4
          go_wp2_with fail
          go_quiet (fail)
          go_wp2_with fail
          refine (C1.out _).mono ?_
          rintro e w5 ⟨rfl, rfl⟩
          go_wp2_with fail
          refine (C2.out _).mono ?_
          rintro e w5 ⟨rfl, rfl⟩
          go_wp2_with fail
          refine (C3.out _).mono ?_
          rintro e w5 ⟨rfl, rfl⟩
          go_wp2_with fail
          refine (C4.out _).mono ?_
          rintro e w5 ⟨rfl, rfl⟩
          go_wp2_with fail
          have hu2 := HU.out
          have m3 : ((wr.drewN nq).drew).cell? ⟨w.heap.size + 1, i3, none⟩ = some (.int .u32 u) := k3
          have m4 : ((wr.drewN nq).drew).cell? ⟨w.heap.size + 1, i4, none⟩ = some (.int .u32 v) := k4
          refine wp_region_still_tail 15 (by kernel_rfl) (by kernel_rfl) ?_
          simp only [List.take_succ_cons, List.take_zero, List.drop_succ_cons, List.drop_zero]
          change wpStill _ _ ((wr.drewN nq).drew) _ _ _
          repeat still_step
          refine wpStill_nil ?_
          change wpList _ _ _ _ _ ((wr.drewN nq).drew)
          go_wp2_with fail
          refine ⟨⟨n + 1, t + 1, by have := ht2.out; omega, Lib.hid (by have := ht2.out; omega), by omega, by omega, by go_num, HSET.out, ?_, ?_⟩, by simp [intOf]; omega⟩
          · exact (Below.heap_setCell wr _ _ _ (by intro h; first | (have h' : w.heap.size = w.heap.size + 1 := h; omega) | (have h' : w.heap.size + 1 = w.heap.size := h; omega))).trans HRES.out
          · have h := hbel.setCell (p := ⟨w.heap.size + 1, t, none⟩) (by show w.heap.size ≤ w.heap.size + 1; omega) (.int .u32 ((small1 y + u + small0 x + v) % 4294967296))
            exact ⟨h.os, h.tape, h.output, h.size, h.block⟩
        · obtain rfl : t = 64 := by omega
          have hn48 : n = 48 := by have := ht2.out; omega
          have hW : ws = W64 bs := by rw [hws, hn48]; unfold W64; with_reducible rfl
          rw [padZ_full hwl, hW] at hrow
          have hrow2 : IRow wr (w.heap.size + 1) 62 .u32 (W64 bs) := by with_reducible exact hrow
          have hl64 := W64_length bs
          have hfin := setRow_irow (ys := W64 bs) hres
          have hbf := below_setRow hbel (Nat.le_refl _) ((W64 bs).map (Value.int .u32)).toArray
          have HB := Lib.hid hbf
          have HFIN := Lib.hid hfin
          have HROW2 := Lib.hid hrow2
          have HRES := Lib.hid hres
          have HL64 := Lib.hid hl64
          clear hW hws hwl hrow hrow2 hres hfin hbf hn48 ht2 hl64
          go_wp2_with (first
            | (refine wpList_load_irow rfl 62 (.tmp 3) rfl (g := w.heap.size + 1) (t := 62) (k := .u32) (xs := W64 bs) rfl HROW2.out Tryd.underlying62 (by rw [HL64.out]; exact info_64) ?_)
            | (refine wpList_store_irow rfl 62 (.tmp 2) (.tmp 64) rfl (g := w.heap.size) (t := 62) (k := .u32) (xs := List.replicate 64 0) (ys := W64 bs) rfl rfl HRES.out (by rw [HL64.out]; exact info_64) (by rw [HL64.out]; rfl) ?_))
          refine bodyPost_ret (v := .agg ((W64 bs).map (Value.int .u32)).toArray) ?_ rfl ⟨rfl, HB.out⟩
          obtain ⟨fr, hrw⟩ : ∃ fr, ((wr.setRow (w.heap.size) ((W64 bs).map (Value.int .u32)).toArray)).heap[w.heap.size]? = some (.cells ((W64 bs).map (Value.int .u32)).toArray 62 fr) := ⟨_, HFIN.out⟩
          exact results_cell_row Tryd.results49 _ _ w.heap.size 62 ((W64 bs).map (Value.int .u32)).toArray fr _ rfl hrw Tryd.underlying62 rfl (by rw [List.size_toArray, List.length_map, HL64.out]; exact info_64)
end Go.Proofs.YtehodjbjioepnaaDoor

/-
  hash.step256, walked. Conditions: the block has 64 bytes; the words are of 32 bits; the roots are laid.
-/
namespace Go.Proofs.YtehodjbjioepnaaDoor
open Go.RowKit

/-- The 80 constants of 64 bits. -/
def k512 : List Int := [0x428a2f98d728ae22, 0x7137449123ef65cd, 0xb5c0fbcfec4d3b2f, 0xe9b5dba58189dbbc,
0x3956c25bf348b538, 0x59f111f1b605d019, 0x923f82a4af194f9b, 0xab1c5ed5da6d8118,
0xd807aa98a3030242, 0x12835b0145706fbe, 0x243185be4ee4b28c, 0x550c7dc3d5ffb4e2,
0x72be5d74f27b896f, 0x80deb1fe3b1696b1, 0x9bdc06a725c71235, 0xc19bf174cf692694,
0xe49b69c19ef14ad2, 0xefbe4786384f25e3, 0x0fc19dc68b8cd5b5, 0x240ca1cc77ac9c65,
0x2de92c6f592b0275, 0x4a7484aa6ea6e483, 0x5cb0a9dcbd41fbd4, 0x76f988da831153b5,
0x983e5152ee66dfab, 0xa831c66d2db43210, 0xb00327c898fb213f, 0xbf597fc7beef0ee4,
0xc6e00bf33da88fc2, 0xd5a79147930aa725, 0x06ca6351e003826f, 0x142929670a0e6e70,
0x27b70a8546d22ffc, 0x2e1b21385c26c926, 0x4d2c6dfc5ac42aed, 0x53380d139d95b3df,
0x650a73548baf63de, 0x766a0abb3c77b2a8, 0x81c2c92e47edaee6, 0x92722c851482353b,
0xa2bfe8a14cf10364, 0xa81a664bbc423001, 0xc24b8b70d0f89791, 0xc76c51a30654be30,
0xd192e819d6ef5218, 0xd69906245565a910, 0xf40e35855771202a, 0x106aa07032bbd1b8,
0x19a4c116b8d2d0c8, 0x1e376c085141ab53, 0x2748774cdf8eeb99, 0x34b0bcb5e19b48a8,
0x391c0cb3c5c95a63, 0x4ed8aa4ae3418acb, 0x5b9cca4f7763e373, 0x682e6ff3d6b2b8a3,
0x748f82ee5defb2fc, 0x78a5636f43172f60, 0x84c87814a1f0ab72, 0x8cc702081a6439ec,
0x90befffa23631e28, 0xa4506cebde82bde9, 0xbef9a3f7b2c67915, 0xc67178f2e372532b,
0xca273eceea26619c, 0xd186b8c721c0c207, 0xeada7dd6cde0eb1e, 0xf57d4f7fee6ed178,
0x06f067aa72176fba, 0x0a637dc5a2c898a6, 0x113f9804bef90dae, 0x1b710b35131c471b,
0x28db77f523047d84, 0x32caab7b40c72493, 0x3c9ebe0a15c9bebc, 0x431d67c49c100d4c,
0x4cc5d4becb3e42b6, 0x597f299cfc657e2a, 0x5fcb6fab3ad6faec, 0x6c44198c4a475817]
theorem k256_of : k256 = (k512.take 64).map (· / 4294967296) := by decide
/-- The roots lie in the program's memory. -/
def CubeIs (w : World) : Prop := 3 < w.heap.size ∧ ∀ (t : Nat) (k : Int), k512[t]? = some k → w.cell? ⟨3, t, none⟩ = some (.int .u64 k)
theorem CubeIs.below {w w' : World} {B : Nat} (h : CubeIs w) (hb : Below B w w') (hB : 3 < B) : CubeIs w' := by
  refine ⟨Nat.lt_of_lt_of_le h.1 hb.size, fun t k hk => ?_⟩
  exact (hb.cell (p := ⟨3, t, none⟩) hB).trans (h.2 t k hk)
theorem k512_at {t : Nat} (h : t < 64) : ∃ k, k512[t]? = some k ∧ k256.getD t 0 = k / 4294967296 ∧ 0 ≤ k ∧ k < 18446744073709551616 := by
  have hl : k512.length = 80 := rfl
  refine ⟨k512[t]'(by omega), List.getElem?_eq_getElem _, ?_, ?_⟩
  · rw [k256_of, List.getD_eq_getElem?_getD, List.getElem?_map, List.getElem?_take, if_pos h, List.getElem?_eq_getElem (by omega)]
    rfl
  · have h2 : ∀ x ∈ k512, 0 ≤ x ∧ x < 18446744073709551616 := by decide
    exact h2 _ (List.getElem_mem _)
theorem info_8 : (Tryd.prog.info? 63).map (·.size) = some 8 := by kernel_rfl

/-- The first i words with what a block gives them. -/
def mix (l v : List Int) (i : Nat) : List Int := (List.range 8).map fun k => if k < i then add32 (l.getD k 0) (v.getD k 0) else l.getD k 0
theorem idx8 (a b c d e f g h : Int) {i : Nat} (hi : i < 8) : ∃ v, [a, b, c, d, e, f, g, h][i]? = some v ∧ ∀ w, (Instr.index 63 (.agg #[.int .u32 a, .int .u32 b, .int .u32 c, .int .u32 d, .int .u32 e, .int .u32 f, .int .u32 g, .int .u32 h]) (.int .i64 i)).run Tryd.prog w = .ok (.int .u32 v) w := by
  obtain rfl | rfl | rfl | rfl | rfl | rfl | rfl | rfl : i = 0 ∨ i = 1 ∨ i = 2 ∨ i = 3 ∨ i = 4 ∨ i = 5 ∨ i = 6 ∨ i = 7 := by omega
  · exact ⟨_, rfl, fun w => by kernel_rfl⟩
  · exact ⟨_, rfl, fun w => by kernel_rfl⟩
  · exact ⟨_, rfl, fun w => by kernel_rfl⟩
  · exact ⟨_, rfl, fun w => by kernel_rfl⟩
  · exact ⟨_, rfl, fun w => by kernel_rfl⟩
  · exact ⟨_, rfl, fun w => by kernel_rfl⟩
  · exact ⟨_, rfl, fun w => by kernel_rfl⟩
  · exact ⟨_, rfl, fun w => by kernel_rfl⟩
theorem mix_at (l v : List Int) {i : Nat} (hi : i < 8) : (mix l v i)[i]? = some (l.getD i 0) := by
  obtain rfl | rfl | rfl | rfl | rfl | rfl | rfl | rfl : i = 0 ∨ i = 1 ∨ i = 2 ∨ i = 3 ∨ i = 4 ∨ i = 5 ∨ i = 6 ∨ i = 7 := by omega
  all_goals rfl
theorem mix_next (l v : List Int) {i : Nat} (hi : i < 8) : (mix l v i).set i (add32 (l.getD i 0) (v.getD i 0)) = mix l v (i + 1) := by
  obtain rfl | rfl | rfl | rfl | rfl | rfl | rfl | rfl : i = 0 ∨ i = 1 ∨ i = 2 ∨ i = 3 ∨ i = 4 ∨ i = 5 ∨ i = 6 ∨ i = 7 := by omega
  all_goals rfl
set_option maxRecDepth 100000 in
set_option maxHeartbeats 6400000 in
theorem step256_any (b o c : Nat) (s0 : S8) (bs : List UInt8) (w : World) (hs : s0.Ok) (hl : bs.length = 64) (hc : 64 ≤ c) (hcm : c ≤ 9223372036854775807) (hb : b < w.heap.size) (hcell : ∀ (j : Nat) (u : UInt8), bs[j]? = some u → w.cell? ⟨b, o + j, none⟩ = some (bv u)) (hcube : CubeIs w) :
    Calls Tryd.prog 48 #[.agg (s0.list.map (Value.int .u32)).toArray, .slice (some ⟨b, o, none⟩) 64 c] w fun e w' => e = .returned (.agg ((comp256 s0 bs).list.map (Value.int .u32)).toArray) ∧ Below w.heap.size w w' := by
  have HC := Lib.hid hcell
  have HL := Lib.hid hl
  have HK := Lib.hid hcube
  have HS := Lib.hid hs
  clear hcell hl hcube hs
  go_enter Tryd.func48, Tryd.ntmps48
  go_wp2_with fail
  have rA := IRow.new w 63 .u32 s0.list
  have bA : Below w.heap.size w (w.alloc (.cells (s0.list.map (Value.int .u32)).toArray 63)) := (Below.refl _ w).alloc (Nat.le_refl _) _
  have sA : (w.alloc (.cells (s0.list.map (Value.int .u32)).toArray 63)).heap.size = w.heap.size + 1 := by simp
  generalize w.alloc (.cells (s0.list.map (Value.int .u32)).toArray 63) = wA at *
  have rB := IRow.new wA 63 .u32 (List.replicate 8 0)
  have bB : Below (w.heap.size + 1) wA (wA.alloc (.cells ((List.replicate 8 (0 : Int)).map (Value.int .u32)).toArray 63)) := (Below.refl _ wA).alloc (by omega) _
  have sB : (wA.alloc (.cells ((List.replicate 8 (0 : Int)).map (Value.int .u32)).toArray 63)).heap.size = w.heap.size + 2 := by simp; omega
  rw [sA] at rB
  obtain ⟨wB, hwB⟩ : ∃ x, x = wA.alloc (.cells ((List.replicate 8 (0 : Int)).map (Value.int .u32)).toArray 63) := ⟨_, rfl⟩
  rw [← hwB] at rB bB sB
  change Calls _ _ _ (wA.alloc (.cells ((List.replicate 8 (0 : Int)).map (Value.int .u32)).toArray 63)) _
  rw [← hwB]
  clear hwB
  have rA2 := rA.below bB (Nat.lt_succ_self _)
  have hB0 : Below w.heap.size w wB := bA.trans (bB.mono (by omega))
  refine (sched_any b o c bs wB HL.out hc hcm (by omega) (fun j u hu => (hB0.cell (p := ⟨b, o + j, none⟩) hb).trans (HC.out j u hu))).mono ?_
  rintro e w3 ⟨rfl, hb3⟩
  rw [sB] at hb3
  have rA3 := rA2.below hb3 (by omega)
  have rB3 := rB.below hb3 (by omega)
  have s3 : w.heap.size + 2 ≤ w3.heap.size := by have := hb3.size; omega
  have rW := IRow.new w3 62 .u32 (List.replicate 64 0)
  have HRW := Lib.hid rW
  clear rW rA rA2 rB
  go_wp2_with (first
    | (refine wpList_store_irow rfl 62 (.tmp 5) (.tmp 22) rfl (g := w3.heap.size) (t := 62) (k := .u32) (xs := List.replicate 64 0) (ys := W64 bs) rfl rfl HRW.out (by rw [W64_length]; exact info_64) (by rw [W64_length]; rfl) ?_))
  have rW4 : IRow ((w3.alloc (.cells ((List.replicate 64 (0 : Int)).map (Value.int .u32)).toArray 62)).setRow w3.heap.size ((W64 bs).map (Value.int .u32)).toArray) w3.heap.size 62 .u32 (W64 bs) := setRow_irow HRW.out
  have b4 : Below w3.heap.size w3 ((w3.alloc (.cells ((List.replicate 64 (0 : Int)).map (Value.int .u32)).toArray 62)).setRow w3.heap.size ((W64 bs).map (Value.int .u32)).toArray) := below_setRow ((Below.refl _ w3).alloc (Nat.le_refl _) _) (Nat.le_refl _) _
  change Code.wp _ _ _ _ ((w3.alloc (.cells ((List.replicate 64 (0 : Int)).map (Value.int .u32)).toArray 62)).setRow w3.heap.size ((W64 bs).map (Value.int .u32)).toArray)
  obtain ⟨w4, hw4⟩ : ∃ x, x = (w3.alloc (.cells ((List.replicate 64 (0 : Int)).map (Value.int .u32)).toArray 62)).setRow w3.heap.size ((W64 bs).map (Value.int .u32)).toArray := ⟨_, rfl⟩
  rw [← hw4] at rW4 b4 ⊢
  clear hw4 HRW
  have rA4 := rA3.below b4 (by omega)
  have rB4 := rB3.below b4 (by omega)
  have hB4 : Below w.heap.size w w4 := hB0.trans ((hb3.mono (by omega)).trans (b4.mono (by omega)))
  have m0 := rA4.cell (i := 0) rfl
  have m1 := rA4.cell (i := 1) rfl
  have m2 := rA4.cell (i := 2) rfl
  have m3 := rA4.cell (i := 3) rfl
  have m4 := rA4.cell (i := 4) rfl
  have m5 := rA4.cell (i := 5) rfl
  have m6 := rA4.cell (i := 6) rfl
  have m7 := rA4.cell (i := 7) rfl
  have HA4 := Lib.hid rA4
  have HB4 := Lib.hid rB4
  have HW4 := Lib.hid rW4
  have HL4 := Lib.hid hB4
  have S4 := Lib.hid (⟨sA, sB, s3, b4.size⟩ : wA.heap.size = w.heap.size + 1 ∧ wB.heap.size = w.heap.size + 2 ∧ w.heap.size + 2 ≤ w3.heap.size ∧ w3.heap.size ≤ w4.heap.size)
  clear rA3 rB3 rA4 rB4 rW4 hB4 hB0 bA bB hb3 sA sB s3 b4
  go_quiet (fail)
  go_wp2_with fail
  clear m0 m1 m2 m3 m4 m5 m6 m7
  go_loopw [39, 6, 7, 8, 9, 10, 11, 12, 13] (fun j va vb vc vd ve vf vg vh wr => ∃ (t : Nat) (s : S8), t ≤ 64 ∧ Hid (s = rounds k256 (W64 bs) t s0) ∧ j = .int .i64 t ∧ va = .int .u32 s.a ∧ vb = .int .u32 s.b ∧ vc = .int .u32 s.c ∧ vd = .int .u32 s.d ∧ ve = .int .u32 s.e ∧ vf = .int .u32 s.f ∧ vg = .int .u32 s.g ∧ vh = .int .u32 s.h ∧
      IRow wr w.heap.size 63 .u32 s0.list ∧ IRow wr (w.heap.size + 1) 63 .u32 (List.replicate 8 0) ∧ IRow wr w3.heap.size 62 .u32 (W64 bs) ∧ Below w.heap.size w wr ∧ w3.heap.size ≤ wr.heap.size) (fun j _ _ _ _ _ _ _ _ _ => 64 - (intOf j).toNat)
  case atStart => exact ⟨0, s0, by omega, Lib.hid rfl, rfl, rfl, rfl, rfl, rfl, rfl, rfl, rfl, rfl, HA4.out, HB4.out, HW4.out, ⟨HL4.out.os, HL4.out.tape, HL4.out.output, HL4.out.size, HL4.out.block⟩, S4.out.2.2.2⟩
  case round =>
    obtain ⟨t, s, ht, hst, rfl, rfl, rfl, rfl, rfl, rfl, rfl, rfl, rfl, hra, hrb, hrw, hbel, hsz⟩ := hrel
    by_cases h64 : t < 64
    · obtain ⟨kk, hk, hk2, hk0, hk1⟩ := k512_at h64
      have kc := (HK.out.below hbel HK.out.1).2 t kk hk
      obtain ⟨x, hx⟩ : ∃ x, (W64 bs)[t]? = some x := ⟨_, List.getElem?_eq_getElem (by rw [W64_length]; omega)⟩
      have wc := hrw.cell hx
      obtain ⟨q, hq⟩ : ∃ q, q = kk / 4294967296 := ⟨_, rfl⟩
      have hq0 : 0 ≤ q := by omega
      have hq1 : q < 4294967296 := by omega
      have bt : (t : Int) < 64 := by omega
      have bt8 : (t : Int) < 80 := by omega
      have hok : s.Ok := by rw [hst.out]; exact rounds_ok _ _ _ HS.out
      have C1 := Lib.hid (fun W => rotl_any s.e (-6) 18446744073709551610 26 W hok.e (by decide) (by decide) (by decide))
      have C2 := Lib.hid (fun W => rotl_any s.e (-11) 18446744073709551605 21 W hok.e (by decide) (by decide) (by decide))
      have C3 := Lib.hid (fun W => rotl_any s.e (-25) 18446744073709551591 7 W hok.e (by decide) (by decide) (by decide))
      have C4 := Lib.hid (fun W => rotl_any s.a (-2) 18446744073709551614 30 W hok.a (by decide) (by decide) (by decide))
      have C5 := Lib.hid (fun W => rotl_any s.a (-13) 18446744073709551603 19 W hok.a (by decide) (by decide) (by decide))
      have C6 := Lib.hid (fun W => rotl_any s.a (-22) 18446744073709551594 10 W hok.a (by decide) (by decide) (by decide))
      have HX := Lib.hid hx
      have HK2 := Lib.hid hk2
      have HRA := Lib.hid hra
      have HRB := Lib.hid hrb
      have HRW := Lib.hid hrw
      have HBEL := Lib.hid hbel
      have HSZ := Lib.hid hsz
      have HU := Lib.hid u32_wrap
      clear hx hk2 hra hrb hrw hbel hsz hk hok
      go_wp2_with fail
      refine (C1.out _).mono ?_
      rintro e w5 ⟨rfl, rfl⟩
      go_wp2_with fail
      refine (C2.out _).mono ?_
      rintro e w5 ⟨rfl, rfl⟩
      go_wp2_with fail
      refine (C3.out _).mono ?_
      rintro e w5 ⟨rfl, rfl⟩
      go_wp2_with fail
      obtain ⟨S1, hS1⟩ : ∃ z, z = bits .xor .u32 (bits .xor .u32 (rot32 26 s.e) (rot32 21 s.e)) (rot32 7 s.e) := ⟨_, rfl⟩
      rw [← hS1]
      have HS1 := Lib.hid hS1
      clear hS1
      refine wp_region_still_lit (by kernel_rfl) (by kernel_rfl) ?_
      iterate 12 still_step
      obtain ⟨CH, hCH⟩ : ∃ z, z = bits .xor .u32 (bits .and .u32 s.e s.f) (bits .and .u32 (bits .xor .u32 (if IntKind.u32.signed = true then -1 else IntKind.u32.max) s.e) s.g) := ⟨_, rfl⟩
      obtain ⟨A1, hA1⟩ : ∃ z, z = IntKind.u32.wrap (s.h + S1) := ⟨_, rfl⟩
      obtain ⟨A2, hA2⟩ : ∃ z, z = IntKind.u32.wrap (A1 + CH) := ⟨_, rfl⟩
      rw [← hCH, ← hA1, ← hA2]
      have HCH := Lib.hid hCH
      have HA1 := Lib.hid hA1
      have HA2 := Lib.hid hA2
      clear hCH hA1 hA2
      iterate 6 still_step
      obtain ⟨KK, hKK⟩ : ∃ z, z = IntKind.u32.wrap (kk / 4294967296) := ⟨_, rfl⟩
      obtain ⟨A3, hA3⟩ : ∃ z, z = IntKind.u32.wrap (A2 + KK) := ⟨_, rfl⟩
      rw [← hKK, ← hA3]
      have HKK := Lib.hid hKK
      have HA3 := Lib.hid hA3
      clear hKK hA3
      iterate 4 still_step
      obtain ⟨T1, hT1⟩ : ∃ z, z = IntKind.u32.wrap (A3 + x) := ⟨_, rfl⟩
      rw [← hT1]
      have HT0 := Lib.hid hT1
      clear hT1
      still_step
      refine wpStill_nil ?_
      have HT1 := Lib.hid (show T1 = add32 (add32 (add32 (add32 s.h (big1 s.e)) (ch32 s.e s.f s.g)) q) x by
        rw [HT0.out, HA3.out, HKK.out, HA2.out, HA1.out, HCH.out, HS1.out]
        simp only [u32_wrap]
        rw [← hq, Int.emod_eq_of_lt hq0 hq1]
        rfl)
      clear HT0 HA3 HKK HA2 HA1 HCH HS1
      change Exit.then _ _ Exit.normal _ wr.drew
      obtain ⟨wd, hwd⟩ : ∃ x, x = wr.drew := ⟨_, rfl⟩
      rw [← hwd]
      have HRA2 : Hid (IRow wd w.heap.size 63 .u32 s0.list) := Lib.hid (by rw [hwd]; exact HRA.out)
      have HRB2 : Hid (IRow wd (w.heap.size + 1) 63 .u32 (List.replicate 8 0)) := Lib.hid (by rw [hwd]; exact HRB.out)
      have HRW2 : Hid (IRow wd w3.heap.size 62 .u32 (W64 bs)) := Lib.hid (by rw [hwd]; exact HRW.out)
      have HBEL2 : Hid (Below w.heap.size w wd) := Lib.hid (by rw [hwd]; exact HBEL.out.drew)
      have HSZ2 : Hid (w3.heap.size ≤ wd.heap.size) := Lib.hid (by rw [hwd]; exact HSZ.out)
      clear hwd HRA HRB HRW HBEL HSZ kc wc
      generalize bits BinOp.xor IntKind.u32 (if IntKind.u32.signed = true then -1 else IntKind.u32.max) s.e = NE
      generalize bits BinOp.and IntKind.u32 NE s.g = NG
      generalize kk / 4294967296 = KQ
      go_wp2_with fail
      refine (C4.out _).mono ?_
      rintro e w5 ⟨rfl, rfl⟩
      go_wp2_with fail
      refine (C5.out _).mono ?_
      rintro e w5 ⟨rfl, rfl⟩
      go_wp2_with fail
      refine (C6.out _).mono ?_
      rintro e w5 ⟨rfl, rfl⟩
      go_wp2_with fail
      have HR := Lib.hid (show rnd q x s = ⟨add32 T1 (add32 (big0 s.a) (maj32 s.a s.b s.c)), s.a, s.b, s.c, add32 s.d T1, s.e, s.f, s.g⟩ by rw [HT1.out]; rfl)
      refine ⟨⟨t + 1, rnd q x s, by omega, Lib.hid ?_, by go_num, ?_, ?_, ?_, ?_, ?_, ?_, ?_, ?_, HRA2.out, HRB2.out, HRW2.out, HBEL2.out, HSZ2.out⟩, by simp [intOf]; omega⟩
      · rw [rounds, ← hst.out, HK2.out, List.getD_eq_getElem?_getD, HX.out, ← hq]
        rfl
      all_goals (rw [HR.out]; try rfl)
    · obtain rfl : t = 64 := by omega
      have h64' : ((64 : Nat) : Int) = 64 := rfl
      rw [h64']
      have HRA := Lib.hid hra
      have HRB := Lib.hid hrb
      have HBEL := Lib.hid hbel
      have HST := Lib.hid hst.out
      clear h64' hra hrb hrw hbel hst hsz ht h64
      go_wp2_with fail
      go_loopw [115] (fun j wr => ∃ i : Nat, i ≤ 8 ∧ j = .int .i64 i ∧ IRow wr w.heap.size 63 .u32 (mix s0.list s.list i) ∧ IRow wr (w.heap.size + 1) 63 .u32 (List.replicate 8 0) ∧ Below w.heap.size w wr) (fun j _ => 8 - (intOf j).toNat)
      case atStart => exact ⟨0, by omega, rfl, HRA.out, HRB.out, HBEL.out⟩
      case round =>
        obtain ⟨i, hi, rfl, hra, hrb, hbel⟩ := hrel
        by_cases h8 : i < 8
        · obtain ⟨v, hv, hix⟩ := idx8 s.a s.b s.c s.d s.e s.f s.g s.h h8
          obtain ⟨l, hl⟩ : ∃ l, l = s0.list.getD i 0 := ⟨_, rfl⟩
          have hat := hra.cell (mix_at s0.list s.list h8)
          rw [← hl] at hat
          have hvd : s.list.getD i 0 = v := by rw [List.getD_eq_getElem?_getD]; exact congrArg (·.getD 0) hv
          have hset := hra.set i (add32 (s0.list.getD i 0) (s.list.getD i 0))
          rw [mix_next _ _ h8, hvd, ← hl] at hset
          have hfr := hra.free i
          have b8 : (i : Int) < 8 := by omega
          have HSET := Lib.hid hset
          have HRB2 := Lib.hid hrb
          have HBEL2 := Lib.hid hbel
          have HU := Lib.hid u32_wrap
          clear hv hvd hl hset hra hrb hbel
          go_wp2_with fail
          refine ⟨⟨i + 1, by omega, by go_num, HSET.out, ?_, ?_⟩, by simp [intOf]; omega⟩
          · exact (Below.heap_setCell wr _ _ _ (by intro h; have h' : w.heap.size + 1 = w.heap.size := h; omega)).trans HRB2.out
          · have h := HBEL2.out.setCell (p := ⟨w.heap.size, i, none⟩) (Nat.le_refl _) (.int .u32 (add32 l v))
            exact ⟨h.os, h.tape, h.output, h.size, h.block⟩
        · obtain rfl : i = 8 := by omega
          have h8' : ((8 : Nat) : Int) = 8 := rfl
          rw [h8']
          have e8 : mix s0.list s.list 8 = (comp256 s0 bs).list := by
            unfold comp256
            rw [← HST.out]
            rfl
          rw [e8] at hra
          have HRA3 := Lib.hid hra
          have HRB3 := Lib.hid hrb
          have HFIN := Lib.hid (setRow_irow (ys := (comp256 s0 bs).list) hrb)
          have HBF := Lib.hid (below_setRow hbel (Nat.le_succ _) ((comp256 s0 bs).list.map (Value.int .u32)).toArray)
          clear h8' e8 hra hrb hbel hi h8
          go_wp2_with (first
            | (refine wpList_load_irow rfl 63 (.tmp 2) rfl (g := w.heap.size) (t := 63) (k := .u32) (xs := (comp256 s0 bs).list) rfl HRA3.out Tryd.underlying63 info_8 ?_)
            | (refine wpList_store_irow rfl 63 (.tmp 4) (.tmp 126) rfl (g := w.heap.size + 1) (t := 63) (k := .u32) (xs := List.replicate 8 0) (ys := (comp256 s0 bs).list) rfl rfl HRB3.out info_8 rfl ?_))
          refine bodyPost_ret (v := .agg ((comp256 s0 bs).list.map (Value.int .u32)).toArray) ?_ rfl ⟨rfl, HBF.out⟩
          obtain ⟨fr, hrw⟩ : ∃ fr, ((wr.setRow (w.heap.size + 1) ((comp256 s0 bs).list.map (Value.int .u32)).toArray)).heap[w.heap.size + 1]? = some (.cells ((comp256 s0 bs).list.map (Value.int .u32)).toArray 63 fr) := ⟨_, HFIN.out⟩
          exact results_cell_row Tryd.results48 _ _ (w.heap.size + 1) 63 ((comp256 s0 bs).list.map (Value.int .u32)).toArray fr _ rfl hrw Tryd.underlying63 rfl info_8
end Go.Proofs.YtehodjbjioepnaaDoor

/-
  hash.kind256, walked. Conditions: the roots are laid.
-/
namespace Go.Proofs.YtehodjbjioepnaaDoor
open Go.RowKit

/-- Block g holds these values, and may be written. -/
def VRow (w : World) (g : Nat) (t : TypeId) (vs : List Value) : Prop := w.heap[g]? = some (.cells vs.toArray t (0, 0))
section
variable {w w' : World} {g : Nat} {t : TypeId} {vs : List Value}
theorem VRow.lt (h : VRow w g t vs) : g < w.heap.size := (Array.getElem?_eq_some_iff.1 h).1
theorem VRow.cell (h : VRow w g t vs) {i : Nat} {z : Value} (hi : vs[i]? = some z) : w.cell? ⟨g, i, none⟩ = some z := by
  rw [cell_of_row w g i _ _ _ h]
  simp [hi]
theorem VRow.free (h : VRow w g t vs) (i : Nat) : w.frozen? ⟨g, i, none⟩ = false := by
  unfold VRow at h
  simp [World.frozen?, h]
theorem VRow.set (h : VRow w g t vs) (i : Nat) (z : Value) : VRow (w.setCell ⟨g, i, none⟩ z) g t (vs.set i z) := by
  unfold VRow at h ⊢
  simp [World.setCell, Array.getElem?_modify, h]
theorem VRow.below {B : Nat} (h : VRow w g t vs) (hb : Below B w w') (hg : g < B) : VRow w' g t vs := (hb.block g hg).trans h
theorem VRow.new (w : World) (t : TypeId) (vs : List Value) : VRow (w.alloc (.cells vs.toArray t)) w.heap.size t vs := heap_alloc_new w _
theorem VRow.setRow (h : VRow w g t vs) (us : List Value) : VRow (w.setRow g us.toArray) g t us := by
  unfold VRow at h ⊢
  simp [World.setRow, Array.getElem?_modify, h]
end
theorem wpList_load_vrow {ops : Array Oper} {rest : List Oper} {op : Oper} {a : Act} {w : World} {Q : Exit → Act → World → Prop} (hgd : op.guard = none) (ty : TypeId) (x : Operand) (ho : op.op = .load ty x)
    {g : Nat} {t : TypeId} {vs : List Value} {fs : Array Field} (hx : a.eval x = .pointer (some ⟨g, 0, none⟩)) (h : VRow w g t vs) (hu : Tryd.prog.underlying ty = some (.struct fs)) (hi : (Tryd.prog.info? ty).map (·.size) = some vs.length)
    (hn : wpList Tryd.prog ops Q rest (a.put op.dst (.agg vs.toArray)) w) : wpList Tryd.prog ops Q (op :: rest) a w :=
  wpList_load_row hgd ty x ho g hx t vs.toArray (0, 0) (.struct fs) h hu rfl (by rw [hi, List.size_toArray]) hn
theorem wpList_store_vrow {ops : Array Oper} {rest : List Oper} {op : Oper} {a : Act} {w : World} {Q : Exit → Act → World → Prop} (hgd : op.guard = none) (ty : TypeId) (x y : Operand) (ho : op.op = .store ty x y)
    {g : Nat} {t : TypeId} {vs us : List Value} (hx : a.eval x = .pointer (some ⟨g, 0, none⟩)) (hy : a.eval y = .agg us.toArray) (h : VRow w g t vs) (hi : (Tryd.prog.info? ty).map (·.size) = some us.length) (hl : vs.length = us.length) (h1 : us.toArray.all (·.oneCell') = true)
    (hn : wpList Tryd.prog ops Q rest (a.put op.dst undef) (w.setRow g us.toArray)) : wpList Tryd.prog ops Q (op :: rest) a w :=
  wpList_plain hgd fun K hK => by
    unfold Oper.wp execOp
    have hst : (Instr.storeAt ty (.pointer (some ⟨g, 0, none⟩)) (.agg us.toArray)).run Tryd.prog w = .ok () (w.setRow g us.toArray) := by
      simp only [Instr.storeAt, Instr.sureAddr, Sem.run_bind, Sem.run_pure, Result.andThen_ok]
      exact run_storeVar_row w g t ty _ _ h (by rw [hi]; simp) (by simp [hl]) h1
    simp only [ho, hx, hy, hst, Sem.run_bind, Sem.run_pure, Result.andThen_ok]
    exact hK _ _ hn

def s512 : List Int := [0x6a09e667f3bcc908, 0xbb67ae8584caa73b, 0x3c6ef372fe94f82b, 0xa54ff53a5f1d36f1, 0x510e527fade682d1, 0x9b05688c2b3e6c1f, 0x1f83d9abfb41bd6b, 0x5be0cd19137e2179]
/-- The square roots lie in the program's memory. -/
def RootIs (w : World) : Prop := 2 < w.heap.size ∧ ∀ (t : Nat) (k : Int), s512[t]? = some k → w.cell? ⟨2, t, none⟩ = some (.int .u64 k)
theorem RootIs.below {w w' : World} {B : Nat} (h : RootIs w) (hb : Below B w w') (hB : 2 < B) : RootIs w' := by
  refine ⟨Nat.lt_of_lt_of_le h.1 hb.size, fun t k hk => ?_⟩
  exact (hb.cell (p := ⟨2, t, none⟩) hB).trans (h.2 t k hk)

theorem info_kind : (Tryd.prog.info? 77).map (·.size) = some 10 := by kernel_rfl
/-- What kind256 gives, when i words are in. -/
def kRow (i : Nat) : List Value := .int .i64 64 :: ((List.range 8).map (fun k => .int .u32 (if k < i then h256.getD k 0 else 0)) ++ [.func (.func 48) #[] #[]])
def zRow : List Value := [.int .i64 0, .int .u32 0, .int .u32 0, .int .u32 0, .int .u32 0, .int .u32 0, .int .u32 0, .int .u32 0, .int .u32 0, .nilFunc]
def k0Row : List Value := [.int .i64 64, .int .u32 0, .int .u32 0, .int .u32 0, .int .u32 0, .int .u32 0, .int .u32 0, .int .u32 0, .int .u32 0, .func (.func 48) #[] #[]]
theorem k0Row_is : k0Row = kRow 0 := rfl
theorem k0Row_one : k0Row.toArray.all (·.oneCell') = true := by simp [k0Row, Value.oneCell']
theorem kRow_one : (kRow 8).toArray.all (·.oneCell') = true := by simp [kRow, Value.oneCell', List.range_succ]
theorem kRow_next {i : Nat} (hi : i < 8) : (kRow i).set (1 + i) (.int .u32 (h256.getD i 0)) = kRow (i + 1) := by
  obtain rfl | rfl | rfl | rfl | rfl | rfl | rfl | rfl : i = 0 ∨ i = 1 ∨ i = 2 ∨ i = 3 ∨ i = 4 ∨ i = 5 ∨ i = 6 ∨ i = 7 := by omega
  all_goals rfl
theorem kRow_at {i : Nat} (hi : i < 8) : (kRow i)[1 + i]? = some (.int .u32 0) := by
  obtain rfl | rfl | rfl | rfl | rfl | rfl | rfl | rfl : i = 0 ∨ i = 1 ∨ i = 2 ∨ i = 3 ∨ i = 4 ∨ i = 5 ∨ i = 6 ∨ i = 7 := by omega
  all_goals rfl
theorem root8 {i : Nat} (hi : i < 8) : ∃ v, v / 4294967296 = h256.getD i 0 ∧ 0 ≤ v / 4294967296 ∧ v / 4294967296 < 4294967296 ∧ ∀ w, (Instr.index 82 (.agg #[.int .u64 0x6a09e667f3bcc908, .int .u64 0xbb67ae8584caa73b, .int .u64 0x3c6ef372fe94f82b, .int .u64 0xa54ff53a5f1d36f1, .int .u64 0x510e527fade682d1, .int .u64 0x9b05688c2b3e6c1f, .int .u64 0x1f83d9abfb41bd6b, .int .u64 0x5be0cd19137e2179]) (.int .i64 i)).run Tryd.prog w = .ok (.int .u64 v) w := by
  obtain rfl | rfl | rfl | rfl | rfl | rfl | rfl | rfl : i = 0 ∨ i = 1 ∨ i = 2 ∨ i = 3 ∨ i = 4 ∨ i = 5 ∨ i = 6 ∨ i = 7 := by omega
  · exact ⟨0x6a09e667f3bcc908, rfl, by decide, by decide, fun w => by kernel_rfl⟩
  · exact ⟨0xbb67ae8584caa73b, rfl, by decide, by decide, fun w => by kernel_rfl⟩
  · exact ⟨0x3c6ef372fe94f82b, rfl, by decide, by decide, fun w => by kernel_rfl⟩
  · exact ⟨0xa54ff53a5f1d36f1, rfl, by decide, by decide, fun w => by kernel_rfl⟩
  · exact ⟨0x510e527fade682d1, rfl, by decide, by decide, fun w => by kernel_rfl⟩
  · exact ⟨0x9b05688c2b3e6c1f, rfl, by decide, by decide, fun w => by kernel_rfl⟩
  · exact ⟨0x1f83d9abfb41bd6b, rfl, by decide, by decide, fun w => by kernel_rfl⟩
  · exact ⟨0x5be0cd19137e2179, rfl, by decide, by decide, fun w => by kernel_rfl⟩
set_option maxRecDepth 100000 in
set_option maxHeartbeats 3200000 in
theorem kind256_any (w : World) (hroot : RootIs w) :
    Calls Tryd.prog 45 #[] w fun e w' => e = .returned (.agg (kRow 8).toArray) ∧ Below w.heap.size w w' := by
  have k0 := hroot.2 0 _ rfl
  have k1 := hroot.2 1 _ rfl
  have k2 := hroot.2 2 _ rfl
  have k3 := hroot.2 3 _ rfl
  have k4 := hroot.2 4 _ rfl
  have k5 := hroot.2 5 _ rfl
  have k6 := hroot.2 6 _ rfl
  have k7 := hroot.2 7 _ rfl
  have hg := hroot.1
  have HR := Lib.hid hroot
  clear hroot
  go_enter Tryd.func45, Tryd.ntmps45
  have r0 := VRow.new w 77 zRow
  have r1 := VRow.new (w.alloc (.cells zRow.toArray 77)) 77 zRow
  have hs1 : (w.alloc (.cells zRow.toArray 77)).heap.size = w.heap.size + 1 := by simp
  rw [hs1] at r1
  have R0 := Lib.hid r0
  have R1 := Lib.hid r1
  clear r0 r1 hs1
  have rk := R1.out.setRow k0Row
  rw [k0Row_is] at rk
  have b1 : Below w.heap.size w (((w.alloc (.cells zRow.toArray 77)).alloc (.cells zRow.toArray 77)).setRow (w.heap.size + 1) k0Row.toArray) := below_setRow (((Below.refl _ w).alloc (Nat.le_refl _) _).alloc (by simp) _) (Nat.le_succ _) _
  have rz : VRow (((w.alloc (.cells zRow.toArray 77)).alloc (.cells zRow.toArray 77)).setRow (w.heap.size + 1) k0Row.toArray) w.heap.size 77 zRow := R0.out.below (below_setRow ((Below.refl (w.heap.size + 1) _).alloc (by simp) _) (Nat.le_refl _) _) (Nat.lt_succ_self _)
  have hr2 := HR.out.below b1 hg
  have m0 : (((w.alloc (.cells #[.int .i64 0, .int .u32 0, .int .u32 0, .int .u32 0, .int .u32 0, .int .u32 0, .int .u32 0, .int .u32 0, .int .u32 0, .nilFunc] 77)).alloc (.cells #[.int .i64 0, .int .u32 0, .int .u32 0, .int .u32 0, .int .u32 0, .int .u32 0, .int .u32 0, .int .u32 0, .int .u32 0, .nilFunc] 77)).setRow (w.heap.size + 1) k0Row.toArray).cell? ⟨2, 0, none⟩ = some (.int .u64 0x6a09e667f3bcc908) := hr2.2 0 _ rfl
  have m1 : (((w.alloc (.cells #[.int .i64 0, .int .u32 0, .int .u32 0, .int .u32 0, .int .u32 0, .int .u32 0, .int .u32 0, .int .u32 0, .int .u32 0, .nilFunc] 77)).alloc (.cells #[.int .i64 0, .int .u32 0, .int .u32 0, .int .u32 0, .int .u32 0, .int .u32 0, .int .u32 0, .int .u32 0, .int .u32 0, .nilFunc] 77)).setRow (w.heap.size + 1) k0Row.toArray).cell? ⟨2, 1, none⟩ = some (.int .u64 0xbb67ae8584caa73b) := hr2.2 1 _ rfl
  have m2 : (((w.alloc (.cells #[.int .i64 0, .int .u32 0, .int .u32 0, .int .u32 0, .int .u32 0, .int .u32 0, .int .u32 0, .int .u32 0, .int .u32 0, .nilFunc] 77)).alloc (.cells #[.int .i64 0, .int .u32 0, .int .u32 0, .int .u32 0, .int .u32 0, .int .u32 0, .int .u32 0, .int .u32 0, .int .u32 0, .nilFunc] 77)).setRow (w.heap.size + 1) k0Row.toArray).cell? ⟨2, 2, none⟩ = some (.int .u64 0x3c6ef372fe94f82b) := hr2.2 2 _ rfl
  have m3 : (((w.alloc (.cells #[.int .i64 0, .int .u32 0, .int .u32 0, .int .u32 0, .int .u32 0, .int .u32 0, .int .u32 0, .int .u32 0, .int .u32 0, .nilFunc] 77)).alloc (.cells #[.int .i64 0, .int .u32 0, .int .u32 0, .int .u32 0, .int .u32 0, .int .u32 0, .int .u32 0, .int .u32 0, .int .u32 0, .nilFunc] 77)).setRow (w.heap.size + 1) k0Row.toArray).cell? ⟨2, 3, none⟩ = some (.int .u64 0xa54ff53a5f1d36f1) := hr2.2 3 _ rfl
  have m4 : (((w.alloc (.cells #[.int .i64 0, .int .u32 0, .int .u32 0, .int .u32 0, .int .u32 0, .int .u32 0, .int .u32 0, .int .u32 0, .int .u32 0, .nilFunc] 77)).alloc (.cells #[.int .i64 0, .int .u32 0, .int .u32 0, .int .u32 0, .int .u32 0, .int .u32 0, .int .u32 0, .int .u32 0, .int .u32 0, .nilFunc] 77)).setRow (w.heap.size + 1) k0Row.toArray).cell? ⟨2, 4, none⟩ = some (.int .u64 0x510e527fade682d1) := hr2.2 4 _ rfl
  have m5 : (((w.alloc (.cells #[.int .i64 0, .int .u32 0, .int .u32 0, .int .u32 0, .int .u32 0, .int .u32 0, .int .u32 0, .int .u32 0, .int .u32 0, .nilFunc] 77)).alloc (.cells #[.int .i64 0, .int .u32 0, .int .u32 0, .int .u32 0, .int .u32 0, .int .u32 0, .int .u32 0, .int .u32 0, .int .u32 0, .nilFunc] 77)).setRow (w.heap.size + 1) k0Row.toArray).cell? ⟨2, 5, none⟩ = some (.int .u64 0x9b05688c2b3e6c1f) := hr2.2 5 _ rfl
  have m6 : (((w.alloc (.cells #[.int .i64 0, .int .u32 0, .int .u32 0, .int .u32 0, .int .u32 0, .int .u32 0, .int .u32 0, .int .u32 0, .int .u32 0, .nilFunc] 77)).alloc (.cells #[.int .i64 0, .int .u32 0, .int .u32 0, .int .u32 0, .int .u32 0, .int .u32 0, .int .u32 0, .int .u32 0, .int .u32 0, .nilFunc] 77)).setRow (w.heap.size + 1) k0Row.toArray).cell? ⟨2, 6, none⟩ = some (.int .u64 0x1f83d9abfb41bd6b) := hr2.2 6 _ rfl
  have m7 : (((w.alloc (.cells #[.int .i64 0, .int .u32 0, .int .u32 0, .int .u32 0, .int .u32 0, .int .u32 0, .int .u32 0, .int .u32 0, .int .u32 0, .nilFunc] 77)).alloc (.cells #[.int .i64 0, .int .u32 0, .int .u32 0, .int .u32 0, .int .u32 0, .int .u32 0, .int .u32 0, .int .u32 0, .int .u32 0, .nilFunc] 77)).setRow (w.heap.size + 1) k0Row.toArray).cell? ⟨2, 7, none⟩ = some (.int .u64 0x5be0cd19137e2179) := hr2.2 7 _ rfl
  have HRK := Lib.hid rk
  have HB1 := Lib.hid b1
  have HRZ := Lib.hid rz
  clear hr2 rk b1 rz
  go_wp2_with (first
    | (refine wpList_store_vrow rfl 77 (.tmp 1) (.tmp 4) rfl (g := w.heap.size + 1) (t := 77) (vs := zRow) (us := k0Row) rfl rfl R1.out info_kind rfl k0Row_one ?_))
  clear k0 k1 k2 k3 k4 k5 k6 k7 m0 m1 m2 m3 m4 m5 m6 m7
  go_loopw [6] (fun j wr => ∃ i : Nat, i ≤ 8 ∧ j = .int .i64 i ∧ VRow wr (w.heap.size + 1) 77 (kRow i) ∧ VRow wr w.heap.size 77 zRow ∧ Below w.heap.size w wr) (fun j _ => 8 - (intOf j).toNat)
  case atStart => exact ⟨0, by omega, rfl, HRK.out, HRZ.out, HB1.out⟩
  case round =>
    obtain ⟨i, hi, rfl, hra, hrb, hbel⟩ := hrel
    by_cases h8 : i < 8
    · obtain ⟨v, hv, hv0, hv1, hix⟩ := root8 h8
      have hat := hra.cell (kRow_at h8)
      have hset := hra.set (1 + i) (.int .u32 (h256.getD i 0))
      rw [kRow_next h8, ← hv] at hset
      have hfr := hra.free (1 + i)
      have b8 : (i : Int) < 8 := by omega
      have hm : v / 4294967296 % 4294967296 = v / 4294967296 := Int.emod_eq_of_lt hv0 hv1
      have HSET := Lib.hid hset
      have HRB2 := Lib.hid hrb
      have HBEL2 := Lib.hid hbel
      clear hv hset hra hrb hbel
      go_wp2_with fail
      refine ⟨⟨i + 1, by omega, by go_num, HSET.out, ?_, ?_⟩, by simp [intOf]; omega⟩
      · exact (Below.heap_setCell wr _ _ _ (by intro h; have h' : w.heap.size = w.heap.size + 1 := h; omega)).trans HRB2.out
      · have h := HBEL2.out.setCell (p := ⟨w.heap.size + 1, 1 + i, none⟩) (Nat.le_succ _) (.int .u32 (v / 4294967296))
        exact ⟨h.os, h.tape, h.output, h.size, h.block⟩
    · obtain rfl : i = 8 := by omega
      have h8' : ((8 : Nat) : Int) = 8 := rfl
      rw [h8']
      have HRA3 := Lib.hid hra
      have HRB3 := Lib.hid hrb
      have HFIN := Lib.hid (hrb.setRow (kRow 8))
      have HBF := Lib.hid (below_setRow hbel (Nat.le_refl _) (kRow 8).toArray)
      clear h8' hra hrb hbel hi h8
      go_wp2_with (first
        | (refine wpList_load_vrow rfl 77 (.tmp 1) rfl (g := w.heap.size + 1) (t := 77) (vs := kRow 8) rfl HRA3.out Tryd.underlying77 info_kind ?_)
        | (refine wpList_store_vrow rfl 77 (.tmp 0) (.tmp 17) rfl (g := w.heap.size) (t := 77) (vs := zRow) (us := kRow 8) rfl rfl HRB3.out info_kind rfl kRow_one ?_))
      refine bodyPost_ret (v := .agg (kRow 8).toArray) ?_ rfl ⟨rfl, HBF.out⟩
      obtain ⟨fr, hrw⟩ : ∃ fr, (wr.setRow w.heap.size (kRow 8).toArray).heap[w.heap.size]? = some (.cells (kRow 8).toArray 77 fr) := ⟨_, HFIN.out⟩
      exact results_cell_row Tryd.results45 _ _ w.heap.size 77 (kRow 8).toArray fr _ rfl hrw Tryd.underlying77 rfl info_kind
end Go.Proofs.YtehodjbjioepnaaDoor

/-
  hash.padding at a block of 64 bytes and a room of 8, walked. Conditions: the size stays below 2^60.
-/
namespace Go.Proofs.YtehodjbjioepnaaDoor
open Go.RowKit

def lenI (n i : Nat) : List Int := (List.range 8).map fun j => if 8 - i ≤ j then (8 * (n : Int) / 2 ^ (8 * (7 - j))) % 256 else 0
def padI (n z i : Nat) : List Int := (128 :: List.replicate z 0) ++ lenI n i
theorem padI_length (n z i : Nat) : (padI n z i).length = z + 9 := by unfold padI lenI; simp
theorem lenI_next {n i : Nat} (hi : i < 8) : (lenI n i).set (7 - i) ((8 * (n : Int) / 2 ^ (8 * i)) % 256) = lenI n (i + 1) := by
  obtain rfl | rfl | rfl | rfl | rfl | rfl | rfl | rfl : i = 0 ∨ i = 1 ∨ i = 2 ∨ i = 3 ∨ i = 4 ∨ i = 5 ∨ i = 6 ∨ i = 7 := by omega
  all_goals (unfold lenI; simp [List.range_succ])
theorem lenI_at {n i : Nat} (hi : i < 8) : (lenI n i)[7 - i]? = some 0 := by
  obtain rfl | rfl | rfl | rfl | rfl | rfl | rfl | rfl : i = 0 ∨ i = 1 ∨ i = 2 ∨ i = 3 ∨ i = 4 ∨ i = 5 ∨ i = 6 ∨ i = 7 := by omega
  all_goals (unfold lenI; simp [List.range_succ])
theorem padI_next {n z i : Nat} (hi : i < 8) : (padI n z i).set (z + 8 - i) ((8 * (n : Int) / 2 ^ (8 * i)) % 256) = padI n z (i + 1) := by
  unfold padI
  rw [List.set_append_right _ _ (by simp; omega)]
  have e : z + 8 - i - (128 :: List.replicate z (0 : Int)).length = 7 - i := by simp; omega
  rw [e, lenI_next hi]
theorem padI_at {n z i : Nat} (hi : i < 8) : (padI n z i)[z + 8 - i]? = some 0 := by
  unfold padI
  rw [List.getElem?_append_right (by simp; omega)]
  have e : z + 8 - i - (128 :: List.replicate z (0 : Int)).length = 7 - i := by simp; omega
  rw [e, lenI_at hi]

theorem padI_zero (n z : Nat) : (List.replicate (z + 9) (0 : Int)).set 0 128 = padI n z 0 := by
  rw [List.replicate_succ, List.set_cons_zero, List.replicate_append_replicate (n := z) (m := 8) (a := (0 : Int)) |>.symm]
  rfl
set_option maxRecDepth 100000 in
set_option maxHeartbeats 3200000 in
theorem padding_any (n z : Nat) (w : World) (hn : n < 1152921504606846976) (hz : z = (119 - n % 64) % 64) :
    Calls Tryd.prog 46 #[.int .u64 n, .int .i64 64, .int .i64 8] w fun e w' => ∃ g, e = .returned (.slice (some ⟨g, 0, none⟩) (z + 9) (z + 9)) ∧ IRow w' g 5 .u8 (padI n z 8) ∧ Below w.heap.size w w' ∧ w.heap.size ≤ g := by
  obtain ⟨r, hr⟩ : ∃ r, r = n % 64 := ⟨_, rfl⟩
  have hr64 : r < 64 := by omega
  have e1 : (n : Int) % 64 = (r : Int) := by omega
  have hz2 : z = (119 - r) % 64 := by rw [hr]; exact hz
  have hzl : z < 64 := by omega
  have HZ := Lib.hid hz2
  have HN := Lib.hid hn
  clear hz hr hz2 hn
  go_enter Tryd.func46, Tryd.ntmps46
  have e3 : (128 - ((r : Int) + 1 + 8)) % 64 = (z : Int) := by have := HZ.out; omega
  obtain ⟨L, hL⟩ : ∃ L, L = z + 9 := ⟨_, rfl⟩
  have e4 : 1 + (z : Int) + 8 = (L : Int) := by omega
  have hmk := fun W => make_bytes W L (L : Int) rfl (by omega)
  have bL : (0 : Int) < (L : Int) := by omega
  have zr : zeroRow L = ((List.replicate L (0 : Int)).map (Value.int .u8)).toArray := by unfold zeroRow; rw [List.map_replicate, List.map_replicate]; rfl
  have r1 : IRow (w.alloc (.cells (zeroRow L) 5)) w.heap.size 5 .u8 (List.replicate L 0) := by rw [zr]; exact IRow.new w _ _ _
  have c0 := r1.cell (i := 0) (z := 0) (by rw [List.getElem?_replicate, if_pos (by omega)])
  have f0 := r1.free 0
  have r2 : IRow (w.alloc (.cells ((zeroRow L).setIfInBounds 0 (.int .u8 128)) 5)) w.heap.size 5 .u8 (padI n z 0) := by
    have h := IRow.new w 5 .u8 (padI n z 0)
    have e : ((padI n z 0).map (Value.int .u8)).toArray = (zeroRow L).setIfInBounds 0 (.int .u8 128) := by
      rw [← padI_zero, ← hL, zr, List.map_set]
      exact (List.setIfInBounds_toArray _ _ _).symm
    rw [e] at h
    exact h
  have b1 : Below w.heap.size w (w.alloc (.cells ((zeroRow L).setIfInBounds 0 (.int .u8 128)) 5)) := (Below.refl _ w).alloc (Nat.le_refl _) _
  have HR2 := Lib.hid r2
  have HB1 := Lib.hid b1
  have HL := Lib.hid hL
  clear r1 r2 b1 hL zr
  go_wp2_with fail
  go_loopw [32] (fun j wr => ∃ i : Nat, i ≤ 8 ∧ j = .int .i64 i ∧ IRow wr w.heap.size 5 .u8 (padI n z i) ∧ Below w.heap.size w wr) (fun j _ => 8 - (intOf j).toNat)
  case atStart => exact ⟨0, by omega, rfl, HR2.out, HB1.out⟩
  case round =>
    obtain ⟨i, hi, rfl, hra, hbel⟩ := hrel
    by_cases h8 : i < 8
    · obtain ⟨k, hk⟩ : ∃ k, k = z + 8 - i := ⟨_, rfl⟩
      have hat := hra.cell (padI_at h8)
      have hset := hra.set (z + 8 - i) ((8 * (n : Int) / 2 ^ (8 * i)) % 256)
      rw [padI_next h8] at hset
      have hfr := hra.free (z + 8 - i)
      rw [← hk] at hat hset hfr
      have hki : (L : Int) - 1 - (i : Int) = (k : Int) := by have := HL.out; omega
      have hkL : (k : Int) < (L : Int) := by have := HL.out; omega
      have b8 : (i : Int) < 8 := by omega
      have HSET := Lib.hid hset
      have HBEL2 := Lib.hid hbel
      clear hset hra hbel hk
      go_wp2_with fail
      have hw : IntKind.u64.wrap ((n : Int) * 8) = 8 * (n : Int) := by
        have := HN.out
        have e : IntKind.u64.wrap ((n : Int) * 8) = ((n : Int) * 8) % 18446744073709551616 := by simp [IntKind.wrap, IntKind.bits, IntKind.signed]
        rw [e]
        omega
      rw [hw]
      refine ⟨⟨i + 1, by omega, by go_num, HSET.out, ?_⟩, by simp [intOf]; omega⟩
      exact HBEL2.out.setCell (p := ⟨w.heap.size, k, none⟩) (Nat.le_refl _) _
    · obtain rfl : i = 8 := by omega
      have h8' : ((8 : Nat) : Int) = 8 := rfl
      rw [h8']
      have HRA := Lib.hid hra
      have HBEL := Lib.hid hbel
      clear h8' hra hbel hi h8
      go_wp2_with fail
      go_ret
      rw [← HL.out]
      exact ⟨_, rfl, HRA.out, HBEL.out, Nat.le_refl _⟩
end Go.Proofs.YtehodjbjioepnaaDoor
