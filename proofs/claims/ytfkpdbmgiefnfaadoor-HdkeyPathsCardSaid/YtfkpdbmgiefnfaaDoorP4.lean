/-
  Texts joined: Step256, Kind256, Padding. Conditions: those of each.
-/
import Derived.Test.YtfkpdbmgiefnfaaDoorP3
import Derived.Laws.CopyRow
/-
  hash.step256, walked. Conditions: the block has 64 bytes; the words are of 32 bits; the roots are laid.
-/
namespace Go.Proofs.YtfkpdbmgiefnfaaDoor
open Go.RowKit

/-- The 80 constants of 64 bits. -/
def k512 : List Int := [0x428a2f98d728ae22, 0x7137449123ef65cd, 0xb5c0fbcfec4d3b2f, 0xe9b5dba58189dbbc,
0x3956c25bf348b538, 0x59f111f1b605d019, 0x923f82a4af194f9b, 0xab1c5ed5da6d8118,
0xd807aa98a3030242, 0x12835b0145706fbe, 0x243185be4ee4b28c, 0x550c7dc3d5ffb4e2,
0x72be5d74f27b896f, 0x80deb1fe3b1696b1, 0x9bdc06a725c71235, 0xc19bf174cf692694,
0xe49b69c19ef14ad2, 0xefbe4786384f25e3, 0x0fc19dc68b8cd5b5, 0x240ca1cc77ac9c65,
0x2de92c6f592b0275, 0x4a7484aa6ea6e483, 0x5cb0a9dcbd41fbd4, 0x76f988da831153b5,
0x983e5152ee66dfab, 0xa831c66d2db43210, 0xb00327c898fb213f, 0xbf597fc7beef0ee4,
0xc6e00bf33da88fc2, 0xd5a79147930aa725, 0x06ca6351e003826f, 0x142929670a0e6e70,
0x27b70a8546d22ffc, 0x2e1b21385c26c926, 0x4d2c6dfc5ac42aed, 0x53380d139d95b3df,
0x650a73548baf63de, 0x766a0abb3c77b2a8, 0x81c2c92e47edaee6, 0x92722c851482353b,
0xa2bfe8a14cf10364, 0xa81a664bbc423001, 0xc24b8b70d0f89791, 0xc76c51a30654be30,
0xd192e819d6ef5218, 0xd69906245565a910, 0xf40e35855771202a, 0x106aa07032bbd1b8,
0x19a4c116b8d2d0c8, 0x1e376c085141ab53, 0x2748774cdf8eeb99, 0x34b0bcb5e19b48a8,
0x391c0cb3c5c95a63, 0x4ed8aa4ae3418acb, 0x5b9cca4f7763e373, 0x682e6ff3d6b2b8a3,
0x748f82ee5defb2fc, 0x78a5636f43172f60, 0x84c87814a1f0ab72, 0x8cc702081a6439ec,
0x90befffa23631e28, 0xa4506cebde82bde9, 0xbef9a3f7b2c67915, 0xc67178f2e372532b,
0xca273eceea26619c, 0xd186b8c721c0c207, 0xeada7dd6cde0eb1e, 0xf57d4f7fee6ed178,
0x06f067aa72176fba, 0x0a637dc5a2c898a6, 0x113f9804bef90dae, 0x1b710b35131c471b,
0x28db77f523047d84, 0x32caab7b40c72493, 0x3c9ebe0a15c9bebc, 0x431d67c49c100d4c,
0x4cc5d4becb3e42b6, 0x597f299cfc657e2a, 0x5fcb6fab3ad6faec, 0x6c44198c4a475817]
theorem k256_of : k256 = (k512.take 64).map (· / 4294967296) := by decide
/-- The roots lie in the program's memory. -/
def CubeIs (w : World) : Prop := 2 < w.heap.size ∧ ∀ (t : Nat) (k : Int), k512[t]? = some k → w.cell? ⟨2, t, none⟩ = some (.int .u64 k)
theorem CubeIs.below {w w' : World} {B : Nat} (h : CubeIs w) (hb : Below B w w') (hB : 2 < B) : CubeIs w' := by
  refine ⟨Nat.lt_of_lt_of_le h.1 hb.size, fun t k hk => ?_⟩
  exact (hb.cell (p := ⟨2, t, none⟩) hB).trans (h.2 t k hk)
theorem k512_at {t : Nat} (h : t < 64) : ∃ k, k512[t]? = some k ∧ k256.getD t 0 = k / 4294967296 ∧ 0 ≤ k ∧ k < 18446744073709551616 := by
  have hl : k512.length = 80 := rfl
  refine ⟨k512[t]'(by omega), List.getElem?_eq_getElem _, ?_, ?_⟩
  · rw [k256_of, List.getD_eq_getElem?_getD, List.getElem?_map, List.getElem?_take, if_pos h, List.getElem?_eq_getElem (by omega)]
    rfl
  · have h2 : ∀ x ∈ k512, 0 ≤ x ∧ x < 18446744073709551616 := by decide
    exact h2 _ (List.getElem_mem _)
theorem info_8 : (Tryd.prog.info? 75).map (·.size) = some 8 := by kernel_rfl

/-- The first i words with what a block gives them. -/
def mix (l v : List Int) (i : Nat) : List Int := (List.range 8).map fun k => if k < i then add32 (l.getD k 0) (v.getD k 0) else l.getD k 0
theorem idx8 (a b c d e f g h : Int) {i : Nat} (hi : i < 8) : ∃ v, [a, b, c, d, e, f, g, h][i]? = some v ∧ ∀ w, (Instr.index 75 (.agg #[.int .u32 a, .int .u32 b, .int .u32 c, .int .u32 d, .int .u32 e, .int .u32 f, .int .u32 g, .int .u32 h]) (.int .i64 i)).run Tryd.prog w = .ok (.int .u32 v) w := by
  obtain rfl | rfl | rfl | rfl | rfl | rfl | rfl | rfl : i = 0 ∨ i = 1 ∨ i = 2 ∨ i = 3 ∨ i = 4 ∨ i = 5 ∨ i = 6 ∨ i = 7 := by omega
  · exact ⟨_, rfl, fun w => by kernel_rfl⟩
  · exact ⟨_, rfl, fun w => by kernel_rfl⟩
  · exact ⟨_, rfl, fun w => by kernel_rfl⟩
  · exact ⟨_, rfl, fun w => by kernel_rfl⟩
  · exact ⟨_, rfl, fun w => by kernel_rfl⟩
  · exact ⟨_, rfl, fun w => by kernel_rfl⟩
  · exact ⟨_, rfl, fun w => by kernel_rfl⟩
  · exact ⟨_, rfl, fun w => by kernel_rfl⟩
theorem mix_at (l v : List Int) {i : Nat} (hi : i < 8) : (mix l v i)[i]? = some (l.getD i 0) := by
  obtain rfl | rfl | rfl | rfl | rfl | rfl | rfl | rfl : i = 0 ∨ i = 1 ∨ i = 2 ∨ i = 3 ∨ i = 4 ∨ i = 5 ∨ i = 6 ∨ i = 7 := by omega
  all_goals rfl
theorem mix_next (l v : List Int) {i : Nat} (hi : i < 8) : (mix l v i).set i (add32 (l.getD i 0) (v.getD i 0)) = mix l v (i + 1) := by
  obtain rfl | rfl | rfl | rfl | rfl | rfl | rfl | rfl : i = 0 ∨ i = 1 ∨ i = 2 ∨ i = 3 ∨ i = 4 ∨ i = 5 ∨ i = 6 ∨ i = 7 := by omega
  all_goals rfl
end Go.Proofs.YtfkpdbmgiefnfaaDoor

/-
  hash.kind256, walked. Conditions: the roots are laid.
-/
namespace Go.Proofs.YtfkpdbmgiefnfaaDoor
open Go.RowKit

/-- Block g holds these values, and may be written. -/
def VRow (w : World) (g : Nat) (t : TypeId) (vs : List Value) : Prop := w.heap[g]? = some (.cells vs.toArray t (0, 0))
section
variable {w w' : World} {g : Nat} {t : TypeId} {vs : List Value}
theorem VRow.lt (h : VRow w g t vs) : g < w.heap.size := (Array.getElem?_eq_some_iff.1 h).1
theorem VRow.cell (h : VRow w g t vs) {i : Nat} {z : Value} (hi : vs[i]? = some z) : w.cell? ⟨g, i, none⟩ = some z := by
  rw [cell_of_row w g i _ _ _ h]
  simp [hi]
theorem VRow.free (h : VRow w g t vs) (i : Nat) : w.frozen? ⟨g, i, none⟩ = false := by
  unfold VRow at h
  simp [World.frozen?, h]
theorem VRow.set (h : VRow w g t vs) (i : Nat) (z : Value) : VRow (w.setCell ⟨g, i, none⟩ z) g t (vs.set i z) := by
  unfold VRow at h ⊢
  simp [World.setCell, Array.getElem?_modify, h]
theorem VRow.below {B : Nat} (h : VRow w g t vs) (hb : Below B w w') (hg : g < B) : VRow w' g t vs := (hb.block g hg).trans h
theorem VRow.new (w : World) (t : TypeId) (vs : List Value) : VRow (w.alloc (.cells vs.toArray t)) w.heap.size t vs := heap_alloc_new w _
theorem VRow.setRow (h : VRow w g t vs) (us : List Value) : VRow (w.setRow g us.toArray) g t us := by
  unfold VRow at h ⊢
  simp [World.setRow, Array.getElem?_modify, h]
end
theorem wpList_load_vrow {ops : Array Oper} {rest : List Oper} {op : Oper} {a : Act} {w : World} {Q : Exit → Act → World → Prop} (hgd : op.guard = none) (ty : TypeId) (x : Operand) (ho : op.op = .load ty x)
    {g : Nat} {t : TypeId} {vs : List Value} {fs : Array Field} (hx : a.eval x = .pointer (some ⟨g, 0, none⟩)) (h : VRow w g t vs) (hu : Tryd.prog.underlying ty = some (.struct fs)) (hi : (Tryd.prog.info? ty).map (·.size) = some vs.length)
    (hn : wpList Tryd.prog ops Q rest (a.put op.dst (.agg vs.toArray)) w) : wpList Tryd.prog ops Q (op :: rest) a w :=
  wpList_load_row hgd ty x ho g hx t vs.toArray (0, 0) (.struct fs) h hu rfl (by rw [hi, List.size_toArray]) hn
theorem wpList_store_vrow {ops : Array Oper} {rest : List Oper} {op : Oper} {a : Act} {w : World} {Q : Exit → Act → World → Prop} (hgd : op.guard = none) (ty : TypeId) (x y : Operand) (ho : op.op = .store ty x y)
    {g : Nat} {t : TypeId} {vs us : List Value} (hx : a.eval x = .pointer (some ⟨g, 0, none⟩)) (hy : a.eval y = .agg us.toArray) (h : VRow w g t vs) (hi : (Tryd.prog.info? ty).map (·.size) = some us.length) (hl : vs.length = us.length) (h1 : us.toArray.all (·.oneCell') = true)
    (hn : wpList Tryd.prog ops Q rest (a.put op.dst undef) (w.setRow g us.toArray)) : wpList Tryd.prog ops Q (op :: rest) a w :=
  wpList_plain hgd fun K hK => by
    unfold Oper.wp execOp
    have hst : (Instr.storeAt ty (.pointer (some ⟨g, 0, none⟩)) (.agg us.toArray)).run Tryd.prog w = .ok () (w.setRow g us.toArray) := by
      simp only [Instr.storeAt, Instr.sureAddr, Sem.run_bind, Sem.run_pure, Result.andThen_ok]
      exact run_storeVar_row w g t ty _ _ h (by rw [hi]; simp) (by simp [hl]) h1
    simp only [ho, hx, hy, hst, Sem.run_bind, Sem.run_pure, Result.andThen_ok]
    exact hK _ _ hn

def s512 : List Int := [0x6a09e667f3bcc908, 0xbb67ae8584caa73b, 0x3c6ef372fe94f82b, 0xa54ff53a5f1d36f1, 0x510e527fade682d1, 0x9b05688c2b3e6c1f, 0x1f83d9abfb41bd6b, 0x5be0cd19137e2179]
/-- The square roots lie in the program's memory. -/
def RootIs (w : World) : Prop := 0 < w.heap.size ∧ ∀ (t : Nat) (k : Int), s512[t]? = some k → w.cell? ⟨0, t, none⟩ = some (.int .u64 k)
theorem RootIs.below {w w' : World} {B : Nat} (h : RootIs w) (hb : Below B w w') (hB : 0 < B) : RootIs w' := by
  refine ⟨Nat.lt_of_lt_of_le h.1 hb.size, fun t k hk => ?_⟩
  exact (hb.cell (p := ⟨0, t, none⟩) hB).trans (h.2 t k hk)

def zRow : List Value := [.int .i64 0, .int .u32 0, .int .u32 0, .int .u32 0, .int .u32 0, .int .u32 0, .int .u32 0, .int .u32 0, .int .u32 0, .nilFunc]
theorem root8 {i : Nat} (hi : i < 8) : ∃ v, v / 4294967296 = h256.getD i 0 ∧ 0 ≤ v / 4294967296 ∧ v / 4294967296 < 4294967296 ∧ ∀ w, (Instr.index 90 (.agg #[.int .u64 0x6a09e667f3bcc908, .int .u64 0xbb67ae8584caa73b, .int .u64 0x3c6ef372fe94f82b, .int .u64 0xa54ff53a5f1d36f1, .int .u64 0x510e527fade682d1, .int .u64 0x9b05688c2b3e6c1f, .int .u64 0x1f83d9abfb41bd6b, .int .u64 0x5be0cd19137e2179]) (.int .i64 i)).run Tryd.prog w = .ok (.int .u64 v) w := by
  obtain rfl | rfl | rfl | rfl | rfl | rfl | rfl | rfl : i = 0 ∨ i = 1 ∨ i = 2 ∨ i = 3 ∨ i = 4 ∨ i = 5 ∨ i = 6 ∨ i = 7 := by omega
  · exact ⟨0x6a09e667f3bcc908, rfl, by decide, by decide, fun w => by kernel_rfl⟩
  · exact ⟨0xbb67ae8584caa73b, rfl, by decide, by decide, fun w => by kernel_rfl⟩
  · exact ⟨0x3c6ef372fe94f82b, rfl, by decide, by decide, fun w => by kernel_rfl⟩
  · exact ⟨0xa54ff53a5f1d36f1, rfl, by decide, by decide, fun w => by kernel_rfl⟩
  · exact ⟨0x510e527fade682d1, rfl, by decide, by decide, fun w => by kernel_rfl⟩
  · exact ⟨0x9b05688c2b3e6c1f, rfl, by decide, by decide, fun w => by kernel_rfl⟩
  · exact ⟨0x1f83d9abfb41bd6b, rfl, by decide, by decide, fun w => by kernel_rfl⟩
  · exact ⟨0x5be0cd19137e2179, rfl, by decide, by decide, fun w => by kernel_rfl⟩
end Go.Proofs.YtfkpdbmgiefnfaaDoor

/-
  hash.padding at a block of 64 bytes and a room of 8, walked. Conditions: the size stays below 2^60.
-/
namespace Go.Proofs.YtfkpdbmgiefnfaaDoor
open Go.RowKit

def lenI (n i : Nat) : List Int := (List.range 8).map fun j => if 8 - i ≤ j then (8 * (n : Int) / 2 ^ (8 * (7 - j))) % 256 else 0
def padI (n z i : Nat) : List Int := (128 :: List.replicate z 0) ++ lenI n i
theorem padI_length (n z i : Nat) : (padI n z i).length = z + 9 := by unfold padI lenI; simp
theorem lenI_next {n i : Nat} (hi : i < 8) : (lenI n i).set (7 - i) ((8 * (n : Int) / 2 ^ (8 * i)) % 256) = lenI n (i + 1) := by
  obtain rfl | rfl | rfl | rfl | rfl | rfl | rfl | rfl : i = 0 ∨ i = 1 ∨ i = 2 ∨ i = 3 ∨ i = 4 ∨ i = 5 ∨ i = 6 ∨ i = 7 := by omega
  all_goals (unfold lenI; simp [List.range_succ])
theorem lenI_at {n i : Nat} (hi : i < 8) : (lenI n i)[7 - i]? = some 0 := by
  obtain rfl | rfl | rfl | rfl | rfl | rfl | rfl | rfl : i = 0 ∨ i = 1 ∨ i = 2 ∨ i = 3 ∨ i = 4 ∨ i = 5 ∨ i = 6 ∨ i = 7 := by omega
  all_goals (unfold lenI; simp [List.range_succ])
theorem padI_next {n z i : Nat} (hi : i < 8) : (padI n z i).set (z + 8 - i) ((8 * (n : Int) / 2 ^ (8 * i)) % 256) = padI n z (i + 1) := by
  unfold padI
  rw [List.set_append_right _ _ (by simp; omega)]
  have e : z + 8 - i - (128 :: List.replicate z (0 : Int)).length = 7 - i := by simp; omega
  rw [e, lenI_next hi]
theorem padI_at {n z i : Nat} (hi : i < 8) : (padI n z i)[z + 8 - i]? = some 0 := by
  unfold padI
  rw [List.getElem?_append_right (by simp; omega)]
  have e : z + 8 - i - (128 :: List.replicate z (0 : Int)).length = 7 - i := by simp; omega
  rw [e, lenI_at hi]

theorem padI_zero (n z : Nat) : (List.replicate (z + 9) (0 : Int)).set 0 128 = padI n z 0 := by
  rw [List.replicate_succ, List.set_cons_zero, List.replicate_append_replicate (n := z) (m := 8) (a := (0 : Int)) |>.symm]
  rfl
set_option maxRecDepth 100000 in
set_option maxHeartbeats 3200000 in
theorem padding_any (n z : Nat) (w : World) (hn : n < 1152921504606846976) (hz : z = (119 - n % 64) % 64) :
    Calls Tryd.prog 44 #[.int .u64 n, .int .i64 64, .int .i64 8] w fun e w' => ∃ g, e = .returned (.slice (some ⟨g, 0, none⟩) (z + 9) (z + 9)) ∧ IRow w' g 5 .u8 (padI n z 8) ∧ Below w.heap.size w w' ∧ w.heap.size ≤ g := by
  obtain ⟨r, hr⟩ : ∃ r, r = n % 64 := ⟨_, rfl⟩
  have hr64 : r < 64 := by omega
  have e1 : (n : Int) % 64 = (r : Int) := by omega
  have hz2 : z = (119 - r) % 64 := by rw [hr]; exact hz
  have hzl : z < 64 := by omega
  have HZ := Lib.hid hz2
  have HN := Lib.hid hn
  clear hz hr hz2 hn
  go_enter Tryd.func44, Tryd.ntmps44
  have e3 : (128 - ((r : Int) + 1 + 8)) % 64 = (z : Int) := by have := HZ.out; omega
  obtain ⟨L, hL⟩ : ∃ L, L = z + 9 := ⟨_, rfl⟩
  have e4 : 1 + (z : Int) + 8 = (L : Int) := by omega
  have hmk := fun W => make_bytes W L (L : Int) rfl (by omega)
  have bL : (0 : Int) < (L : Int) := by omega
  have zr : zeroRow L = ((List.replicate L (0 : Int)).map (Value.int .u8)).toArray := by unfold zeroRow; rw [List.map_replicate, List.map_replicate]; rfl
  have r1 : IRow (w.alloc (.cells (zeroRow L) 5)) w.heap.size 5 .u8 (List.replicate L 0) := by rw [zr]; exact IRow.new w _ _ _
  have c0 := r1.cell (i := 0) (z := 0) (by rw [List.getElem?_replicate, if_pos (by omega)])
  have f0 := r1.free 0
  have r2 : IRow (w.alloc (.cells ((zeroRow L).setIfInBounds 0 (.int .u8 128)) 5)) w.heap.size 5 .u8 (padI n z 0) := by
    have h := IRow.new w 5 .u8 (padI n z 0)
    have e : ((padI n z 0).map (Value.int .u8)).toArray = (zeroRow L).setIfInBounds 0 (.int .u8 128) := by
      rw [← padI_zero, ← hL, zr, List.map_set]
      exact (List.setIfInBounds_toArray _ _ _).symm
    rw [e] at h
    exact h
  have b1 : Below w.heap.size w (w.alloc (.cells ((zeroRow L).setIfInBounds 0 (.int .u8 128)) 5)) := (Below.refl _ w).alloc (Nat.le_refl _) _
  have HR2 := Lib.hid r2
  have HB1 := Lib.hid b1
  have HL := Lib.hid hL
  clear r1 r2 b1 hL zr
  go_wp2_with fail
  go_loopw [32] (fun j wr => ∃ i : Nat, i ≤ 8 ∧ j = .int .i64 i ∧ IRow wr w.heap.size 5 .u8 (padI n z i) ∧ Below w.heap.size w wr) (fun j _ => 8 - (intOf j).toNat)
  case atStart => exact ⟨0, by omega, rfl, HR2.out, HB1.out⟩
  case round =>
    obtain ⟨i, hi, rfl, hra, hbel⟩ := hrel
    by_cases h8 : i < 8
    · obtain ⟨k, hk⟩ : ∃ k, k = z + 8 - i := ⟨_, rfl⟩
      have hat := hra.cell (padI_at h8)
      have hset := hra.set (z + 8 - i) ((8 * (n : Int) / 2 ^ (8 * i)) % 256)
      rw [padI_next h8] at hset
      have hfr := hra.free (z + 8 - i)
      rw [← hk] at hat hset hfr
      have hki : (L : Int) - 1 - (i : Int) = (k : Int) := by have := HL.out; omega
      have hkL : (k : Int) < (L : Int) := by have := HL.out; omega
      have b8 : (i : Int) < 8 := by omega
      have HSET := Lib.hid hset
      have HBEL2 := Lib.hid hbel
      clear hset hra hbel hk
      go_wp2_with fail
      have hw : IntKind.u64.wrap ((n : Int) * 8) = 8 * (n : Int) := by
        have := HN.out
        have e : IntKind.u64.wrap ((n : Int) * 8) = ((n : Int) * 8) % 18446744073709551616 := by simp [IntKind.wrap, IntKind.bits, IntKind.signed]
        rw [e]
        omega
      rw [hw]
      refine ⟨⟨i + 1, by omega, by go_num, HSET.out, ?_⟩, by simp [intOf]; omega⟩
      exact HBEL2.out.setCell (p := ⟨w.heap.size, k, none⟩) (Nat.le_refl _) _
    · obtain rfl : i = 8 := by omega
      have h8' : ((8 : Nat) : Int) = 8 := rfl
      rw [h8']
      have HRA := Lib.hid hra
      have HBEL := Lib.hid hbel
      clear h8' hra hbel hi h8
      go_wp2_with fail
      go_ret
      rw [← HL.out]
      exact ⟨_, rfl, HRA.out, HBEL.out, Nat.le_refl _⟩
end Go.Proofs.YtfkpdbmgiefnfaaDoor
