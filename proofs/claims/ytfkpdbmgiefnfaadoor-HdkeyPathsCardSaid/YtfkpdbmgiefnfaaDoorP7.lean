/-
  Texts joined: Sum, SumH, HbPad. Conditions: those of each.
-/
import Derived.Test.YtfkpdbmgiefnfaaDoorP6
import Derived.Test.YtfkpdbmgiefnfaaDoorP1
import Derived.Laws.Closers25b
/-
  hash.Sum: Add, Hash; Sum256. Conditions: the sizes stay below 2^60; the roots are laid.
-/
namespace Go.Proofs.YtfkpdbmgiefnfaaDoor
open Go.RowKit

theorem RootIs.turns {S : Nat → Prop} {w w' : World} (h : RootIs w) (ht : Turns S w w') (hS : ¬ S 0) : RootIs w' :=
  ⟨Nat.lt_of_lt_of_le h.1 ht.size, fun t k hk => (ht.cell (p := ⟨0, t, none⟩) h.1 hS).trans (h.2 t k hk)⟩

/-- The roots are laid. -/
structure Roots (w : World) : Prop where
  cube : CubeIs w
  root : RootIs w
theorem Roots.below {w w' : World} (h : Roots w) (hb : Below w.heap.size w w') : Roots w' := ⟨h.cube.below hb h.cube.1, h.root.below hb h.root.1⟩
/-- Block g is none of the roots'. -/
structure Off (g : Nat) : Prop where
  cube : 2 ≠ g
  root : 0 ≠ g
theorem Roots.off {w : World} (h : Roots w) {g : Nat} (hg : w.heap.size ≤ g) : Off g := ⟨by have := h.cube.1; omega, by have := h.root.1; omega⟩
theorem Roots.turns {w w' : World} {g : Nat} (h : Roots w) (ht : Turns (· = g) w w') (hg : Off g) : Roots w' := ⟨h.cube.turns ht hg.cube, h.root.turns ht hg.root⟩

/-- Block g begins with an intake that got the bytes m. -/
def SumIs (w : World) (g : Nat) (t : TypeId) (m : List UInt8) : Prop := ∃ ws rest, Took m ws rest ∧ ws.length = 8 ∧ VRow w g t (inRow ws rest m.length)
theorem SumIs.below {w w' : World} {g : Nat} {t : TypeId} {m : List UInt8} (h : SumIs w g t m) (hb : Below w.heap.size w w') : SumIs w' g t m := by
  obtain ⟨ws, rest, h1, h2, h3⟩ := h
  exact ⟨ws, rest, h1, h2, h3.below hb h3.lt⟩
theorem SumIs.turns {S : Nat → Prop} {w w' : World} {g : Nat} {t : TypeId} {m : List UInt8} (h : SumIs w g t m) (hb : Turns S w w') (hS : ¬ S g) : SumIs w' g t m := by
  obtain ⟨ws, rest, h1, h2, h3⟩ := h
  exact ⟨ws, rest, h1, h2, h3.turns hb hS⟩

end Go.Proofs.YtfkpdbmgiefnfaaDoor

/-
  hash.Sum: Hash. Conditions: the size stays below 2^59; the roots are laid.
-/
namespace Go.Proofs.YtfkpdbmgiefnfaaDoor
open Go.RowKit

/-- A digest as a value. -/
def digV (bs : List UInt8) : Value := .agg ((nums bs).map (Value.int .u8)).toArray
def zIn : List Value := inRow (List.replicate 8 0) (List.replicate 128 0) 0
theorem inRow_one (ws rest : List Int) (n : Nat) : (inRow ws rest n).toArray.all (·.oneCell') = true := by
  refine all_oneCell_toArray fun v hv => ?_
  unfold inRow at hv
  rcases List.mem_append.1 hv with h | h
  · obtain ⟨x, _, rfl⟩ := List.mem_map.1 h; rfl
  · rcases List.mem_append.1 h with h | h
    · obtain ⟨x, _, rfl⟩ := List.mem_map.1 h; rfl
    · rw [List.mem_singleton.1 h]; rfl
theorem S8.mem_ok {s : S8} (h : s.Ok) {x : Int} (hx : x ∈ [s.a, s.b, s.c, s.d, s.e, s.f, s.g, s.h]) : U32 x := by
  simp only [List.mem_cons, List.not_mem_nil, or_false] at hx
  rcases hx with rfl | rfl | rfl | rfl | rfl | rfl | rfl | rfl
  · exact h.a
  · exact h.b
  · exact h.c
  · exact h.d
  · exact h.e
  · exact h.f
  · exact h.g
  · exact h.h
theorem pad_src {w : World} {gp g n z : Nat} (h : IRow w gp 5 .u8 (padI n z 8)) (hz : z = (119 - n % 64) % 64) (hne : g ≠ gp) : Src w g (.slice (some ⟨gp, 0, none⟩) (z + 9) (z + 9)) (padB n) := by
  have e : padI n z 8 = nums (padB n) := by rw [hz]; exact padI_full n
  have hl : (padB n).length = z + 9 := by rw [← nums_length, ← e, padI_length]
  rw [e] at h
  refine ⟨_, z + 9, by rw [hl], by omega, by unfold maxLen; omega, (by intro h; cases h), fun _ => ⟨gp, 0, rfl, h.lt, Ne.symm hne, fun j u hu => ?_⟩⟩
  rw [Nat.zero_add]
  have := h.cell (i := j) (z := (u.toNat : Int)) (by unfold nums; rw [List.getElem?_map, hu]; rfl)
  exact this
end Go.Proofs.YtfkpdbmgiefnfaaDoor

/-
  hash.hmacPad, walked: a key filled up with zeros, each byte turned by the same one. Conditions: the key has at most 128 bytes.
-/
namespace Go.Proofs.YtfkpdbmgiefnfaaDoor
open Go.RowKit

theorem zero_128 (W : World) : (zeroValue 66).run Tryd.prog W = .ok (.agg ((List.replicate 128 (0 : Int)).map (Value.int .u8)).toArray) W := by kernel_rfl
theorem info_128 : (Tryd.prog.info? 66).map (·.size) = some 128 := by kernel_rfl
/-- A byte turned by another. -/
def xorB (a p : UInt8) : UInt8 := b8 (bits .xor .u8 (a.toNat : Int) (p.toNat : Int))
theorem xorB_nat (a p : UInt8) : ((xorB a p).toNat : Int) = bits .xor .u8 (a.toNat : Int) (p.toNat : Int) := by
  have h0 := bits_lo_u8 .xor (a.toNat : Int) (p.toNat : Int)
  have h1 := bits_hi_u8 .xor (a.toNat : Int) (p.toNat : Int)
  unfold xorB
  rw [b8_toNat]
  omega
/-- A key filled up with zeros. -/
def zeroed (key : List UInt8) : List UInt8 := key ++ List.replicate (128 - key.length) 0
/-- A filled key turned by a byte. -/
def padK (key : List UInt8) (p : UInt8) : List UInt8 := (zeroed key).map (fun u => xorB u p)
theorem zeroed_length {key : List UInt8} (h : key.length ≤ 128) : (zeroed key).length = 128 := by
  unfold zeroed
  rw [List.length_append, List.length_replicate]
  omega
theorem padK_length {key : List UInt8} (p : UInt8) (h : key.length ≤ 128) : (padK key p).length = 128 := by
  unfold padK
  rw [List.length_map, zeroed_length h]
theorem mixed_set {xs ys : List UInt8} {i : Nat} {x y : UInt8} (hx : xs[i]? = some x) (hy : ys[i]? = some y) : (nums (xs.take i ++ ys.drop i)).set i (x.toNat : Int) = nums (xs.take (i + 1) ++ ys.drop (i + 1)) := by
  obtain ⟨hxl, hx2⟩ := List.getElem?_eq_some_iff.1 hx
  obtain ⟨hyl, hy2⟩ := List.getElem?_eq_some_iff.1 hy
  have e : ys.drop i = y :: ys.drop (i + 1) := by rw [List.drop_eq_getElem_cons hyl, hy2]
  have hl : ((xs.take i).map (fun u : UInt8 => (u.toNat : Int))).length = i := by rw [List.length_map, List.length_take]; omega
  unfold nums
  rw [e, List.map_append, List.map_cons, List.set_append_right _ _ (by omega), hl, Nat.sub_self, List.set_cons_zero, List.take_add_one, hx, List.map_append, List.map_append]
  simp
theorem mixed_at {xs ys : List UInt8} {i : Nat} {y : UInt8} (hx : i ≤ xs.length) (hy : ys[i]? = some y) : (nums (xs.take i ++ ys.drop i))[i]? = some (y.toNat : Int) := by
  have hl : (xs.take i).length = i := by rw [List.length_take]; omega
  unfold nums
  rw [List.getElem?_map, List.getElem?_append_right (by omega), hl, Nat.sub_self, List.getElem?_drop, Nat.add_zero, hy]
  rfl
theorem over_key (key : List UInt8) : over ((List.replicate 128 (0 : Int)).map (Value.int .u8)) 0 (key.take key.length) = (nums (zeroed key)).map (Value.int .u8) := by
  unfold over zeroed nums
  rw [List.take_length, List.take_zero, List.nil_append, Nat.zero_add, List.length_map, ← List.map_drop, List.drop_replicate, List.map_append, List.map_append, List.map_map]
  congr 1
  rw [List.map_replicate, List.map_replicate, List.map_replicate]
  rfl

set_option maxRecDepth 100000 in
set_option maxHeartbeats 6400000 in
theorem hpad_any (B : Nat) (x : Value) (key : List UInt8) (p : UInt8) (k : Int) (w : World) (hk : k = (p.toNat : Int)) (hx : Byt w B x key) (hB : B ≤ w.heap.size) (hl : key.length ≤ 128) :
    Calls Tryd.prog 28 #[x, .int .u8 k] w fun e w' => e = .returned (digV (padK key p)) ∧ Below w.heap.size w w' := by
  subst hk
  obtain ⟨A, c, rfl⟩ := hx.form
  have z128 := zero_128
  have r1 := IRow.new w 66 .u8 (List.replicate 128 0)
  have b1 : Below w.heap.size w (w.alloc (.cells ((List.replicate 128 (0 : Int)).map (Value.int .u8)).toArray 66)) := (Below.refl _ w).alloc (Nat.le_refl _) _
  have s1 : (w.alloc (.cells ((List.replicate 128 (0 : Int)).map (Value.int .u8)).toArray 66)).heap.size = w.heap.size + 1 := by simp
  obtain ⟨wA, hwA⟩ : ∃ z, z = w.alloc (.cells ((List.replicate 128 (0 : Int)).map (Value.int .u8)).toArray 66) := ⟨_, rfl⟩
  rw [← hwA] at r1 b1 s1
  have r2 := IRow.new wA 66 .u8 (List.replicate 128 0)
  have b2 : Below wA.heap.size wA (wA.alloc (.cells ((List.replicate 128 (0 : Int)).map (Value.int .u8)).toArray 66)) := (Below.refl _ wA).alloc (Nat.le_refl _) _
  obtain ⟨wB, hwB⟩ : ∃ z, z = wA.alloc (.cells ((List.replicate 128 (0 : Int)).map (Value.int .u8)).toArray 66) := ⟨_, rfl⟩
  rw [← hwB] at r2 b2
  obtain ⟨GA, hGA⟩ : ∃ g, g = w.heap.size := ⟨_, rfl⟩
  rw [← hGA] at r1 b1 s1
  rw [s1] at r2 b2
  have rA2 := r1.below b2 (by omega)
  have b3 := b1.trans (b2.mono (by omega : GA ≤ GA + 1))
  have sx : Src wB (GA + 1) (.slice A key.length c) key := Src.of_byt (hx.below (b3.mono (by omega))) (by have := b3.size; omega) (by omega)
  have rV : VRow wB (GA + 1) 66 ((List.replicate 128 (0 : Int)).map (Value.int .u8)) := r2
  have rC := rV.setRow ((nums (zeroed key)).map (Value.int .u8))
  have rCI : IRow (wB.setRow (GA + 1) ((nums (zeroed key)).map (Value.int .u8)).toArray) (GA + 1) 66 .u8 (nums (zeroed key)) := rC
  have rA3 := rA2.below (below_setRow (Below.refl (GA + 1) wB) (Nat.le_refl _) ((nums (zeroed key)).map (Value.int .u8)).toArray) (by omega)
  have b4 := below_setRow b3 (by omega : GA ≤ GA + 1) ((nums (zeroed key)).map (Value.int .u8)).toArray
  obtain ⟨wC, hwC⟩ : ∃ z, z = wB.setRow (GA + 1) ((nums (zeroed key)).map (Value.int .u8)).toArray := ⟨_, rfl⟩
  rw [← hwC] at rCI rA3 b4
  have HWC := Lib.hid (show wB.setRow (GA + 1) (over ((List.replicate 128 (0 : Int)).map (Value.int .u8)) 0 (key.take key.length)).toArray = wC by rw [over_key, hwC])
  have HW := Lib.hid (show wB = (w.alloc (.cells ((List.replicate 128 (0 : Int)).map (Value.int .u8)).toArray 66)).alloc (.cells ((List.replicate 128 (0 : Int)).map (Value.int .u8)).toArray 66) by rw [hwB, hwA])
  have HGA := Lib.hid hGA
  have SX := Lib.hid sx
  have RV := Lib.hid rV
  have RC := Lib.hid rCI
  have RA := Lib.hid rA3
  have B4 := Lib.hid b4
  have HMN := Lib.hid (show key.length = min key.length 128 by omega)
  have HF := Lib.hid (show 0 + key.length ≤ ((List.replicate 128 (0 : Int)).map (Value.int .u8)).length by rw [List.length_map, List.length_replicate]; omega)
  have HZL := Lib.hid (zeroed_length hl)
  have HPL := Lib.hid (padK_length p hl)
  have hkc : (key.length : Int) ≤ 128 := by omega
  clear hx r1 b1 s1 hwA r2 b2 hwB rA2 b3 sx rV rC rCI rA3 b4 hwC hGA
  go_enter Tryd.func28, Tryd.ntmps28
  go_upto_region 2 with fail
  change Code.wp _ _ _ _ ((w.alloc (.cells ((List.replicate 128 (0 : Int)).map (Value.int .u8)).toArray 66)).alloc (.cells ((List.replicate 128 (0 : Int)).map (Value.int .u8)).toArray 66))
  rw [← HW.out]
  have q1 : (w.alloc (.cells ((List.replicate 128 (0 : Int)).map (Value.int .u8)).toArray 66)).heap.size = GA + 1 := by rw [HGA.out]; simp
  try rw [q1]
  try rw [← HGA.out]
  clear q1
  try dsimp only [Act.put]
  go_upto_region 3 with (refine wpList_copy_src rfl (.tmp 7) (.tmp 8) rfl (GA + 1) 0 128 128 66 _ RV.out rfl rfl SX.out key.length HMN.out HF.out ?_)
  change Code.wp _ _ _ _ (wB.setRow (GA + 1) (over ((List.replicate 128 (0 : Int)).map (Value.int .u8)) 0 (key.take key.length)).toArray)
  rw [HWC.out]
  try dsimp only [Act.put]
  go_wp2_with fail
  go_loopw [10] (fun v10 wr => ∃ i : Nat, i ≤ 128 ∧ v10 = .int .i64 (i : Int) ∧ IRow wr (GA + 1) 66 .u8 (nums ((padK key p).take i ++ (zeroed key).drop i)) ∧ IRow wr GA 66 .u8 (List.replicate 128 0) ∧ Below GA w wr) (fun v10 _ => 128 - (intOf v10).toNat)
  case atStart => exact ⟨0, by omega, rfl, by rw [List.take_zero, List.nil_append, List.drop_zero]; exact RC.out, RA.out, B4.out⟩
  case round =>
    obtain ⟨i, hi, rfl, hrow, hres, hbel⟩ := hrel
    by_cases h128 : i < 128
    · obtain ⟨y, hy⟩ : ∃ y, (zeroed key)[i]? = some y := ⟨_, List.getElem?_eq_getElem (by rw [HZL.out]; exact h128)⟩
      have hp : (padK key p)[i]? = some (xorB y p) := by unfold padK; rw [List.getElem?_map, hy]; rfl
      have hcg : wr.cell? ⟨GA + 1, i, none⟩ = some (.int .u8 (y.toNat : Int)) := hrow.cell (mixed_at (by rw [HPL.out]; omega) hy)
      have hfg := hrow.free i
      have hset := hrow.set i (bits .xor .u8 (y.toNat : Int) (p.toNat : Int))
      have hm := mixed_set hp hy
      rw [xorB_nat] at hm
      rw [hm] at hset
      have bi : (i : Int) < 128 := by omega
      have HSET := Lib.hid hset
      have HRES := Lib.hid hres
      have HBEL := Lib.hid hbel
      clear hp hset hm hrow hy hres hbel
      go_wp2_with fail
      refine ⟨⟨i + 1, by omega, by go_num, HSET.out, ?_, HBEL.out.setCell (p := ⟨GA + 1, i, none⟩) (by show GA ≤ GA + 1; omega) _⟩, by simp [intOf]; omega⟩
      exact (Below.heap_setCell wr _ _ _ (by intro h; first | (have h' : GA = GA + 1 := h; omega) | (have h' : GA + 1 = GA := h; omega))).trans HRES.out
    · obtain rfl : i = 128 := by omega
      have e128 : ((128 : Nat) : Int) = 128 := rfl
      rw [e128]
      rw [List.take_of_length_le (by rw [HPL.out]; omega), List.drop_of_length_le (by rw [HZL.out]; omega), List.append_nil] at hrow
      obtain ⟨PK, hPK⟩ : ∃ l, l = nums (padK key p) := ⟨_, rfl⟩
      have hpl : PK.length = 128 := by rw [hPK, nums_length, HPL.out]
      rw [← hPK] at hrow
      have HFIN := Lib.hid (setRow_irow (ys := PK) hres)
      have HB := Lib.hid (below_setRow hbel (Nat.le_refl _) (PK.map (Value.int .u8)).toArray)
      have HROW := Lib.hid hrow
      have HRES := Lib.hid hres
      have HPKL := Lib.hid hpl
      have HPK := Lib.hid hPK
      clear e128 hrow hbel hres h128 hpl hPK
      go_wp2_with (first
        | (refine wpList_load_irow rfl 66 (.tmp 5) rfl (g := GA + 1) (t := 66) (k := .u8) (xs := PK) rfl HROW.out Tryd.underlying66 (by rw [HPKL.out]; exact info_128) ?_)
        | (refine wpList_store_irow rfl 66 (.tmp 4) (.tmp 20) rfl (g := GA) (t := 66) (k := .u8) (xs := List.replicate 128 0) (ys := PK) rfl rfl HRES.out (by rw [HPKL.out]; exact info_128) (by rw [HPKL.out]; rfl) ?_))
      refine bodyPost_ret (v := .agg (PK.map (Value.int .u8)).toArray) ?_ rfl ⟨by rw [HPK.out]; rfl, by rw [← HGA.out]; exact HB.out⟩
      obtain ⟨fr, hrw⟩ : ∃ fr, ((wr.setRow GA (PK.map (Value.int .u8)).toArray)).heap[GA]? = some (.cells (PK.map (Value.int .u8)).toArray 66 fr) := ⟨_, HFIN.out⟩
      exact results_cell_row Tryd.results28 _ _ GA 66 (PK.map (Value.int .u8)).toArray fr _ rfl hrw Tryd.underlying66 rfl (by rw [List.size_toArray, List.length_map, HPKL.out]; exact info_128)
end Go.Proofs.YtfkpdbmgiefnfaaDoor
