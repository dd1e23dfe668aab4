/-
  Texts joined: HkRead, HText, HTextRef. Conditions: those of each.
-/
import Derived.Test.YtfkpdbmgiefnfaaDoorP15
import Derived.Lib.EndianBits
import Derived.Test.YtfkpdbmgiefnfaaDoorP5
/-
  Numbers of 256 bits: what they are of bytes; curve.read, walked. Conditions: the bytes are 32.
-/
namespace Go.Proofs.YtfkpdbmgiefnfaaDoor.Hk
open Go.RowKit

/-- The number that bytes encode, the greatest first. -/
def numBE (b : List UInt8) : Nat := b.foldl (fun n u => n * 256 + u.toNat) 0
theorem numBE_from (b : List UInt8) : ∀ n : Nat, b.foldl (fun n u => n * 256 + u.toNat) n = n * 256 ^ b.length + numBE b := by
  induction b with
  | nil => intro n; simp [numBE]
  | cons u b ih =>
    intro n
    have e : numBE (u :: b) = (0 * 256 + u.toNat) * 256 ^ b.length + numBE b := by unfold numBE; rw [List.foldl_cons]; exact ih _
    rw [List.foldl_cons, ih, e, List.length_cons, Nat.pow_succ]
    generalize 256 ^ b.length = P
    simp only [Nat.zero_mul, Nat.zero_add, Nat.add_mul, Nat.mul_assoc, Nat.mul_comm 256 P]
    omega
theorem numBE_append (a b : List UInt8) : numBE (a ++ b) = numBE a * 256 ^ b.length + numBE b := by
  rw [← numBE_from b (numBE a)]
  unfold numBE
  rw [List.foldl_append]
theorem numBE_snoc (a : List UInt8) (u : UInt8) : numBE (a ++ [u]) = numBE a * 256 + u.toNat := by
  rw [numBE_append]
  simp [numBE]
theorem numBE_lt : ∀ (b : List UInt8), numBE b < 256 ^ b.length
  | [] => by simp [numBE]
  | u :: b => by
    have h := numBE_append [u] b
    rw [List.singleton_append] at h
    have h1 : numBE [u] = u.toNat := by simp [numBE]
    have h2 := numBE_lt b
    have h3 := u.toNat_lt
    rw [h, h1, List.length_cons, Nat.pow_succ]
    generalize 256 ^ b.length = P at *
    have : u.toNat * P ≤ 255 * P := Nat.mul_le_mul_right _ (by omega)
    omega
/-- The word at d of the first i bytes. -/
def wordFrom (bs : List UInt8) (i d : Nat) : Nat := numBE ((bs.drop d).take (min 8 (i - d)))
def wordsTo (bs : List UInt8) (i : Nat) : List Int := [(wordFrom bs i 24 : Int), (wordFrom bs i 16 : Int), (wordFrom bs i 8 : Int), (wordFrom bs i 0 : Int)]
theorem wordsTo_zero (bs : List UInt8) : wordsTo bs 0 = List.replicate 4 0 := by simp [wordsTo, wordFrom, numBE]
theorem wordsTo_length (bs : List UInt8) (i : Nat) : (wordsTo bs i).length = 4 := rfl
theorem wordFrom_same {bs : List UInt8} {i d : Nat} (h : d + 8 ≤ i ∨ i < d) : wordFrom bs (i + 1) d = wordFrom bs i d := by
  unfold wordFrom
  rw [show min 8 (i + 1 - d) = min 8 (i - d) by omega]
theorem wordFrom_next {bs : List UInt8} {i d : Nat} {u : UInt8} (hu : bs[i]? = some u) (h1 : d ≤ i) (h2 : i < d + 8) : wordFrom bs (i + 1) d = wordFrom bs i d * 256 + u.toNat := by
  unfold wordFrom
  rw [show min 8 (i + 1 - d) = (i - d) + 1 by omega, show min 8 (i - d) = i - d by omega, List.take_add_one, List.getElem?_drop, show d + (i - d) = i by omega, hu, ← numBE_snoc]
  rfl
theorem wordFrom_lt (bs : List UInt8) (i d : Nat) : wordFrom bs i d < 256 ^ (min 8 (i - d)) := by
  unfold wordFrom
  refine Nat.lt_of_lt_of_le (numBE_lt _) (Nat.pow_le_pow_right (by omega) ?_)
  rw [List.length_take]
  omega
theorem wordsTo_next {bs : List UInt8} {i : Nat} {u : UInt8} (hu : bs[i]? = some u) (hi : i < 32) :
    ∃ (m x : Nat), m = 3 - i / 8 ∧ m < 4 ∧ (wordsTo bs i)[m]? = some (x : Int) ∧ x < 72057594037927936 ∧ (wordsTo bs i).set m ((x * 256 + u.toNat : Nat) : Int) = wordsTo bs (i + 1) := by
  have hb : ∀ d, d ≤ i → i < d + 8 → wordFrom bs i d < 72057594037927936 := fun d h1 h2 => by
    refine Nat.lt_of_lt_of_le (wordFrom_lt bs i d) ?_
    rw [show (72057594037927936 : Nat) = 256 ^ 7 from rfl]
    exact Nat.pow_le_pow_right (by omega) (by omega)
  have h4 : i / 8 = 0 ∨ i / 8 = 1 ∨ i / 8 = 2 ∨ i / 8 = 3 := by omega
  rcases h4 with h | h | h | h
  · refine ⟨3, wordFrom bs i 0, by omega, by omega, rfl, hb 0 (by omega) (by omega), ?_⟩
    rw [← wordFrom_next hu (by omega) (by omega)]
    unfold wordsTo
    rw [wordFrom_same (d := 24) (by omega), wordFrom_same (d := 16) (by omega), wordFrom_same (d := 8) (by omega)]
    rfl
  · refine ⟨2, wordFrom bs i 8, by omega, by omega, rfl, hb 8 (by omega) (by omega), ?_⟩
    rw [← wordFrom_next hu (by omega) (by omega)]
    unfold wordsTo
    rw [wordFrom_same (d := 24) (by omega), wordFrom_same (d := 16) (by omega), wordFrom_same (d := 0) (by omega)]
    rfl
  · refine ⟨1, wordFrom bs i 16, by omega, by omega, rfl, hb 16 (by omega) (by omega), ?_⟩
    rw [← wordFrom_next hu (by omega) (by omega)]
    unfold wordsTo
    rw [wordFrom_same (d := 24) (by omega), wordFrom_same (d := 8) (by omega), wordFrom_same (d := 0) (by omega)]
    rfl
  · refine ⟨0, wordFrom bs i 24, by omega, by omega, rfl, hb 24 (by omega) (by omega), ?_⟩
    rw [← wordFrom_next hu (by omega) (by omega)]
    unfold wordsTo
    rw [wordFrom_same (d := 16) (by omega), wordFrom_same (d := 8) (by omega), wordFrom_same (d := 0) (by omega)]
    rfl
/-- The words of 32 bytes, the lowest first. -/
def words4 (bs : List UInt8) : List Int := wordsTo bs 32
/-- The number that words are, the lowest first. -/
def numW : List Int → Nat
  | [] => 0
  | x :: xs => x.toNat + 18446744073709551616 * numW xs
theorem words4_u (bs : List UInt8) : ∀ x ∈ words4 bs, 0 ≤ x ∧ x < 18446744073709551616 := by
  have hb : ∀ d, wordFrom bs 32 d < 18446744073709551616 := fun d => by
    refine Nat.lt_of_lt_of_le (wordFrom_lt bs 32 d) ?_
    rw [show (18446744073709551616 : Nat) = 256 ^ 8 from rfl]
    exact Nat.pow_le_pow_right (by omega) (by omega)
  intro x hx
  unfold words4 wordsTo at hx
  have h0 := hb 0
  have h8 := hb 8
  have h16 := hb 16
  have h24 := hb 24
  simp only [List.mem_cons, List.not_mem_nil, or_false] at hx
  rcases hx with rfl | rfl | rfl | rfl <;> omega
theorem numW_words {bs : List UInt8} (h : bs.length = 32) : numW (words4 bs) = numBE bs := by
  have e : bs = ((bs.drop 0).take 8 ++ (bs.drop 8).take 8) ++ (bs.drop 16).take 8 ++ (bs.drop 24).take 8 := by
    rw [List.drop_zero]
    have e1 : bs = bs.take 8 ++ bs.drop 8 := (List.take_append_drop 8 bs).symm
    have e2 : bs.drop 8 = (bs.drop 8).take 8 ++ bs.drop 16 := by rw [← List.drop_drop (i := 8) (j := 8)]; exact (List.take_append_drop 8 _).symm
    have e3 : bs.drop 16 = (bs.drop 16).take 8 ++ bs.drop 24 := by rw [← List.drop_drop (i := 8) (j := 16)]; exact (List.take_append_drop 8 _).symm
    have e4 : bs.drop 24 = (bs.drop 24).take 8 := (List.take_of_length_le (by rw [List.length_drop]; omega)).symm
    rw [List.append_assoc, List.append_assoc, ← e4, ← e3, ← e2]
    exact e1
  have l8 : ((bs.drop 8).take 8).length = 8 := by rw [List.length_take, List.length_drop]; omega
  have l16 : ((bs.drop 16).take 8).length = 8 := by rw [List.length_take, List.length_drop]; omega
  have l24 : ((bs.drop 24).take 8).length = 8 := by rw [List.length_take, List.length_drop]; omega
  have hr : numBE bs = ((numBE ((bs.drop 0).take 8) * 256 ^ 8 + numBE ((bs.drop 8).take 8)) * 256 ^ 8 + numBE ((bs.drop 16).take 8)) * 256 ^ 8 + numBE ((bs.drop 24).take 8) := by
    conv => lhs; rw [e]
    rw [numBE_append, numBE_append, numBE_append, l8, l16, l24]
  rw [hr]
  unfold words4 wordsTo wordFrom
  simp only [numW, Int.toNat_natCast, Nat.reduceSub, Nat.reducePow, show min 8 (32 - 0) = 8 from rfl, show min 8 (32 - 8) = 8 from rfl, show min 8 (32 - 16) = 8 from rfl, show min 8 (32 - 24) = 8 from rfl]
  omega

/-- A number as the program has it. -/
def numV (xs : List Int) : Value := .agg (xs.map (Value.int .u64)).toArray
theorem idx32 (L : List Int) (hl : L.length = 32) {i : Nat} {z : Int} (hz : L[i]? = some z) (w : World) : (Instr.index 28 (.agg (L.map (Value.int .u8)).toArray) (.int .i64 (i : Int))).run Tryd.prog w = .ok (.int .u8 z) w := by
  have hi := (List.getElem?_eq_some_iff.1 hz).1
  rw [hl] at hi
  have key : ∀ (cs : Array Value) (i : Nat) (v : Value), i < 32 → cs[i]? = some v → (Instr.index 28 (.agg cs) (.int .i64 (i : Int))).run Tryd.prog w = .ok v w := by
    intro cs i v hi hv
    have hu : Tryd.prog.underlying 28 = some (.array 32 5) := by kernel_rfl
    have he : (isAgg 5).run Tryd.prog w = .ok false w := by kernel_rfl
    have hs : (sizeOf 5).run Tryd.prog w = .ok 1 w := by kernel_rfl
    have hu2 : (Go.underlying 28).run Tryd.prog w = .ok (.array 32 5) w := by kernel_rfl
    have ha : (asIntOf (.int .i64 (i : Int))).run Tryd.prog w = .ok (.i64, (i : Int)) w := rfl
    unfold Instr.index part
    simp only [ha, Sem.run_bind, Result.andThen_ok, hu2]
    rw [if_pos ⟨by omega, by omega⟩]
    simp only [Sem.run_bind, Result.andThen_ok, hs, he, Int.toNat_natCast, Nat.mul_one, hv]
    rfl
  exact key _ i _ hi (by simp [hz])
theorem irow_alloc {w : World} {g : Nat} {t : TypeId} {k : IntKind} {xs : List Int} (h : IRow w g t k xs) (o : Obj) : IRow (w.alloc o) g t k xs := h.below ((Below.refl _ w).alloc (Nat.le_refl _) o) h.lt
theorem zero_num (W : World) : (zeroValue 100).run Tryd.prog W = .ok (.agg ((List.replicate 4 (0 : Int)).map (Value.int .u64)).toArray) W := by kernel_rfl
theorem info_num : (Tryd.prog.info? 100).map (·.size) = some 4 := by kernel_rfl
theorem info_b32 : (Tryd.prog.info? 28).map (·.size) = some 32 := by kernel_rfl

set_option maxRecDepth 100000 in
set_option maxHeartbeats 6400000 in
theorem read_any (bs : List UInt8) (w : World) (hl : bs.length = 32) :
    Calls Tryd.prog 46 #[digV bs] w fun e w' => e = .returned (numV (words4 bs)) ∧ Below w.heap.size w w' := by
  have hl2 : (nums bs).length = 32 := by rw [nums_length, hl]
  unfold digV
  have r1 := IRow.new w 28 .u8 (nums bs)
  have b1 : Below w.heap.size w (w.alloc (.cells ((nums bs).map (Value.int .u8)).toArray 28)) := (Below.refl _ w).alloc (Nat.le_refl _) _
  have s1 : (w.alloc (.cells ((nums bs).map (Value.int .u8)).toArray 28)).heap.size = w.heap.size + 1 := by simp
  obtain ⟨wA, hwA⟩ : ∃ z, z = w.alloc (.cells ((nums bs).map (Value.int .u8)).toArray 28) := ⟨_, rfl⟩
  obtain ⟨GA, hGA⟩ : ∃ g, g = w.heap.size := ⟨_, rfl⟩
  rw [← hwA, ← hGA] at r1 b1 s1
  have R1 := Lib.hid r1
  have B1 := Lib.hid b1
  have S1 := Lib.hid s1
  have HGA := Lib.hid hGA
  have HWA := Lib.hid hwA
  have HL := Lib.hid hl
  have HL2 := Lib.hid hl2
  have HI := Lib.hid (show (Tryd.prog.info? 28).map (·.size) = some (nums bs).length by rw [hl2]; exact info_b32)
  have IX := fun (i : Nat) (z : Int) (hz : (nums bs)[i]? = some z) (W : World) => idx32 (nums bs) hl2 hz W
  obtain ⟨V, hV⟩ : ∃ V, V = ((nums bs).map (Value.int .u8)).toArray := ⟨_, rfl⟩
  have HV := Lib.hid hV
  rw [← hV] at HWA IX ⊢
  have HIX := Lib.hid IX
  clear r1 b1 s1 hGA hwA hl hl2 hV IX
  go_enter Tryd.func46, Tryd.ntmps46
  go_upto_region 2 with fail
  change Code.wp _ _ _ _ (((w.alloc (.cells V 28)).alloc (.cells ((List.replicate 4 (0 : Int)).map (Value.int .u64)).toArray 100)).alloc (.cells ((List.replicate 4 (0 : Int)).map (Value.int .u64)).toArray 100))
  have hs2 : (wA.alloc (.cells ((List.replicate 4 (0 : Int)).map (Value.int .u64)).toArray 100)).heap.size = GA + 1 + 1 := by rw [World.size_alloc, S1.out]
  have r2 := IRow.new wA 100 .u64 (List.replicate 4 0)
  have r3 := IRow.new (wA.alloc (.cells ((List.replicate 4 (0 : Int)).map (Value.int .u64)).toArray 100)) 100 .u64 (List.replicate 4 0)
  have r2b := irow_alloc r2 (.cells ((List.replicate 4 (0 : Int)).map (Value.int .u64)).toArray 100)
  have r1b := irow_alloc (irow_alloc R1.out (.cells ((List.replicate 4 (0 : Int)).map (Value.int .u64)).toArray 100)) (.cells ((List.replicate 4 (0 : Int)).map (Value.int .u64)).toArray 100)
  have bel := (B1.out.alloc (by have := S1.out; omega : GA ≤ wA.heap.size) (.cells ((List.replicate 4 (0 : Int)).map (Value.int .u64)).toArray 100)).alloc (by rw [hs2]; omega) (.cells ((List.replicate 4 (0 : Int)).map (Value.int .u64)).toArray 100)
  rw [S1.out] at r2b
  rw [hs2] at r3
  rw [← HWA.out]
  obtain ⟨wC, hwC⟩ : ∃ z, z = (wA.alloc (.cells ((List.replicate 4 (0 : Int)).map (Value.int .u64)).toArray 100)).alloc (.cells ((List.replicate 4 (0 : Int)).map (Value.int .u64)).toArray 100) := ⟨_, rfl⟩
  rw [← hwC] at r3 r2b r1b bel ⊢
  rw [show w.heap.size = GA from HGA.out.symm]
  have RV := Lib.hid (show wC.heap[GA]? = some (.cells V 28 (0, 0)) by rw [HV.out]; exact r1b)
  have HIV := Lib.hid (show (Tryd.prog.info? 28).map (·.size) = some V.size by rw [HV.out, List.size_toArray, List.length_map]; exact HI.out)
  have R2 := Lib.hid r2b
  have R3 := Lib.hid r3
  have BC := Lib.hid bel
  clear hs2 r2 r3 r2b r1b bel hwC
  try dsimp only [Act.put]
  go_wp2_with (refine wpList_load_row rfl 28 (.tmp 1) rfl GA rfl 28 V (0, 0) (.array 32 5) RV.out (by kernel_rfl) rfl HIV.out ?_)
  go_loopw [7] (fun v7 wr => ∃ i : Nat, i ≤ 32 ∧ v7 = .int .i64 (i : Int) ∧ IRow wr (GA + 1 + 1) 100 .u64 (wordsTo bs i) ∧ IRow wr (GA + 1) 100 .u64 (List.replicate 4 0) ∧ Below GA w wr) (fun v7 _ => 32 - (intOf v7).toNat)
  case atStart => exact ⟨0, by omega, rfl, by rw [wordsTo_zero]; exact R3.out, R2.out, BC.out⟩
  case round =>
    obtain ⟨i, hi, rfl, hrow, hres, hbel⟩ := hrel
    by_cases h32 : i < 32
    · obtain ⟨u, hu⟩ : ∃ u, bs[i]? = some u := ⟨_, List.getElem?_eq_getElem (by rw [HL.out]; exact h32)⟩
      obtain ⟨m, x, hm, hm4, hx, hxs, hset⟩ := wordsTo_next hu h32
      have hz : (nums bs)[i]? = some (u.toNat : Int) := by unfold nums; rw [List.getElem?_map, hu]; rfl
      have ix := HIX.out i _ hz
      have hcg : wr.cell? ⟨GA + 1 + 1, m, none⟩ = some (.int .u64 (x : Int)) := hrow.cell hx
      have hfg := hrow.free m
      have hj : bits .or .u64 ((x : Int) * 256) (u.toNat : Int) = ((x * 256 + u.toNat : Nat) : Int) := by
        have := u.toNat_lt
        rw [bits_join .u64 64 (by decide) wraps_u64 8 _ _ (by omega) (by omega) (by omega) (by omega) (by omega) (by omega)]
        omega
      have hs3 := hrow.set m ((x * 256 + u.toNat : Nat) : Int)
      rw [hset, ← hj] at hs3
      have HS3 := Lib.hid hs3
      have HRES := Lib.hid hres
      have HBEL := Lib.hid hbel
      have bi : (i : Int) < 32 := by omega
      have e3 : (3 : Int) - (i : Int) / 8 = (m : Int) := by omega
      have hu8 := u.toNat_lt
      have bm : (m : Int) < 4 := by omega
      clear hu hx hset hz hj hs3 hrow hres hbel hm
      go_wp2_with fail
      refine ⟨⟨i + 1, by omega, by go_num, HS3.out, ?_, HBEL.out.setCell (p := ⟨GA + 1 + 1, m, none⟩) (by show GA ≤ GA + 1 + 1; omega) _⟩, by simp [intOf]; omega⟩
      exact (Below.heap_setCell wr _ _ _ (by intro h; first | (have h' : GA + 1 = GA + 1 + 1 := h; omega) | (have h' : GA + 1 + 1 = GA + 1 := h; omega))).trans HRES.out
    · obtain rfl : i = 32 := by omega
      have e32 : ((32 : Nat) : Int) = 32 := rfl
      rw [e32]
      obtain ⟨P, hP⟩ : ∃ l, l = wordsTo bs 32 := ⟨_, rfl⟩
      have hpl : P.length = 4 := by rw [hP]; rfl
      rw [← hP] at hrow
      have HFIN := Lib.hid (setRow_irow (ys := P) hres)
      have HB := Lib.hid (below_setRow hbel (by omega : GA ≤ GA + 1) (P.map (Value.int .u64)).toArray)
      have HROW := Lib.hid hrow
      have HRES := Lib.hid hres
      have HPL := Lib.hid hpl
      have HP := Lib.hid hP
      clear e32 hrow hbel hres h32 hpl hP
      go_wp2_with (first
        | (refine wpList_load_irow rfl 100 (.tmp 3) rfl (g := GA + 1 + 1) (t := 100) (k := .u64) (xs := P) rfl HROW.out Tryd.underlying100 (by rw [HPL.out]; exact info_num) ?_)
        | (refine wpList_store_irow rfl 100 (.tmp 2) (.tmp 25) rfl (g := GA + 1) (t := 100) (k := .u64) (xs := List.replicate 4 0) (ys := P) rfl rfl HRES.out (by rw [HPL.out]; exact info_num) (by rw [HPL.out]; rfl) ?_))
      refine bodyPost_ret (v := .agg (P.map (Value.int .u64)).toArray) ?_ rfl ⟨by rw [HP.out]; rfl, by rw [← HGA.out]; exact HB.out⟩
      obtain ⟨fr, hrw⟩ : ∃ fr, ((wr.setRow (GA + 1) (P.map (Value.int .u64)).toArray)).heap[GA + 1]? = some (.cells (P.map (Value.int .u64)).toArray 100 fr) := ⟨_, HFIN.out⟩
      exact results_cell_row Tryd.results46 _ _ (GA + 1) 100 (P.map (Value.int .u64)).toArray fr _ rfl hrw Tryd.underlying100 rfl (by rw [List.size_toArray, List.length_map, HPL.out]; exact info_num)
end Go.Proofs.YtfkpdbmgiefnfaaDoor.Hk

/-
  hash.Text: two digits for each byte, from the last. Conditions: none.
-/
namespace Go.Proofs.YtfkpdbmgiefnfaaDoor
open Go.RowKit

def digN (v : Nat) : Nat := if v < 10 then 48 + v else 87 + v
theorem digN_lt {v : Nat} (h : v < 16) : digN v < 128 := by unfold digN; split <;> omega
def hexL (q : UInt8) : List UInt8 := [b8 (digN (q.toNat / 16) : Nat), b8 (digN (q.toNat % 16) : Nat)]
def textB (bs : List UInt8) : List UInt8 := bs.reverse.flatMap hexL
theorem textB_length (bs : List UInt8) : (textB bs).length = 2 * bs.length := by
  induction bs with
  | nil => rfl
  | cons c bs ih => unfold textB at ih ⊢; rw [List.reverse_cons, List.flatMap_append, List.length_append, ih, List.length_cons]; simp [hexL]; omega
theorem textB_more {bs : List UInt8} {i : Nat} {q : UInt8} (h : bs[i]? = some q) : textB (bs.drop i) = textB (bs.drop (i + 1)) ++ hexL q := by
  obtain ⟨hlt, rfl⟩ := List.getElem?_eq_some_iff.1 h
  unfold textB
  rw [List.drop_eq_getElem_cons hlt, List.reverse_cons, List.flatMap_append]
  simp
theorem dig_at : ∀ (v : Nat), v < 16 → ∀ w, (Instr.index 9 (.string ⟨#[48, 49, 50, 51, 52, 53, 54, 55, 56, 57, 97, 98, 99, 100, 101, 102]⟩) (.int .u8 (v : Int))).run Tryd.prog w = .ok (.int .u8 (digN v : Nat)) w
  | 0, _ => fun w => by kernel_rfl
  | 1, _ => fun w => by kernel_rfl
  | 2, _ => fun w => by kernel_rfl
  | 3, _ => fun w => by kernel_rfl
  | 4, _ => fun w => by kernel_rfl
  | 5, _ => fun w => by kernel_rfl
  | 6, _ => fun w => by kernel_rfl
  | 7, _ => fun w => by kernel_rfl
  | 8, _ => fun w => by kernel_rfl
  | 9, _ => fun w => by kernel_rfl
  | 10, _ => fun w => by kernel_rfl
  | 11, _ => fun w => by kernel_rfl
  | 12, _ => fun w => by kernel_rfl
  | 13, _ => fun w => by kernel_rfl
  | 14, _ => fun w => by kernel_rfl
  | 15, _ => fun w => by kernel_rfl
  | v + 16, h => absurd h (by omega)

end Go.Proofs.YtfkpdbmgiefnfaaDoor

/-
  The reference's Digit and Text. Conditions: none.
-/
namespace Go.Proofs.YtfkpdbmgiefnfaaDoor
open Go.RowKit

end Go.Proofs.YtfkpdbmgiefnfaaDoor
