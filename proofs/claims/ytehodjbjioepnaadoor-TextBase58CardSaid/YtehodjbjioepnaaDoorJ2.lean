/-
  Texts joined: Step, Fives, Zeros, Reb, ChkPure, Chk, Chk2, Dig, Hex. Conditions: those of each.
-/
import Derived.Test.YtehodjbjioepnaaDoorJ1
import Derived.Laws.Bits64
import Derived.Lib.Zigzag
import Derived.Deep.RegionWith
/-
  text.code.step, for the descriptors' code: how a checksum takes values in. Conditions: the numbers are below 2^64.
-/
namespace Go.Proofs.YtehodjbjioepnaaDoor
open Go.RowKit

/-- The m-th of the five numbers. -/
structure Five where
  x0 : Int
  x1 : Int
  x2 : Int
  x3 : Int
  x4 : Int
def Five.at_ (X : Five) : Nat → Int
  | 0 => X.x0
  | 1 => X.x1
  | 2 => X.x2
  | 3 => X.x3
  | _ => X.x4

/-- Behind m of the five bits. -/
def mixI (X : Five) (up c : Int) : Nat → Int
  | 0 => c
  | m + 1 => if bits .and .u64 (up / 2 ^ m) 1 = 1 then bits .xor .u64 (mixI X up c m) (X.at_ m) else mixI X up c m
/-- A value more. -/
def stepI (X : Five) (c : Int) (v : UInt8) : Int := mixI X (c / 34359738368) (bits .xor .u64 (IntKind.u64.wrap (bits .and .u64 c 34359738367 * 32)) (v.toNat : Int)) 5

theorem bits_u64 (op : BinOp) (a b : Int) : 0 ≤ bits op .u64 a b ∧ bits op .u64 a b < 18446744073709551616 := by
  unfold bits
  have : ∀ n : Int, 0 ≤ IntKind.u64.wrap n ∧ IntKind.u64.wrap n < 18446744073709551616 := fun n => by rw [IntKind.wrap_u64]; omega
  exact this _
theorem mixI_bd (X : Five) (up c : Int) (h0 : 0 ≤ c) (h1 : c < 18446744073709551616) : ∀ m, 0 ≤ mixI X up c m ∧ mixI X up c m < 18446744073709551616
  | 0 => ⟨h0, h1⟩
  | m + 1 => by
    unfold mixI
    split
    · exact bits_u64 _ _ _
    · exact mixI_bd X up c h0 h1 m
theorem stepI_bd (X : Five) (c : Int) (v : UInt8) : 0 ≤ stepI X c v ∧ stepI X c v < 18446744073709551616 := by
  unfold stepI
  exact mixI_bd _ _ _ (bits_u64 _ _ _).1 (bits_u64 _ _ _).2 5

theorem mixy {X : Five} {up c : Int} (m : Nat) (d : Int) (hd : up / 2 ^ m = d) (h : (bits .and .u64 d 1 == 1) = true) : bits .xor .u64 (mixI X up c m) (X.at_ m) = mixI X up c (m + 1) := by
  rw [mixI, hd, if_pos (by simpa using h)]
theorem mixn {X : Five} {up c : Int} (m : Nat) (d : Int) (hd : up / 2 ^ m = d) (h : (bits .and .u64 d 1 == 1) = false) : mixI X up c m = mixI X up c (m + 1) := by
  rw [mixI, hd, if_neg (by simpa using h)]

def codeV (X : Five) : Value := .agg #[.int .i64 35, .int .u64 X.x0, .int .u64 X.x1, .int .u64 X.x2, .int .u64 X.x3, .int .u64 X.x4]

set_option maxRecDepth 100000 in
set_option maxHeartbeats 3200000 in
theorem step_any (B : Nat) (x : Value) (vs : List UInt8) (c : Int) (X : Five) (w : World) (hx : Byt w B x vs) (hB : B ≤ w.heap.size) (hl : vs.length ≤ 60000) (hc0 : 0 ≤ c) (hc1 : c < 18446744073709551616) :
    Calls Tryd.prog 27 #[codeV X, .int .u64 c, x] w fun e w' => e = .returned (.int .u64 (vs.foldl (stepI X) c)) ∧ Below w.heap.size w w' := by
  obtain ⟨A, cx, hxf⟩ := hx.form
  subst hxf
  have hX := Lib.hid hx
  clear hx
  unfold codeV
  obtain ⟨x0, x1, x2, x3, x4⟩ := X
  have i0 : ∀ w, (Instr.index 47 (.agg #[.int .u64 x0, .int .u64 x1, .int .u64 x2, .int .u64 x3, .int .u64 x4]) (.int .i64 0)).run Tryd.prog w = .ok (.int .u64 x0) w := fun _ => by kernel_rfl
  have i1 : ∀ w, (Instr.index 47 (.agg #[.int .u64 x0, .int .u64 x1, .int .u64 x2, .int .u64 x3, .int .u64 x4]) (.int .i64 1)).run Tryd.prog w = .ok (.int .u64 x1) w := fun _ => by kernel_rfl
  have i2 : ∀ w, (Instr.index 47 (.agg #[.int .u64 x0, .int .u64 x1, .int .u64 x2, .int .u64 x3, .int .u64 x4]) (.int .i64 2)).run Tryd.prog w = .ok (.int .u64 x2) w := fun _ => by kernel_rfl
  have i3 : ∀ w, (Instr.index 47 (.agg #[.int .u64 x0, .int .u64 x1, .int .u64 x2, .int .u64 x3, .int .u64 x4]) (.int .i64 3)).run Tryd.prog w = .ok (.int .u64 x3) w := fun _ => by kernel_rfl
  have i4 : ∀ w, (Instr.index 47 (.agg #[.int .u64 x0, .int .u64 x1, .int .u64 x2, .int .u64 x3, .int .u64 x4]) (.int .i64 4)).run Tryd.prog w = .ok (.int .u64 x4) w := fun _ => by kernel_rfl
  go_enter Tryd.func27, Tryd.ntmps27
  go_wp2_with fail
  go_loopw [14, 1] (fun j cc wr => ∃ (i : Nat) (k : Int), i ≤ vs.length ∧ j = .int .i64 i ∧ cc = .int .u64 k ∧ 0 ≤ k ∧ k < 18446744073709551616 ∧ Hid ((vs.drop i).foldl (stepI ⟨x0, x1, x2, x3, x4⟩) k = vs.foldl (stepI ⟨x0, x1, x2, x3, x4⟩) c) ∧ wr = w.alloc (.cells #[.int .i64 35, .int .u64 x0, .int .u64 x1, .int .u64 x2, .int .u64 x3, .int .u64 x4] 49)) (fun j _ _ => vs.length - (intOf j).toNat)
  case atStart => exact ⟨0, c, Nat.zero_le _, rfl, rfl, hc0, hc1, Lib.hid rfl, rfl⟩
  case round =>
    obtain ⟨i, k, hi, rfl, rfl, hk0, hk1, hfold, hw⟩ := hrel
    by_cases hlt : i < vs.length
    · obtain ⟨A', c', e0, _, _, _, h4⟩ := hX.out
      injection e0 with e1 e2 e3
      subst e1 e3
      obtain ⟨b, o, rfl, hb, hbc⟩ := h4 (by rintro rfl; simp at hlt)
      have hci := hbc i _ (List.getElem?_eq_getElem hlt)
      obtain ⟨q, hq⟩ : ∃ q, q = vs[i] := ⟨_, rfl⟩
      rw [← hq] at hci
      subst hw
      have hbi : ∀ o', (w.alloc o').cell? ⟨b, o + i, none⟩ = some (.int .u8 (q.toNat : Int)) := fun o' => (World.cell?_alloc_lt w _ _ (by show b < _; omega)).trans hci
      have hqw : IntKind.u64.wrap (q.toNat : Int) = q.toNat := by have := q.toNat_lt; rw [IntKind.wrap_u64]; omega
      have hnext : (vs.drop (i + 1)).foldl (stepI ⟨x0, x1, x2, x3, x4⟩) (stepI ⟨x0, x1, x2, x3, x4⟩ k q) = vs.foldl (stepI ⟨x0, x1, x2, x3, x4⟩) c := by
        rw [← hfold.out, List.drop_eq_getElem_cons hlt, List.foldl_cons, ← hq]
      have hbd := stepI_bd ⟨x0, x1, x2, x3, x4⟩ k q
      unfold stepI at hbd
      have HN := Lib.hid hnext
      have HQ := Lib.hid hq
      clear hci hbc h4 hq hnext hfold
      obtain ⟨up, hup⟩ : ∃ up, up = k / 34359738368 := ⟨_, rfl⟩
      obtain ⟨z, hz⟩ : ∃ z, z = bits .xor .u64 (IntKind.u64.wrap (bits .and .u64 k 34359738367 * 32)) (q.toNat : Int) := ⟨_, rfl⟩
      have hupd : 0 ≤ up ∧ up < 18446744073709551616 := by omega
      have HS : Hid (stepI ⟨x0, x1, x2, x3, x4⟩ k q = mixI ⟨x0, x1, x2, x3, x4⟩ up z 5) := Lib.hid (by rw [hup, hz]; rfl)
      rw [← hup, ← hz] at hbd
      go_wp2
      rw [← hz, ← hup]
      clear hz hup
      go_loopw [34, 1] (fun j cc wr => ∃ m : Nat, m ≤ 5 ∧ j = .int .i64 m ∧ cc = .int .u64 (mixI ⟨x0, x1, x2, x3, x4⟩ up z m) ∧ wr = w.alloc (.cells #[.int .i64 35, .int .u64 x0, .int .u64 x1, .int .u64 x2, .int .u64 x3, .int .u64 x4] 49)) (fun j _ _ => 5 - (intOf j).toNat)
      case atStart => exact ⟨0, by omega, rfl, rfl, rfl⟩
      case round =>
        obtain ⟨m, hm, rfl, rfl, rfl⟩ := hrel
        by_cases h5 : m < 5
        · obtain rfl | rfl | rfl | rfl | rfl : m = 0 ∨ m = 1 ∨ m = 2 ∨ m = 3 ∨ m = 4 := by omega
          all_goals go_wp2
          · rename_i ht
            have e := mixy (X := ⟨x0, x1, x2, x3, x4⟩) (up := up) (c := z) 0 up (by simp) ht
            exact ⟨⟨1, by omega, rfl, congrArg (Value.int .u64) e, trivial⟩, by simp [intOf]⟩
          · rename_i ht
            have e := mixn (X := ⟨x0, x1, x2, x3, x4⟩) (up := up) (c := z) 0 up (by simp) ht
            exact ⟨⟨1, by omega, rfl, congrArg (Value.int .u64) e, trivial⟩, by simp [intOf]⟩
          · rename_i ht
            have e := mixy (X := ⟨x0, x1, x2, x3, x4⟩) (up := up) (c := z) 1 (up / 2) (by simp) ht
            exact ⟨⟨2, by omega, rfl, congrArg (Value.int .u64) e, trivial⟩, by simp [intOf]⟩
          · rename_i ht
            have e := mixn (X := ⟨x0, x1, x2, x3, x4⟩) (up := up) (c := z) 1 (up / 2) (by simp) ht
            exact ⟨⟨2, by omega, rfl, congrArg (Value.int .u64) e, trivial⟩, by simp [intOf]⟩
          · rename_i ht
            have e := mixy (X := ⟨x0, x1, x2, x3, x4⟩) (up := up) (c := z) 2 (up / 4) (by simp) ht
            exact ⟨⟨3, by omega, rfl, congrArg (Value.int .u64) e, trivial⟩, by simp [intOf]⟩
          · rename_i ht
            have e := mixn (X := ⟨x0, x1, x2, x3, x4⟩) (up := up) (c := z) 2 (up / 4) (by simp) ht
            exact ⟨⟨3, by omega, rfl, congrArg (Value.int .u64) e, trivial⟩, by simp [intOf]⟩
          · rename_i ht
            have e := mixy (X := ⟨x0, x1, x2, x3, x4⟩) (up := up) (c := z) 3 (up / 8) (by simp) ht
            exact ⟨⟨4, by omega, rfl, congrArg (Value.int .u64) e, trivial⟩, by simp [intOf]⟩
          · rename_i ht
            have e := mixn (X := ⟨x0, x1, x2, x3, x4⟩) (up := up) (c := z) 3 (up / 8) (by simp) ht
            exact ⟨⟨4, by omega, rfl, congrArg (Value.int .u64) e, trivial⟩, by simp [intOf]⟩
          · rename_i ht
            have e := mixy (X := ⟨x0, x1, x2, x3, x4⟩) (up := up) (c := z) 4 (up / 16) (by simp) ht
            exact ⟨⟨5, by omega, rfl, congrArg (Value.int .u64) e, trivial⟩, by simp [intOf]⟩
          · rename_i ht
            have e := mixn (X := ⟨x0, x1, x2, x3, x4⟩) (up := up) (c := z) 4 (up / 16) (by simp) ht
            exact ⟨⟨5, by omega, rfl, congrArg (Value.int .u64) e, trivial⟩, by simp [intOf]⟩
        · have hm5 : m = 5 := by omega
          subst hm5
          go_wp2
          have hs := HS.out
          refine ⟨⟨i + 1, mixI ⟨x0, x1, x2, x3, x4⟩ up z 5, by omega, by go_num, rfl, hbd.1, hbd.2, ?_, trivial⟩, by simp [intOf]; omega⟩
          rw [← hs]
          exact HN
    · have hie : i = vs.length := by omega
      subst hw
      have HF := Lib.hid (hfold.out)
      go_wp2
      go_ret
      have hf := HF.out
      rw [List.drop_eq_nil_of_le (by omega)] at hf
      exact ⟨by rw [← hf]; rfl, (Below.refl _ _).alloc (Nat.le_refl _) _⟩

end Go.Proofs.YtehodjbjioepnaaDoor

/-
  text.fives: values of five bits, the most significant first. Conditions: at most 12 values; the number is below 2^64.
-/
namespace Go.Proofs.YtehodjbjioepnaaDoor
open Go.RowKit

def fiveI (c : Int) (d : Nat) : UInt8 := b8 (bits .and .u64 (c / 2 ^ d) 31)
def fivesI (c : Int) (n : Nat) : List UInt8 := (List.range n).map fun i => fiveI c (5 * (n - 1 - i))

set_option maxRecDepth 100000 in
set_option maxHeartbeats 1600000 in
theorem fives_any (c : Int) (n : Nat) (w : World) (hn : n ≤ 8) (_hc0 : 0 ≤ c) (_hc1 : c < 18446744073709551616) :
    Calls Tryd.prog 28 #[.int .u64 c, .int .i64 n] w fun e w' => e = .returned (.slice (some ⟨w.heap.size, 0, none⟩) n n) ∧ Row w' w.heap.size (fivesI c n) ∧ Below w.heap.size w w' := by
  have hmk := fun W => make_bytes W n (n : Int) rfl (by omega)
  obtain ⟨ls, hls⟩ : ∃ ls, ls = fivesI c n := ⟨_, rfl⟩
  have hll : ls.length = n := by rw [hls]; simp [fivesI]
  rw [← hls]
  have HLS := Lib.hid hls
  have HLL := Lib.hid hll
  clear hls hll
  go_enter Tryd.func28, Tryd.ntmps28
  go_wp2_with fail
  clear hmk
  go_loopw [11] (fun j wr => ∃ i : Nat, i ≤ n ∧ j = .int .i64 i ∧ FillB w w.heap.size i ls wr) (fun j _ => n - (intOf j).toNat)
  case atStart => exact ⟨0, Nat.zero_le _, rfl, _, rfl, by simpa [HLL.out] using row_new w n, (Below.refl _ _).alloc (Nat.le_refl _) _⟩
  case round =>
    obtain ⟨i, hi, rfl, hfill⟩ := hrel
    by_cases hlt : i < n
    · obtain ⟨zs, hz, hrow, hbel⟩ := hfill
      have hcell : wr.cell? ⟨w.heap.size, i, none⟩ = some (.int .u8 0) := hrow.cell (fillB_zero (by rw [HLL.out]; exact hlt) hz)
      have hfree := hrow.free i
      have hat : ls[i]? = some (fiveI c (5 * (n - 1 - i))) := by
        rw [HLS.out]; unfold fivesI; rw [List.getElem?_map, List.getElem?_range hlt]; rfl
      have hi8 : i ≤ 8 := by omega
      have HZ := Lib.hid hz
      have HR := Lib.hid hrow
      have HA := Lib.hid hat
      clear hz hrow hat
      go_wp2
      refine ⟨⟨i + 1, by omega, by go_num, fillB_next (by rw [HLL.out]; exact hlt) HA.out HZ.out ?_ (hbel.setCell (Nat.le_refl _) _)⟩, by simp [intOf]; omega⟩
      have h1 := HR.out.set (i := i) (fiveI c (5 * (n - 1 - i)))
      unfold fiveI at h1
      rw [bv_b8] at h1
      exact h1
    · have hie : i = ls.length := by rw [HLL.out]; omega
      rw [hie] at hfill
      have HF := Lib.hid (fillB_end hfill)
      clear hie hfill
      go_wp2
      go_ret
      exact ⟨rfl, HF.out.1, HF.out.2⟩

end Go.Proofs.YtehodjbjioepnaaDoor

/-
  text.leadingZeros. Conditions: sizes within the reach.
-/
namespace Go.Proofs.YtehodjbjioepnaaDoor
open Go.RowKit

def zerosN (xs : List UInt8) : Nat := (xs.takeWhile (· == 0)).length

theorem zerosN_all {xs : List UInt8} (h : ∀ (i : Nat) (c : UInt8), xs[i]? = some c → c = 0) : zerosN xs = xs.length := by
  unfold zerosN
  have hall : ∀ l : List UInt8, (∀ d ∈ l, d = 0) → l.takeWhile (· == 0) = l := by
    intro l
    induction l with
    | nil => intro _; rfl
    | cons a l ih =>
      intro hl
      rw [List.takeWhile_cons_of_pos (by simp [hl a (List.mem_cons_self)]), ih fun d hd => hl d (List.mem_cons_of_mem _ hd)]
  rw [hall xs fun d hd => by obtain ⟨i, hi⟩ := List.mem_iff_getElem?.1 hd; exact h i d hi]
theorem zerosN_at {xs : List UInt8} {i : Nat} {c : UInt8} (hall : ∀ (j : Nat) (d : UInt8), j < i → xs[j]? = some d → d = 0) (hi : xs[i]? = some c) (hc : c ≠ 0) : zerosN xs = i := by
  have hlt := (List.getElem?_eq_some_iff.1 hi).1
  have hx : xs = xs.take i ++ c :: xs.drop (i + 1) := by
    have h := List.getElem?_eq_some_iff.1 hi
    conv => lhs; rw [← List.take_append_drop i xs, List.drop_eq_getElem_cons hlt, h.2]
  have ht : ∀ d ∈ xs.take i, (d == 0) = true := by
    intro d hd
    obtain ⟨j, hj⟩ := List.mem_iff_getElem?.1 hd
    rw [List.getElem?_take] at hj
    split at hj
    · next h => simp [hall j d h hj]
    · cases hj
  unfold zerosN
  rw [hx, List.takeWhile_append_of_pos ht, List.takeWhile_cons_of_neg (by simpa using hc)]
  simp
  omega

set_option maxRecDepth 100000 in
set_option maxHeartbeats 1600000 in
theorem zeros_any (B : Nat) (x : Value) (xs : List UInt8) (w : World) (hx : Byt w B x xs) (hl : xs.length ≤ 60000) :
    Calls Tryd.prog 29 #[x] w fun e w' => e = .returned (.int .i64 (zerosN xs)) ∧ w = w' := by
  obtain ⟨A, c, hxf⟩ := hx.form
  subst hxf
  have hX := Lib.hid hx
  clear hx
  go_enter Tryd.func29, Tryd.ntmps29
  go_wp2_with fail
  go_loopw [7] (fun j wr => ∃ i : Nat, i ≤ xs.length ∧ j = .int .i64 i ∧ wr = w ∧ Hid (∀ (k : Nat) (d : UInt8), k < i → xs[k]? = some d → d = 0)) (fun j _ => xs.length - (intOf j).toNat)
  case atStart => exact ⟨0, Nat.zero_le _, rfl, rfl, Lib.hid (fun k d h => by omega)⟩
  case round =>
    obtain ⟨i, hi, rfl, rfl, hall⟩ := hrel
    by_cases hlt : i < xs.length
    · obtain ⟨A', c', e0, _, _, _, h4⟩ := hX.out
      injection e0 with e1 e2 e3
      subst e1 e3
      obtain ⟨b, o, rfl, hb, hbc⟩ := h4 (by rintro rfl; simp at hlt)
      have hci := hbc i _ (List.getElem?_eq_getElem hlt)
      obtain ⟨q, hq⟩ : ∃ q, q = xs[i] := ⟨_, rfl⟩
      rw [← hq] at hci
      have hbi : wr.cell? ⟨b, o + i, none⟩ = some (.int .u8 (q.toNat : Int)) := hci
      have hqi : xs[i]? = some q := by rw [hq]; exact List.getElem?_eq_getElem hlt
      have HQ := Lib.hid hqi
      clear hci hbc h4 hq hqi
      by_cases hz : q = 0
      · have hb0 : ((q.toNat : Int) != 0) = false := by rw [hz]; rfl
        go_wp2
        refine ⟨⟨i + 1, by omega, by go_num, trivial, Lib.hid (fun k d hk hd => ?_)⟩, by simp [intOf]; omega⟩
        by_cases hki : k < i
        · exact hall.out k d hki hd
        · have : k = i := by omega
          subst this
          rw [HQ.out] at hd
          injection hd with hd
          rw [← hd, hz]
      · have hb1 : ((q.toNat : Int) != 0) = true := by
          have : q.toNat ≠ 0 := fun h => hz (UInt8.toNat_inj.1 h)
          simp; omega
        have hr := zerosN_at hall.out HQ.out hz
        have HR := Lib.hid hr
        clear hr
        go_wp2
        go_ret
        exact ⟨by rw [HR.out]; rfl, rfl⟩
    · have hr : zerosN xs = xs.length := zerosN_all (fun j d hj => hall.out j d (by have := (List.getElem?_eq_some_iff.1 hj).1; omega) hj)
      have HR := Lib.hid hr
      clear hr
      go_wp2
      go_ret
      exact ⟨by rw [HR.out]; rfl, rfl⟩

end Go.Proofs.YtehodjbjioepnaaDoor

/-
  text.rebase: the same number in digits of another base, behind as many zeros. Conditions: the bases are from 2 to 256; sizes within the reach.
-/
namespace Go.Proofs.YtehodjbjioepnaaDoor
open Go.RowKit Go.Shelf

attribute [local go_sem] Oper.semAt_some

theorem Byt.tail {w : World} {B c : Nat} {A : Option Addr} {xs : List UInt8} (h : Byt w B (.slice A xs.length c) xs) {k : Nat} (hk : k ≤ xs.length) :
    Byt w B (.slice (if c = k then A else A.map (fun x => x.add k)) (xs.length - k) (c - k)) (xs.drop k) := by
  obtain ⟨A', c', e, h1, h2, h3, h4⟩ := h
  injection e with e1 e2 e3
  subst e1 e3
  by_cases hck : c = k
  · rw [if_pos hck]
    have hd : xs.drop k = [] := List.drop_of_length_le (by omega)
    rw [hd]
    refine ⟨A, c - k, by rw [List.length_nil]; congr 1; omega, Nat.zero_le _, by omega, fun h => ⟨rfl, by have := (h3 h).2; omega⟩, fun h => absurd rfl h⟩
  · rw [if_neg hck]
    refine ⟨_, _, by rw [List.length_drop], by rw [List.length_drop]; omega, by omega, fun h => ?_, fun hne => ?_⟩
    · cases A with
      | none => obtain ⟨rfl, hc0⟩ := h3 rfl; exact ⟨by simp, by omega⟩
      | some a => cases h
    · obtain ⟨b, o, rfl, hb, hcell⟩ := h4 (by rintro rfl; simp at hne)
      have hadd : (⟨b, o, none⟩ : Addr).add k = ⟨b, o + k, none⟩ := by
        unfold Addr.add
        split <;> simp_all
      refine ⟨b, o + k, by simp [hadd], hb, fun j u hu => ?_⟩
      rw [Nat.add_assoc]
      exact hcell _ u (by rw [← hu, List.getElem?_drop])

theorem run_tail (A : Option Addr) (n c z : Nat) (hz : z ≤ n) (W : World) :
    (Instr.slice 22 (.slice A n c) (some (.int .i64 (z : Int))) none none).run Tryd.prog W = .ok (.slice (if c = z then A else A.map (fun x => x.add z)) (n - z) (c - z)) W := by
  obtain ⟨i0, hi, hz0, hz1, hz2⟩ := info_parts info_u8
  have he : Tryd.prog.elem 22 = 5 := by kernel_rfl
  have ht : Tryd.prog.underlying 22 = some (.slice (Tryd.prog.elem 22)) := by rw [he]; exact slice_u8
  rw [run_slice_l (ht := ht) (h0 := by omega) (h1 := by omega), he]
  simp [sizeOf, typeInfo, hi, hz1, sliced, go_sem]
theorem wpListIn_append_bytes {F : Fence} {m : Nat} {P : Program} {w : World} {ops : Array Oper} {rest : List Oper} {o : Oper} {a : Act} {Q : Exit → Act → World → Prop} (hg : o.guard = none) (s x : Operand) (t : TypeId)
    (hop : o.op = .call { callee := .builtin .append, args := #[s, x], argTypes := #[t, t] })
    (base : Nat) (e : TypeId) (i : TypeInfo) (ht : P.underlying t = some (.slice e)) (hi : P.info? e = some i)
    (hz : i.zero = some (.int .u8 0)) (hsize : i.size = 1) (hby : i.bytes = 1)
    (v : Value) (n : Nat) (xs : List Value) (hs : a.eval s = v) (hown : w.ownsRow base e 1 v n xs)
    (B : Nat) (u : Value) (ys : List UInt8) (hx : a.eval x = u) (hr : Byt w B u ys) (hb : n + ys.length ≤ 140737488355328) (hbase : base ≤ w.heap.size)
    (h : ∀ v' w', w'.ownsRow base e 1 v' (n + ys.length) (xs ++ ys.map bv) → w.grownBy w' v.ownBlock → (v'.ownBlock = v.ownBlock ∨ v'.ownBlock = some w.heap.size) → wpListIn F m P ops Q rest (a.put o.dst v') w') :
    wpListIn F m P ops Q (o :: rest) a w := by
  refine wpListIn_plain hg fun K hK' => ?_
  obtain ⟨v', w', hrun, h2, h3, h4⟩ := run_append_bytes (P := P) w base t o.type e i ht hi hz hsize hby v n xs hown B u ys hr hb hbase
  unfold Oper.wpIn
  refine ⟨?_, ?_⟩
  · simp [Oper.about, hop, resolve, Target.leads, Sem.run_pure]
  · rw [Oper.semAt_plain F _ _ (by rw [hop]; intro c hc'; cases hc')]
    simp [execOp, hop, resolve, invoke, builtin, hs, hx, hrun, Result.andThen]
    exact hK' _ _ (h v' w' h2 h3 h4)

theorem ownFrom_size {β : Type} (B N : Nat) : OwnFrom B (fun (_ : β) W => N ≤ W.heap.size) := fun _ _ _ _ hs hg _ => Nat.le_trans hs hg.size
theorem zerosN_le (xs : List UInt8) : zerosN xs ≤ xs.length := by
  unfold zerosN
  exact (List.takeWhile_prefix _).length_le

/-- What has come behind the zeros. -/
def outP (z : Nat) (pre : List (Nat × UInt8)) : List UInt8 := List.replicate z 0 ++ pre.map Prod.snd
theorem outP_snoc (z : Nat) (pre : List (Nat × UInt8)) (x : Nat × UInt8) : outP z (pre ++ [x]) = outP z pre ++ [x.2] := by simp [outP]
theorem outP_length (z : Nat) (pre : List (Nat × UInt8)) : (outP z pre).length = z + pre.length := by simp [outP]
theorem outP_all (z : Nat) (bs : List UInt8) : outP z (upto (fromEnd bs) bs.length) = List.replicate z 0 ++ bs.reverse := by
  unfold outP
  congr 1
  apply List.ext_getElem
  · simp [upto]
  · intro i h1 h2
    simp only [List.length_map, upto_length] at h1
    simp only [upto, List.map_map, List.getElem_map, List.getElem_range, Function.comp, fromEnd, List.getElem_reverse]
    rw [List.getElem?_eq_getElem (by omega)]
    rfl

/-- The digits in the other base. -/
def RebOf (b f : Nat) (ds out : List UInt8) : Prop := ∃ asc, AscOf b (valF f (ds.drop (zerosN ds))) asc ∧ out = List.replicate (zerosN ds) 0 ++ asc.reverse

theorem ownsRow_zero (w : World) (n : Nat) (hn : n ≤ maxLen) : (w.alloc (.cells (zeroRow n) 5)).ownsRow w.heap.size 5 1 (.slice (some ⟨w.heap.size, 0, none⟩) n n) n ((List.replicate n (0 : UInt8)).map bv) :=
  ⟨by simp, .inr ⟨w.heap.size, n, zeroRow n, rfl, Nat.le_refl _, heap_alloc_new w _, Nat.le_refl _, hn, by simp [zeroRow], by simp [zeroRow]⟩⟩

set_option maxRecDepth 100000 in
set_option maxHeartbeats 3200000 in
theorem reb_in (B : Nat) (x : Value) (ds : List UInt8) (f b : Nat) (w : World) (hx : Byt w B x ds) (hB : B ≤ w.heap.size) (hl : ds.length ≤ 20000) (hf0 : 2 ≤ f) (hf1 : f ≤ 256) (hb0 : 2 ≤ b) (hb1 : b ≤ 256) (hds : ∀ d ∈ ds, d.toNat < f) :
    CallsIn Fence.wide 3 Tryd.prog 20 #[x, .int .i64 f, .int .i64 b] w fun e w' => ∃ v out, e = .returned v ∧ RebOf b f ds out ∧ OwnB w' w.heap.size v out ∧ Below w.heap.size w w' := by
  obtain ⟨i0, hi, hz0, hz1, hz2⟩ := info_parts info_u8
  have hz := zerosN_le ds
  have ZC := (callsIn_wide (n := 2)).2 (zeros_any B x ds w hx (by omega))
  obtain ⟨A, c, hxf⟩ := hx.form
  subst hxf
  have hcap := hx.cap
  obtain ⟨z, hzz⟩ : ∃ z, z = zerosN ds := ⟨_, rfl⟩
  rw [← hzz] at ZC hz
  have hmk := fun W => make_bytes W z (z : Int) rfl (by omega)
  have hty := hx.tail hz
  obtain ⟨W1, hW1⟩ : ∃ W1, W1 = w.alloc (.cells (zeroRow z) 5) := ⟨_, rfl⟩
  have hs1 : W1.heap.size = w.heap.size + 1 := by rw [hW1]; simp
  have hown1 := ownsRow_zero w z (by unfold maxLen; omega)
  rw [← hW1] at hown1
  have hB1 : Below w.heap.size w W1 := by rw [hW1]; exact (Below.refl _ w).alloc (Nat.le_refl _) _
  obtain ⟨ts, hts⟩ : ∃ ts, ts = ds.drop z := ⟨_, rfl⟩
  have htl : ts.length = ds.length - z := by rw [hts, List.length_drop]
  rw [← hts] at hty
  have AC := (callsIn_wide (n := 2)).2 (asc_any B _ ts f b (W1.alloc (.cells #[.slice (some ⟨w.heap.size, 0, none⟩) z z] 22)) ((hty.below (hB1.mono hB)).below ((Below.refl _ _).alloc (by omega) _)) (by simp; omega) (by omega) hf0 hf1 hb0 hb1 (fun d hd => hds d (by rw [hts] at hd; exact List.mem_of_mem_drop hd)))
  have HX := Lib.hid hx
  have HTY := Lib.hid hty
  have HZ := Lib.hid ZC
  have HA := Lib.hid AC
  have HTS := Lib.hid hts
  have HZZ := Lib.hid hzz
  have HTL := Lib.hid htl
  clear hx hty ZC AC hts hzz htl
  obtain ⟨tA, htA⟩ : ∃ tA, tA = (if c = z then A else A.map (fun x => x.add z)) := ⟨_, rfl⟩
  have hrt := run_tail A ds.length c z hz
  rw [← htA] at HA hrt
  clear htA HTY
  have hf1' : Fence.wide.fn 29 := trivial
  have hf2' : Fence.wide.fn 31 := trivial
  have hf3' : Fence.wide.fn 30 := trivial
  refine callsIn_of_wp_marks Tryd.func20 rfl trivial ?_ rfl
  simp only [Tryd.ntmps20, List.size_toArray, List.length_cons, List.length_nil, Nat.reduceAdd, Nat.reduceSub, Array.replicate_succ, Array.replicate_zero, List.push_toArray, List.append_toArray, List.nil_append, List.cons_append]
  gi_wp2_with (gi_at_call 29; refine HZ.out.mono ?_; rintro e w' ⟨rfl, rfl⟩)
  rw [← hW1]
  refine HA.out.mono ?_
  rintro e W3 ⟨va, out, rfl, hasc, hownA, hb3⟩
  obtain ⟨A3, c3, rfl⟩ := hownA.form
  have hs3 := hb3.size
  rw [World.size_alloc, hs1] at hs3
  have hs3' : w.heap.size + 2 ≤ W3.heap.size := by omega
  have hbx : Boxed W3 (w.heap.size + 1) 22 (.slice (some ⟨w.heap.size, 0, none⟩) z z) := by
    have h := Boxed.new W1 22 (.slice (some ⟨w.heap.size, 0, none⟩) z z)
    rw [hs1] at h
    exact (hb3.block (w.heap.size + 1) (by rw [World.size_alloc, hs1]; omega)).trans h
  have hrow3 : W3.ownsRow w.heap.size 5 1 (.slice (some ⟨w.heap.size, 0, none⟩) z z) z ((List.replicate z (0 : UInt8)).map bv) :=
    own_turns hown1 (((Turns.refl (fun _ => False) W1).alloc _).trans (Turns.of_below hb3 (S := fun _ => False)) (fun _ _ h => h)) (fun _ _ h => h)
  have hB3 : Below w.heap.size w W3 := (hB1.alloc (by omega) _).trans (hb3.mono (by rw [World.size_alloc]; omega))
  have hAb : ∀ k, (Value.slice A3 out.length c3).ownBlock = some k → w.heap.size + 1 < k ∧ k < W3.heap.size := fun k hk => by
    have h := World.ownsRow.lt hownA k hk
    rw [World.size_alloc, hs1] at h
    omega
  have hby3 := hownA.byt
  have HOA := Lib.hid hAb
  have HASC := Lib.hid hasc
  have HBX := Lib.hid hbx
  have HROW := Lib.hid hrow3
  have HB3 := Lib.hid hB3
  have HBY := Lib.hid hby3
  clear hAb hasc hbx hrow3 hB3 hby3 hownA hb3 hs3 hown1 hB1 hs1 hW1 HX HA HZ hmk hrt
  gi_wp2_with (gi_at_call 30; refine (backw_in Fence.wide 2 trivial rfl _ _ _ _).mono ?_; rintro e w' ⟨rfl, rfl⟩)
  have bS := Boxed.new W3 22 (.slice A3 out.length c3)
  have hSv : ∀ k, (Value.slice A3 out.length c3).ownBlock = some k → (w.heap.size + 1 < k ∧ k ≤ W3.heap.size) := fun k hk => by
    have := HOA.out k hk
    omega
  have hol : out.length ≤ 160000 := by
    have h1 := valF_lt hf1 (by omega) ts (fun d hd => hds d (by rw [HTS.out] at hd; exact List.mem_of_mem_drop hd))
    have h2 := HASC.out.short hb0 h1
    have := HTL.out
    omega
  refine wpIn_rangeFunc_ownG (F := Fence.wide) (n := 3) rfl (by omega) (gf := 36) (lb := #[.pointer (some ⟨W3.heap.size, 0, none⟩)]) rfl trivial (enters_of Tryd.func36 (by kernel_rfl) rfl)
    (backw_stops Fence.wide 2 trivial rfl (by omega) W3.heap.size W3.heap.size (fun k => w.heap.size + 1 < k ∧ k ≤ W3.heap.size) _ out _ (by omega) (by simp) (by simp) hSv bS.cell (HBY.out.keep fun b o hb => ((Below.refl W3.heap.size W3).alloc (Nat.le_refl _) _).cell (p := ⟨b, o, none⟩) hb)) (fun h k => h.trans k) (fun W l o o' hl _ _ _ => Holds.putObj W l o' (by simp at hl; omega)) (Below.refl _ _) (fun _ => rfl)
    (fun pre W => (∃ v, Boxed W (w.heap.size + 1) 22 v ∧ W.ownsRow w.heap.size 5 1 v (outP z pre).length ((outP z pre).map bv) ∧ ∀ k, v.ownBlock = some k → ¬ (w.heap.size + 1 < k ∧ k ≤ W3.heap.size)) ∧ (Below w.heap.size w W ∧ W3.heap.size + 1 ≤ W.heap.size))
    (fun _ _ _ => False)
    (OwnFrom.and (Own.from (holdsRow_own w.heap.size (w.heap.size + 1) 22 5 1 (fun pre => (outP z pre).length) (fun pre => (outP z pre).map bv) (fun _ v => ∀ k, v.ownBlock = some k → ¬ (w.heap.size + 1 < k ∧ k ≤ W3.heap.size))) _) (OwnFrom.and (ownFrom_below (Nat.le_refl _) (by simp; omega)) (ownFrom_size _ _)))
    (fun _ _ _ _ _ hs _ _ => hs)
    ⟨⟨_, HBX.out.alloc _, by simpa [outP] using (HROW.out.alloc _), fun k hk => by
      have : w.heap.size = k := by simpa [Value.ownBlock] using hk
      omega⟩, HB3.out.alloc (by omega) _, by simp⟩
    (fun x => { tmps := #[.slice A ds.length c, .int .i64 f, .int .i64 b, undef, undef, undef, .slice none 0 0, .int .i64 z, .pointer (some ⟨w.heap.size + 1, 0, none⟩), undef, Value.int .u8 (x.2.toNat : Int), .slice A ds.length c, .int .i64 z, .int .i64 z, .slice (some ⟨w.heap.size, 0, none⟩) z z, .slice A ds.length c, .int .i64 z, .slice tA (ds.length - z) (c - z), .int .i64 f, .int .i64 b, .slice A3 out.length c3, .func (.func 36) #[] #[.pointer (some ⟨W3.heap.size, 0, none⟩)], .int .i64 (x.1 : Int), Value.int .u8 (x.2.toNat : Int), undef, undef, undef, undef, undef], defers := [] }) ?assign ?body ?done ?stop
  case assign =>
    intro l x W K hK
    gi_wp2
    exact hK
  case body =>
    rintro l pre x W ⟨⟨v, hv, hrow, hno⟩, hB, hsz⟩ hlt
    obtain ⟨Av, cv, rfl⟩ := own_form hrow
    have hc := hv.cell
    have hpl := outP_length z pre
    have hmade : Byt (W.alloc (.cells #[.int .u8 (x.2.toNat : Int)] 5)) (W.heap.size + 1) (.slice (some ⟨W.heap.size, 0, none⟩) 1 1) [x.2] :=
      Byt.made W _ [_] [x.2] rfl (by unfold maxLen; simp)
    have hpb : (outP z pre).length ≤ 200000 := by omega
    have HSN := Lib.hid (outP_snoc z pre x)
    clear hpl
    gi_wp2_with (gi_at_builtin; refine wpListIn_append_bytes rfl (.tmp 24) (.tmp 26) 22 rfl w.heap.size 5 i0 slice_u8 hi hz0 hz1 hz2 _ (outP z pre).length ((outP z pre).map bv) rfl (hrow.alloc _) (W.heap.size + 1) _ [x.2] rfl hmade (by simp; omega) (by have := hB.size; simp; omega) ?_; intro v' w1 hown' hgrow hat; obtain ⟨A', c', rfl⟩ := own_form hown'; obtain ⟨hv1, hv2, hr2, hk2, hb2⟩ := hv.appended (by decide) hrow hB.size (by omega) hown' hgrow; have hc1 := hv1.cell; have hf1 := hv1.frozen)
    refine ⟨hk2.from _, ?_, ⟨_, hv2, ?_, ?_⟩, hB.trans hb2, ?_⟩
    · refine Holds.setCell (p := ⟨w.heap.size + 1, 0, none⟩) (fun k hk => ?_) (by show ¬ (w.heap.size + 1 < w.heap.size + 1 ∧ _); omega) _
      refine (hgrow.block k (by simp; omega) (fun e => hno k e.symm hk)).trans (Below.heap_alloc _ _ _ (by omega))
    · rw [HSN.out]; simpa using hr2
    · intro k hk
      rcases hat with h | h
      · rw [h] at hk
        exact hno k hk
      · rw [h] at hk
        have h2 : W.heap.size + 1 = k := by simpa using hk
        omega
    · exact Nat.le_trans hsz hb2.size
  case done =>
    rintro D ys W hD rfl ⟨⟨v, hv, hrow, hno⟩, hB, hsz⟩ hK
    obtain ⟨Av, cv, rfl⟩ := own_form hrow
    have hc := hv.cell
    have HREB : Hid (RebOf b f ds (outP z (upto (fromEnd out) out.length))) := Lib.hid ⟨out, by rw [← HZZ.out, ← HTS.out]; exact HASC.out, by rw [outP_all, HZZ.out]⟩
    gi_wp2
    refine ⟨by simp, .inl ⟨_, _, rfl, run_takeDeferred hK, ?_⟩⟩
    exact ⟨_, results_tmp rfl _ _ _, .slice Av (outP z (upto (fromEnd out) out.length)).length cv, _, rfl, HREB.out, ownsRow_putObj hrow _ hK rfl, hB.trans (belowK_b (w := w) (Nat.le_refl _) W D _ _ (by simp at hD; omega) hK rfl rfl)⟩
  case stop =>
    rintro D c pre W _ _ h _
    exact h.elim
theorem reb_any (B : Nat) (x : Value) (ds : List UInt8) (f b : Nat) (w : World) (hx : Byt w B x ds) (hB : B ≤ w.heap.size) (hl : ds.length ≤ 20000) (hf0 : 2 ≤ f) (hf1 : f ≤ 256) (hb0 : 2 ≤ b) (hb1 : b ≤ 256) (hds : ∀ d ∈ ds, d.toNat < f) :
    Calls Tryd.prog 20 #[x, .int .i64 f, .int .i64 b] w fun e w' => ∃ v out, e = .returned v ∧ RebOf b f ds out ∧ OwnB w' w.heap.size v out ∧ Below w.heap.size w w' :=
  (callsIn_wide (n := 3)).1 (reb_in B x ds f b w hx hB hl hf0 hf1 hb0 hb1 hds)
end Go.Proofs.YtehodjbjioepnaaDoor

/-
  The checksum of a descriptor, on plain numbers: it is linear, and a byte that is another one makes another checksum. Conditions: none (plain mathematics).
-/
namespace Go.Proofs.YtehodjbjioepnaaDoor
open Go.RowKit

/-- The m-th of the five numbers. -/
def gN : Nat → Nat
  | 0 => 1056006543753
  | 1 => 730107360018
  | 2 => 118834127661
  | 3 => 236335490938
  | _ => 430795026429
def mixN (up : Nat) (c : Nat) : Nat → Nat
  | 0 => c
  | m + 1 => if up / 2 ^ m % 2 = 1 then mixN up c m ^^^ gN m else mixN up c m
/-- A value more. -/
def turnN (c v : Nat) : Nat := mixN (c / 34359738368) ((c % 34359738368 * 32) ^^^ v) 5

theorem mixN_out (up c : Nat) : ∀ m, mixN up c m = c ^^^ mixN up 0 m
  | 0 => (Nat.xor_zero c).symm
  | m + 1 => by
    unfold mixN
    split
    · rw [mixN_out up c m, Nat.xor_assoc]
    · exact mixN_out up c m
theorem gN_lt (m : Nat) : gN m < 1099511627776 := by
  unfold gN
  split <;> omega
theorem mixN_lt (up c : Nat) (hc : c < 1099511627776) : ∀ m, mixN up c m < 1099511627776
  | 0 => hc
  | m + 1 => by
    unfold mixN
    have h := mixN_lt up c hc m
    split
    · exact Nat.xor_lt_two_pow (n := 40) h (gN_lt m)
    · exact h
theorem turnN_lt (c v : Nat) (hv : v < 1099511627776) : turnN c v < 1099511627776 :=
  mixN_lt _ _ (Nat.xor_lt_two_pow (n := 40) (by omega) hv) 5

theorem mix_xor : ∀ a : Fin 32, ∀ b : Fin 32, mixN (a.val ^^^ b.val) 0 5 = mixN a.val 0 5 ^^^ mixN b.val 0 5 := by decide +kernel
theorem mix_low : ∀ a : Fin 32, mixN a.val 0 5 % 32 = 0 → a.val = 0 := by decide +kernel

theorem turnN_out (c v : Nat) : turnN c v = turnN c 0 ^^^ v := by
  unfold turnN
  rw [mixN_out _ (_ ^^^ v), mixN_out _ (_ ^^^ 0), Nat.xor_zero, Nat.xor_assoc, Nat.xor_assoc, Nat.xor_comm v]
theorem turnN_xor (c d : Nat) (hc : c < 1099511627776) (hd : d < 1099511627776) : turnN (c ^^^ d) 0 = turnN c 0 ^^^ turnN d 0 := by
  unfold turnN
  simp only [Nat.xor_zero]
  rw [mixN_out _ (_ * 32), mixN_out (c / _) (_ * 32), mixN_out (d / _) (_ * 32)]
  have e1 : (c ^^^ d) / 34359738368 = c / 34359738368 ^^^ d / 34359738368 := by
    have := Nat.shiftRight_xor_distrib (a := c) (b := d) (i := 35)
    simpa [Nat.shiftRight_eq_div_pow] using this
  have e2 : (c ^^^ d) % 34359738368 = c % 34359738368 ^^^ d % 34359738368 := by
    have := Nat.xor_mod_two_pow (a := c) (b := d) (n := 35)
    simpa using this
  have e3 : (c % 34359738368 ^^^ d % 34359738368) * 32 = c % 34359738368 * 32 ^^^ d % 34359738368 * 32 := by
    have := Nat.shiftLeft_xor_distrib (a := c % 34359738368) (b := d % 34359738368) (i := 5)
    simpa [Nat.shiftLeft_eq] using this
  have e4 := mix_xor ⟨c / 34359738368, by omega⟩ ⟨d / 34359738368, by omega⟩
  dsimp only at e4
  rw [e1, e2, e3, e4]
  generalize c % 34359738368 * 32 = x
  generalize d % 34359738368 * 32 = y
  generalize mixN (c / 34359738368) 0 5 = p
  generalize mixN (d / 34359738368) 0 5 = q
  rw [Nat.xor_assoc, Nat.xor_assoc, ← Nat.xor_assoc y p, Nat.xor_comm y p, Nat.xor_assoc p y]
theorem xor_zero_eq {a b : Nat} (h : a ^^^ b = 0) : a = b := by
  have := congrArg (· ^^^ b) h
  simpa [Nat.xor_assoc] using this
theorem turnN_zero {d : Nat} (hd : d < 1099511627776) (h : turnN d 0 = 0) : d = 0 := by
  unfold turnN at h
  rw [Nat.xor_zero, mixN_out] at h
  have h1 := xor_zero_eq h
  have h2 := mix_low ⟨d / 34359738368, by omega⟩ (by dsimp only; rw [← h1]; omega)
  dsimp only at h2
  rw [h2] at h1
  have h3 : mixN 0 0 5 = 0 := by decide
  rw [h3] at h1
  omega
/-- The same value keeps two apart. -/
theorem turnN_apart {c d v : Nat} (hc : c < 1099511627776) (hd : d < 1099511627776) (hne : c ≠ d) : turnN c v ≠ turnN d v := by
  intro h
  rw [turnN_out c, turnN_out d] at h
  have h1 : turnN (c ^^^ d) 0 = 0 := by
    rw [turnN_xor c d hc hd]
    have := congrArg (· ^^^ v) h
    simp only [Nat.xor_assoc, Nat.xor_self, Nat.xor_zero] at this
    rw [this, Nat.xor_self]
  exact hne (xor_zero_eq (turnN_zero (Nat.xor_lt_two_pow (n := 40) hc hd) h1))
theorem turnN_small (d : Nat) (hd : d < 34359738368) : turnN d 0 = d * 32 := by
  unfold turnN
  have h3 : ∀ x, mixN 0 x 5 = x := fun x => by rw [mixN_out]; show x ^^^ 0 = x; exact Nat.xor_zero x
  rw [Nat.xor_zero, Nat.div_eq_of_lt hd, Nat.mod_eq_of_lt hd, h3]

/-- What has come: the sum, the group, and how many are in it. -/
structure ChkSt where
  c : Nat
  g : Nat
  k : Nat
def chk1 (s : ChkSt) (p : Nat) : ChkSt :=
  if s.k + 1 = 3 then ⟨turnN (turnN s.c (p % 32)) (3 * s.g + p / 32), 0, 0⟩ else ⟨turnN s.c (p % 32), 3 * s.g + p / 32, s.k + 1⟩
def chkAll (ps : List Nat) : ChkSt := ps.foldl chk1 ⟨1, 0, 0⟩
def chkEnd (s : ChkSt) : Nat := if 0 < s.k then turnN s.c s.g else s.c
def eight (c : Nat) : Nat := turnN (turnN (turnN (turnN (turnN (turnN (turnN (turnN c 0) 0) 0) 0) 0) 0) 0) 0
def chkN (ps : List Nat) : Nat := eight (chkEnd (chkAll ps)) ^^^ 1

structure ChkOk (s : ChkSt) : Prop where
  c : s.c < 1099511627776
  k : s.k < 3
  g : s.g ≤ if s.k = 0 then 0 else if s.k = 1 then 2 else 8
theorem ChkOk.g8 {s : ChkSt} (h : ChkOk s) : s.g ≤ 8 := by have := h.g; split at this <;> (try split at this) <;> omega
theorem chk1_ok {s : ChkSt} {p : Nat} (h : ChkOk s) (hp : p < 96) : ChkOk (chk1 s p) := by
  have hg := h.g
  have hk := h.k
  have h8 := h.g8
  unfold chk1
  split
  · exact ⟨turnN_lt _ _ (by omega), by show 0 < 3; omega, by simp⟩
  · next hk3 =>
    refine ⟨turnN_lt _ _ (by omega), by show s.k + 1 < 3; omega, ?_⟩
    show 3 * s.g + p / 32 ≤ if s.k + 1 = 0 then 0 else if s.k + 1 = 1 then 2 else 8
    rw [if_neg (by omega)]
    split
    · have h0 : s.k = 0 := by omega
      rw [if_pos h0] at hg
      omega
    · have h1 : ¬ s.k = 0 := by omega
      rw [if_neg h1, if_pos (by omega)] at hg
      omega
theorem chkSt0_ok : ChkOk ⟨1, 0, 0⟩ := ⟨by decide, by decide, by simp⟩
theorem chkFold_ok (ps : List Nat) (hp : ∀ p ∈ ps, p < 96) : ∀ s, ChkOk s → ChkOk (ps.foldl chk1 s) := by
  induction ps with
  | nil => exact fun s h => h
  | cons p ps ih => exact fun s h => ih (fun q hq => hp q (List.mem_cons_of_mem _ hq)) _ (chk1_ok h (hp p List.mem_cons_self))
theorem chkEnd_lt {s : ChkSt} (h : ChkOk s) : chkEnd s < 1099511627776 := by
  have := h.g8
  unfold chkEnd
  split
  · exact turnN_lt _ _ (by omega)
  · exact h.c
theorem eight_lt (c : Nat) : eight c < 1099511627776 := turnN_lt _ _ (by omega)
theorem chkN_lt (ps : List Nat) : chkN ps < 1099511627776 := Nat.xor_lt_two_pow (n := 40) (eight_lt _) (by decide)

/-- Two that part: in the sum, or within a group that isn't closed yet. -/
def Part (s t : ChkSt) : Prop := s.k = t.k ∧ (s.c ≠ t.c ∧ s.g = t.g ∨ 0 < s.k ∧ s.c ^^^ t.c < 1024 ∧ (s.k = 1 → s.c ^^^ t.c < 32) ∧ (s.c ≠ t.c ∨ s.g ≠ t.g))

theorem xor_eq_of {a b d : Nat} (h : a ^^^ b = d) : a = b ^^^ d := by
  rw [← h, Nat.xor_comm a b, ← Nat.xor_assoc, Nat.xor_self, Nat.zero_xor]
theorem diff_turn {c d a b : Nat} (hc : c < 1099511627776) (hd : d < 1099511627776) (hx : c ^^^ d < 34359738368) : turnN c a ^^^ turnN d b = (c ^^^ d) * 32 ^^^ (a ^^^ b) := by
  rw [turnN_out c, turnN_out d, ← turnN_small _ hx, turnN_xor c d hc hd]
  generalize turnN c 0 = x
  generalize turnN d 0 = y
  rw [Nat.xor_assoc, Nat.xor_assoc, ← Nat.xor_assoc a y, Nat.xor_comm a y, Nat.xor_assoc y a]
theorem ne_of_xor {a b : Nat} (h : a ^^^ b ≠ 0) : a ≠ b := by rintro rfl; exact h (Nat.xor_self a)
theorem diff_ne {c d a b : Nat} (hc : c < 1099511627776) (hd : d < 1099511627776) (hx : c ^^^ d < 34359738368) (ha : a < 32) (hb : b < 32) (hne : c ≠ d ∨ a ≠ b) : turnN c a ≠ turnN d b := by
  refine ne_of_xor ?_
  rw [diff_turn hc hd hx]
  intro h
  have h1 := xor_zero_eq h
  have h2 : a ^^^ b < 32 := Nat.xor_lt_two_pow (n := 5) ha hb
  have h3 : c ^^^ d = 0 := by omega
  have h4 : a ^^^ b = 0 := by omega
  rcases hne with h | h
  · exact h (xor_zero_eq h3)
  · exact h (xor_zero_eq h4)

theorem part_next {s t : ChkSt} {p : Nat} (hs : ChkOk s) (ht : ChkOk t) (hp : p < 96) (h : Part s t) : Part (chk1 s p) (chk1 t p) := by
  obtain ⟨hk, h⟩ := h
  have hs8 := hs.g8
  have ht8 := ht.g8
  have hk3 := hs.k
  unfold chk1
  rw [← hk]
  rcases h with ⟨hne, hg⟩ | ⟨hk0, hx, hx1, hne⟩
  · split
    · refine ⟨rfl, .inl ⟨?_, rfl⟩⟩
      show turnN (turnN s.c (p % 32)) (3 * s.g + p / 32) ≠ turnN (turnN t.c (p % 32)) (3 * t.g + p / 32)
      rw [hg]
      exact turnN_apart (turnN_lt _ _ (by omega)) (turnN_lt _ _ (by omega)) (turnN_apart hs.c ht.c hne)
    · refine ⟨rfl, .inl ⟨turnN_apart hs.c ht.c hne, ?_⟩⟩
      show 3 * s.g + p / 32 = 3 * t.g + p / 32
      rw [hg]
  · have hd := diff_turn (a := p % 32) (b := p % 32) hs.c ht.c (by omega)
    rw [Nat.xor_self, Nat.xor_zero] at hd
    have hnc : s.c ≠ t.c → turnN s.c (p % 32) ≠ turnN t.c (p % 32) := turnN_apart hs.c ht.c
    split
    · refine ⟨rfl, .inl ⟨?_, rfl⟩⟩
      show turnN (turnN s.c (p % 32)) (3 * s.g + p / 32) ≠ turnN (turnN t.c (p % 32)) (3 * t.g + p / 32)
      refine diff_ne (turnN_lt _ _ (by omega)) (turnN_lt _ _ (by omega)) (by rw [hd]; omega) (by omega) (by omega) ?_
      rcases hne with h | h
      · exact .inl (hnc h)
      · exact .inr (by omega)
    · refine ⟨rfl, .inr ⟨?_, ?_, ?_, ?_⟩⟩
      · show 0 < s.k + 1
        omega
      · show turnN s.c (p % 32) ^^^ turnN t.c (p % 32) < 1024
        rw [hd]
        have := hx1 (by omega)
        omega
      · intro h
        have h2 : s.k + 1 = 1 := h
        omega
      · rcases hne with h | h
        · exact .inl (hnc h)
        · refine .inr ?_
          show 3 * s.g + p / 32 ≠ 3 * t.g + p / 32
          omega
theorem part_first {s : ChkSt} {p q : Nat} (hs : ChkOk s) (hp : p < 96) (hq : q < 96) (hne : p ≠ q) : Part (chk1 s p) (chk1 s q) := by
  have hs8 := hs.g8
  have hx : (s.c ^^^ s.c) < 34359738368 := by rw [Nat.xor_self]; omega
  have hd := diff_turn (a := p % 32) (b := q % 32) hs.c hs.c hx
  rw [Nat.xor_self, Nat.zero_mul, Nat.zero_xor] at hd
  have hlt : (p % 32) ^^^ (q % 32) < 32 := Nat.xor_lt_two_pow (n := 5) (by omega) (by omega)
  have hor : turnN s.c (p % 32) ≠ turnN s.c (q % 32) ∨ 3 * s.g + p / 32 ≠ 3 * s.g + q / 32 := by
    by_cases h : p % 32 = q % 32
    · exact .inr (by omega)
    · exact .inl (diff_ne hs.c hs.c hx (by omega) (by omega) (.inr h))
  unfold chk1
  split
  · exact ⟨rfl, .inl ⟨diff_ne (turnN_lt _ _ (by omega)) (turnN_lt _ _ (by omega)) (by rw [hd]; omega) (by omega) (by omega) hor, rfl⟩⟩
  · refine ⟨rfl, .inr ⟨?_, ?_, fun _ => ?_, hor⟩⟩
    · show 0 < s.k + 1
      omega
    · show turnN s.c (p % 32) ^^^ turnN s.c (q % 32) < 1024
      rw [hd]
      omega
    · show turnN s.c (p % 32) ^^^ turnN s.c (q % 32) < 32
      rw [hd]
      exact hlt
theorem part_fold (ps : List Nat) (hp : ∀ p ∈ ps, p < 96) : ∀ s t, ChkOk s → ChkOk t → Part s t → Part (ps.foldl chk1 s) (ps.foldl chk1 t) := by
  induction ps with
  | nil => exact fun s t _ _ h => h
  | cons p ps ih =>
    intro s t hs ht h
    have hp0 := hp p List.mem_cons_self
    exact ih (fun q hq => hp q (List.mem_cons_of_mem _ hq)) _ _ (chk1_ok hs hp0) (chk1_ok ht hp0) (part_next hs ht hp0 h)
theorem part_end {s t : ChkSt} (hs : ChkOk s) (ht : ChkOk t) (h : Part s t) : chkEnd s ≠ chkEnd t := by
  have hs8 := hs.g8
  have ht8 := ht.g8
  obtain ⟨hk, h⟩ := h
  unfold chkEnd
  rw [← hk]
  rcases h with ⟨hne, hg⟩ | ⟨hk0, hx, hx1, hne⟩
  · rw [← hg]
    split
    · exact turnN_apart hs.c ht.c hne
    · exact hne
  · rw [if_pos hk0, if_pos hk0]
    exact diff_ne hs.c ht.c (by omega) (by omega) (by omega) hne
theorem eight_apart {c d : Nat} (hc : c < 1099511627776) (hd : d < 1099511627776) (h : c ≠ d) : eight c ≠ eight d := by
  have l : ∀ c, turnN c 0 < 1099511627776 := fun c => turnN_lt _ _ (by omega)
  unfold eight
  exact turnN_apart (l _) (l _) (turnN_apart (l _) (l _) (turnN_apart (l _) (l _) (turnN_apart (l _) (l _) (turnN_apart (l _) (l _) (turnN_apart (l _) (l _) (turnN_apart (l _) (l _) (turnN_apart hc hd h)))))))
/-- One position that is another one makes another sum. -/
theorem chkN_apart (xs ys : List Nat) (p q : Nat) (hx : ∀ a ∈ xs, a < 96) (hy : ∀ a ∈ ys, a < 96) (hp : p < 96) (hq : q < 96) (hne : p ≠ q) : chkN (xs ++ p :: ys) ≠ chkN (xs ++ q :: ys) := by
  have h0 := chkFold_ok xs hx _ chkSt0_ok
  have h1 := chk1_ok h0 hp
  have h2 := chk1_ok h0 hq
  unfold chkN chkAll
  rw [List.foldl_append, List.foldl_append, List.foldl_cons, List.foldl_cons]
  have hP := part_fold ys hy _ _ h1 h2 (part_first h0 hp hq hne)
  have ha := chkFold_ok ys hy _ h1
  have hb := chkFold_ok ys hy _ h2
  have he := eight_apart (chkEnd_lt ha) (chkEnd_lt hb) (part_end ha hb hP)
  intro h
  refine he ?_
  have := congrArg (· ^^^ 1) h
  simpa [Nat.xor_assoc] using this

/-- The last eight values. -/
def eightOf (c : Nat) : List Nat := (List.range 8).map fun i => c / 2 ^ (5 * (7 - i)) % 32
theorem eightOf_inj {c d : Nat} (hc : c < 1099511627776) (hd : d < 1099511627776) (h : eightOf c = eightOf d) : c = d := by
  simp only [eightOf, List.range, List.range.loop, List.map_cons, List.map_nil, List.cons.injEq, and_true, Nat.reduceSub, Nat.reduceMul, Nat.reducePow] at h
  omega

def X0 : Five := ⟨1056006543753, 730107360018, 118834127661, 236335490938, 430795026429⟩
theorem X0_at (m : Nat) : X0.at_ m = ((gN m : Nat) : Int) := by
  match m with
  | 0 => rfl
  | 1 => rfl
  | 2 => rfl
  | 3 => rfl
  | n + 4 => rfl
theorem mixI_nat (up c : Nat) (hu : up < 1099511627776) (hc : c < 1099511627776) : ∀ m, mixI X0 up c m = ((mixN up c m : Nat) : Int)
  | 0 => rfl
  | m + 1 => by
    have h2 : ((up : Int) / 2 ^ m) = ((up / 2 ^ m : Nat) : Int) := by simp
    have hle : up / 2 ^ m ≤ up := Nat.div_le_self _ _
    unfold mixI mixN
    rw [h2]
    generalize up / 2 ^ m = d at hle
    rw [Lib.u64_and1 _ (by omega) (by omega), mixI_nat up c hu hc m, X0_at, bits_xor_u64_nat _ _ (by have := mixN_lt up c hc m; omega) (by have := gN_lt m; omega)]
    by_cases h : d % 2 = 1
    · rw [if_pos h, if_pos (by omega)]
    · rw [if_neg h, if_neg (by omega)]
theorem stepI_nat (c : Nat) (v : UInt8) (hc : c < 1099511627776) : stepI X0 c v = ((turnN c v.toNat : Nat) : Int) := by
  have hv := v.toNat_lt
  have h1 : bits .and .u64 (c : Int) 34359738367 = ((c % 34359738368 : Nat) : Int) := by
    have h := bits_mask .u64 64 (by decide) wraps_u64 35 (by decide) (c : Int) (by omega) (by omega)
    have e : ((2 : Int) ^ 35 - 1) = 34359738367 := by decide
    rw [e] at h
    rw [h]
    omega
  have h2 : IntKind.u64.wrap (((c % 34359738368 : Nat) : Int) * 32) = ((c % 34359738368 * 32 : Nat) : Int) := by rw [IntKind.wrap_u64]; omega
  unfold stepI turnN
  rw [h1, h2, bits_xor_u64_nat _ _ (by omega) (by omega)]
  have h3 : ((c : Int) / 34359738368) = ((c / 34359738368 : Nat) : Int) := by omega
  rw [h3, mixI_nat _ _ (by omega) (Nat.xor_lt_two_pow (n := 40) (by omega) (by omega))]
end Go.Proofs.YtehodjbjioepnaaDoor

/-
  text.Checksum: the sum of a descriptor. Conditions: the listed table holds what its text lays; sizes within the reach.
-/
namespace Go.Proofs.YtehodjbjioepnaaDoor
open Go.RowKit

/-- The descriptors' code lies where it lies. -/
def CodeIs (w : World) : Prop := 0 < w.heap.size ∧ w.cell? ⟨0, 0, none⟩ = some (.int .i64 35) ∧ w.cell? ⟨0, 1, none⟩ = some (.int .u64 1056006543753) ∧
  w.cell? ⟨0, 2, none⟩ = some (.int .u64 730107360018) ∧ w.cell? ⟨0, 3, none⟩ = some (.int .u64 118834127661) ∧ w.cell? ⟨0, 4, none⟩ = some (.int .u64 236335490938) ∧
  w.cell? ⟨0, 5, none⟩ = some (.int .u64 430795026429)
theorem CodeIs.below {w w' : World} {B : Nat} (h : CodeIs w) (hb : Below B w w') (hB : 0 < B) : CodeIs w' := by
  obtain ⟨h0, h1, h2, h3, h4, h5, h6⟩ := h
  have k := fun o => hb.cell (p := ⟨0, o, none⟩) hB
  exact ⟨Nat.lt_of_lt_of_le h0 hb.size, (k 0).trans h1, (k 1).trans h2, (k 2).trans h3, (k 3).trans h4, (k 4).trans h5, (k 5).trans h6⟩

def turnsN (c : Nat) (vs : List UInt8) : Nat := vs.foldl (fun c v => turnN c v.toNat) c
theorem turns_nat : ∀ (vs : List UInt8) (c : Nat), c < 1099511627776 → vs.foldl (stepI X0) (c : Int) = ((turnsN c vs : Nat) : Int)
  | [], _, _ => rfl
  | v :: vs, c, hc => by
    have hv := v.toNat_lt
    rw [List.foldl_cons, stepI_nat c v hc, turns_nat vs _ (turnN_lt _ _ (by omega))]
    rfl
theorem turns_call (B : Nat) (x : Value) (vs : List UInt8) (c : Nat) (w : World) (hx : Byt w B x vs) (hB : B ≤ w.heap.size) (hl : vs.length ≤ 60000) (hc : c < 1099511627776) :
    Calls Tryd.prog 27 #[.agg #[.int .i64 35, .int .u64 1056006543753, .int .u64 730107360018, .int .u64 118834127661, .int .u64 236335490938, .int .u64 430795026429], .int .u64 c, x] w fun e w' => e = .returned (.int .u64 ((turnsN c vs : Nat) : Int)) ∧ Below w.heap.size w w' := by
  rw [← turns_nat vs c hc]
  exact step_any B x vs c X0 w hx hB hl (by omega) (by omega)

/-- One value, boxed. -/
theorem turn_call (q : Int) (c : Nat) (w : World) (h0 : 0 ≤ q) (h1 : q < 256) (hc : c < 1099511627776) :
    Calls Tryd.prog 27 #[.agg #[.int .i64 35, .int .u64 1056006543753, .int .u64 730107360018, .int .u64 118834127661, .int .u64 236335490938, .int .u64 430795026429], .int .u64 c, .slice (some ⟨w.heap.size, 0, none⟩) 1 1] (w.alloc (.cells #[.int .u8 q] 5))
      fun e w' => e = .returned (.int .u64 ((turnN c q.toNat : Nat) : Int)) ∧ Below w.heap.size w w' := by
  have hm : Byt (w.alloc (.cells #[.int .u8 q] 5)) (w.heap.size + 1) (.slice (some ⟨w.heap.size, 0, none⟩) 1 1) [b8 q] :=
    Byt.made w _ [_] [b8 q] (by rw [List.map_cons, List.map_nil, bv_b8_of h0 h1]) (by unfold maxLen; simp)
  refine (turns_call _ _ [b8 q] c _ hm (by simp) (by simp) hc).mono ?_
  rintro e w' ⟨rfl, hb⟩
  refine ⟨?_, ((Below.refl _ _).alloc (Nat.le_refl _) _).trans (hb.mono (by simp))⟩
  have : (b8 q).toNat = q.toNat := by have := b8_toNat q; omega
  unfold turnsN
  rw [List.foldl_cons, List.foldl_nil, this]

theorem chk1_open (c g : Nat) {p : Nat} : chk1 ⟨c, g, 2⟩ p = ⟨turnN (turnN c (p % 32)) (3 * g + p / 32), 0, 0⟩ := rfl
theorem chk1_in (c g k : Nat) {p : Nat} (h : k < 2) : chk1 ⟨c, g, k⟩ p = ⟨turnN c (p % 32), 3 * g + p / 32, k + 1⟩ := by
  unfold chk1
  rw [if_neg (by show ¬ k + 1 = 3; omega)]
def natsOf (ps : List UInt8) : List Nat := ps.map UInt8.toNat
theorem chkAll_snoc {ps : List UInt8} {i : Nat} {q : UInt8} (h : ps[i]? = some q) : chkAll ((natsOf ps).take (i + 1)) = chk1 (chkAll ((natsOf ps).take i)) q.toNat := by
  unfold chkAll natsOf
  rw [List.take_add_one, List.getElem?_map, h, List.foldl_append]
  rfl

/-- The letters of a sum. -/
def l32 : ByteArray := ⟨#[113, 112, 122, 114, 121, 57, 120, 56, 103, 102, 50, 116, 118, 100, 119, 48, 115, 51, 106, 110, 53, 52, 107, 104, 99, 101, 54, 109, 117, 97, 55, 108]⟩
def inB : ByteArray := ⟨#[48, 49, 50, 51, 52, 53, 54, 55, 56, 57, 40, 41, 91, 93, 44, 39, 47, 42, 97, 98, 99, 100, 101, 102, 103, 104, 64, 58, 36, 37, 123, 125, 73, 74, 75, 76, 77, 78, 79, 80, 81, 82, 83, 84, 85, 86, 87, 88, 89, 90, 38, 43, 45, 46, 59, 60, 61, 62, 63, 33, 94, 95, 124, 126, 105, 106, 107, 108, 109, 110, 111, 112, 113, 114, 115, 116, 117, 118, 119, 120, 121, 122, 65, 66, 67, 68, 69, 70, 71, 72, 96, 35, 34, 92, 32]⟩
def sumLetters (c : Nat) : List UInt8 := (eightOf c).map fun v => l32.data.toList.getD v 0

end Go.Proofs.YtehodjbjioepnaaDoor

/-
  text.Checksum, walked. Conditions: the listed table holds what its text lays; sizes within the reach.
-/
namespace Go.Proofs.YtehodjbjioepnaaDoor
open Go.RowKit

theorem bits_xor1 (c : Nat) (hc : c < 1099511627776) : bits .xor .u64 (c : Int) 1 = ((c ^^^ 1 : Nat) : Int) := bits_xor_u64_nat c 1 (by omega) (by omega)
theorem fives_eight (c : Nat) (hc : c < 1099511627776) : (fivesI (c : Int) 8).map UInt8.toNat = eightOf c := by
  have key : ∀ i, (fiveI (c : Int) (5 * (8 - 1 - i))).toNat = c / 2 ^ (5 * (7 - i)) % 32 := by
    intro i
    have e8 : 8 - 1 - i = 7 - i := by omega
    rw [e8]
    generalize 5 * (7 - i) = d
    have h2 : ((c : Int) / 2 ^ d) = ((c / 2 ^ d : Nat) : Int) := by simp
    have hle : c / 2 ^ d ≤ c := Nat.div_le_self _ _
    unfold fiveI
    rw [h2]
    generalize c / 2 ^ d = e at hle
    have h3 := bits_mask .u64 64 (by decide) wraps_u64 5 (by decide) (e : Int) (by omega) (by omega)
    have e5 : ((2 : Int) ^ 5 - 1) = 31 := by decide
    rw [e5] at h3
    rw [h3]
    have h4 := b8_toNat ((e : Int) % 2 ^ 5)
    omega
  unfold fivesI eightOf
  rw [List.map_map]
  exact List.map_congr_left fun i _ => key i
theorem letters_sum (c : Nat) (hc : c < 1099511627776) : letters l32 (fivesI (c : Int) 8) = sumLetters c := by
  unfold letters sumLetters
  rw [← fives_eight c hc, List.map_map]
  rfl
theorem fives_small (c : Nat) (hc : c < 1099511627776) : ∀ p ∈ fivesI (c : Int) 8, p.toNat < l32.size := by
  intro p hp
  have h : p.toNat ∈ (fivesI (c : Int) 8).map UInt8.toNat := List.mem_map_of_mem hp
  rw [fives_eight c hc] at h
  unfold eightOf at h
  obtain ⟨i, _, hi⟩ := List.mem_map.1 h
  have : l32.size = 32 := by decide
  omega

theorem below_made2 {w w1 : World} {o : Obj} (h : Below (w.alloc o).drew.heap.size (w.alloc o).drew w1) : Below w.heap.size w w1 :=
  (((Below.refl _ w).alloc (Nat.le_refl _) o)).trans ⟨h.os, h.tape, h.output, Nat.le_trans (by simp) h.size, fun k hk => h.block k (Nat.lt_of_lt_of_le hk (by simp))⟩
/-- What Checksum answers. -/
def ChkPost (w : World) (cs : List UInt8) (e : Ending) (w' : World) : Prop :=
  Below w.heap.size w w' ∧ ((∀ c ∈ cs, 0 ≤ posB inB c) ∧ e = .returned (.tuple #[.string ⟨(sumLetters (chkN (natsOf (placesB inB cs)))).toArray⟩, .int .i64 0]) ∨ (∃ c ∈ cs, posB inB c < 0) ∧ e = .returned (.tuple #[.string ⟨#[]⟩, .int .i64 3]))

theorem inB_places {cs : List UInt8} (h : ∀ c ∈ cs, 0 ≤ posB inB c) : ∀ p ∈ natsOf (placesB inB cs), p < 96 := by
  intro p hp
  unfold natsOf placesB at hp
  rw [List.map_map] at hp
  obtain ⟨c, hc, rfl⟩ := List.mem_map.1 hp
  have h0 := h c hc
  obtain ⟨o, ho⟩ : ∃ o : Nat, posB inB c = o := ⟨(posB inB c).toNat, by omega⟩
  have h1 := (List.getElem?_eq_some_iff.1 (Lib.indexByte_some (l := inB.data.toList) (by exact ho)).1).1
  have h2 : inB.data.toList.length = 95 := by decide
  have h3 := b8_toNat (posB inB c)
  show (b8 (posB inB c)).toNat < 96
  omega

set_option maxRecDepth 100000 in
set_option maxHeartbeats 3200000 in
theorem checksum_any (s : ByteArray) (w : World) (hl : s.size ≤ 2000) (hcode : CodeIs w) :
    Calls Tryd.prog 17 #[.string s] w (ChkPost w s.data.toList) := by
  have HC := Lib.hid hcode
  clear hcode
  go_enter Tryd.func17, Tryd.ntmps17
  go_wp2_with fail
  refine (places_any s inB w (by omega) (by decide)).mono ?_
  rintro e w1 ⟨hb1, ⟨hall, rfl, hrow⟩ | ⟨hno, rfl⟩⟩
  · obtain ⟨ps, hps⟩ : ∃ ps, ps = placesB inB s.data.toList := ⟨_, rfl⟩
    have hpl : ps.length = s.data.toList.length := by rw [hps, placesB_length]
    have hsz : s.data.toList.length = s.size := rfl
    have hp96 := inB_places hall
    have hC1 : CodeIs w1 := HC.out.below hb1 HC.out.1
    rw [← hps] at hrow hp96
    have HP := Lib.hid hps
    have H96 := Lib.hid hp96
    have HA := Lib.hid hall
    have HR := Lib.hid hrow
    have HC1 := Lib.hid hC1
    obtain ⟨n, hn⟩ : ∃ n, n = s.data.toList.length := ⟨_, rfl⟩
    rw [← hn] at hpl hsz
    rw [← hn]
    have HN := Lib.hid hn
    have HPL := Lib.hid hpl
    have hn2 : n ≤ 2000 := by omega
    clear hps hp96 hall hrow hC1 hn hpl hsz
    go_wp2_with fail
    go_loopw [20, 6, 7, 8] (fun j cc gg kk wr => ∃ (i : Nat) (c g k : Nat), i ≤ n ∧ j = .int .i64 i ∧ cc = .int .u64 c ∧ gg = .int .u8 g ∧ kk = .int .i64 k ∧ Hid (chkAll ((natsOf ps).take i) = ⟨c, g, k⟩) ∧ ChkOk ⟨c, g, k⟩ ∧ Below w1.heap.size w1 wr) (fun j _ _ _ _ => n - (intOf j).toNat)
    case atStart => exact ⟨0, 1, 0, 0, Nat.zero_le _, rfl, rfl, rfl, rfl, Lib.hid rfl, chkSt0_ok, Below.refl _ _⟩
    case round =>
      obtain ⟨i, c, g, k, hi, rfl, rfl, rfl, rfl, hst, hok, hbel⟩ := hrel
      have hcc := hok.c
      have hk3 := hok.k
      have hg8 := hok.g8
      simp only at hcc hk3 hg8
      by_cases hlt : i < n
      · obtain ⟨q, hq⟩ : ∃ q, ps[i]? = some q := ⟨_, List.getElem?_eq_getElem (by have := HPL.out; omega)⟩
        have hcell : wr.cell? ⟨w.heap.size, i, none⟩ = some (.int .u8 (q.toNat : Int)) := (hbel.cell (p := ⟨w.heap.size, i, none⟩) HR.out.lt).trans (HR.out.cell hq)
        have hq96 : q.toNat < 96 := H96.out _ (by unfold natsOf; exact List.mem_map_of_mem (List.mem_of_getElem? hq))
        obtain ⟨gz, g0, g1, g2, g3, g4, g5⟩ := HC1.out.below hbel HC1.out.1
        have hnext : chkAll ((natsOf ps).take (i + 1)) = chk1 ⟨c, g, k⟩ q.toNat := by rw [chkAll_snoc hq, hst.out]
        have hok2 := chk1_ok hok hq96
        have C1 := Lib.hid (turn_call ((q.toNat : Int) % 32) c wr (by omega) (by omega) hcc)
        have C2 := fun W => Lib.hid (turn_call (3 * (g : Int) + (q.toNat : Int) / 32) (turnN c (q.toNat % 32)) W (by omega) (by omega) (turnN_lt _ _ (by omega)))
        have e1 : ((q.toNat : Int) % 32).toNat = q.toNat % 32 := by omega
        have e2 : (3 * (g : Int) + (q.toNat : Int) / 32).toNat = 3 * g + q.toNat / 32 := by omega
        rw [e1] at C1
        simp only [e2] at C2
        have HB := Lib.hid hbel
        clear hq hst hok e1 e2 hbel
        by_cases hk2 : k = 2
        · subst hk2
          rw [chk1_open] at hnext hok2
          have HN2 := Lib.hid hnext
          have HO := Lib.hid hok2
          clear hnext hok2
          go_wp2_with fail
          refine C1.out.mono ?_
          rintro e w2 ⟨rfl, hb2⟩
          obtain ⟨fz, f0, f1, f2, f3, f4, f5⟩ := (HC1.out.below HB.out HC1.out.1).below hb2 gz
          go_wp2_with fail
          refine (C2 _).out.mono ?_
          rintro e w3 ⟨rfl, hb3⟩
          go_wp2
          refine ⟨⟨i + 1, _, _, _, by omega, by go_num, rfl, rfl, rfl, HN2, HO.out, (HB.out.trans (hb2.mono HB.out.size)).trans (hb3.mono (Nat.le_trans HB.out.size hb2.size))⟩, by simp [intOf]; omega⟩
        · rw [chk1_in _ _ _ (by omega)] at hnext hok2
          have HN2 := Lib.hid hnext
          have HO := Lib.hid hok2
          have hd : ((k : Int) + 1 == 3) = false := by simp; omega
          clear hnext hok2
          go_wp2_with fail
          refine C1.out.mono ?_
          rintro e w2 ⟨rfl, hb2⟩
          go_wp2
          refine ⟨⟨i + 1, _, _, _, by omega, by go_num, rfl, congrArg (Value.int .u8) (by omega), congrArg (Value.int .i64) (by omega), HN2, HO.out, HB.out.trans (hb2.mono HB.out.size)⟩, by simp [intOf]; omega⟩
      · have hie : (natsOf ps).take i = natsOf ps := List.take_of_length_le (by have := HPL.out; unfold natsOf; rw [List.length_map]; omega)
        rw [hie] at hst
        have hend := chkEnd_lt hok
        obtain ⟨ce, hce⟩ : ∃ ce, ce = chkEnd ⟨c, g, k⟩ := ⟨_, rfl⟩
        rw [← hce] at hend
        have HCE := Lib.hid hce
        have HB := Lib.hid hbel
        have HST := Lib.hid hst.out
        have C1 := Lib.hid (turn_call (g : Int) c wr (by omega) (by omega) hcc)
        obtain ⟨gz, g0, g1, g2, g3, g4, g5⟩ := HC1.out.below hbel HC1.out.1
        clear hce hbel hst hok hie
        go_upto_if 46 with fail
        go_cut [6] (fun s6 wx => s6 = .int .u64 (ce : Int) ∧ Below w1.heap.size w1 wx)
        case first =>
          by_cases hk0 : 0 < k
          · have hce : turnN c g = ce := by rw [HCE.out]; unfold chkEnd; rw [if_pos hk0]
            have hgn : ((g : Int)).toNat = g := by omega
            rw [hgn] at C1
            have HCE2 := Lib.hid hce
            clear hce hgn
            go_wp2_with fail
            refine C1.out.mono ?_
            rintro e w2 ⟨rfl, hb2⟩
            go_wp2
            go_meet
            exact ⟨by rw [← HCE2.out], HB.out.trans (hb2.mono HB.out.size)⟩
          · have hce : c = ce := by rw [HCE.out]; unfold chkEnd; rw [if_neg hk0]
            have HCE2 := Lib.hid hce
            clear hce
            go_wp2
            go_meet
            exact ⟨by rw [← HCE2.out], HB.out⟩
        case rest =>
          obtain ⟨rfl, hbw⟩ := hcut
          obtain ⟨gz', g0', g1', g2', g3', g4', g5'⟩ := HC1.out.below hbw HC1.out.1
          have hmk : ∀ W, (Instr.makeSlice 22 (.int .i64 8) (.int .i64 8)).run Tryd.prog W = .ok (.slice (some ⟨W.heap.size, 0, none⟩) 8 8) (W.alloc (.cells (zeroRow 8) 5)) := fun W => make_bytes W 8 8 rfl (by omega)
          have HBW := Lib.hid hbw
          clear hbw C1 HB g0 g1 g2 g3 g4 g5 gz
          have hz : Byt (wc.alloc (.cells (zeroRow 8) 5)).drew (wc.heap.size + 1) (.slice (some ⟨wc.heap.size, 0, none⟩) 8 8) (List.replicate 8 0) := by
            have h := (row_new wc 8).byt (n := 8) (c := 8) (by simp) (by omega) (by unfold maxLen; omega)
            have hs : (wc.alloc (.cells (zeroRow 8) 5)).heap.size = wc.heap.size + 1 := by simp
            rw [hs] at h
            have e : (List.replicate 8 (0 : UInt8)).take 8 = List.replicate 8 0 := rfl
            rw [e] at h
            exact h.keep (fun _ _ _ => rfl)
          have C8 := turns_call _ _ _ ce _ hz (by simp) (by simp) hend
          have e8 : turnsN ce (List.replicate 8 0) = eight ce := rfl
          rw [e8] at C8
          have hx := bits_xor1 (eight ce) (eight_lt ce)
          have hlt := Nat.xor_lt_two_pow (n := 40) (eight_lt ce) (show 1 < 1099511627776 by decide)
          have hN : eight ce ^^^ 1 = chkN (natsOf ps) := by unfold chkN; rw [HST.out, HCE.out]
          rw [hN] at hx hlt
          obtain ⟨z, hz0⟩ : ∃ z, z = chkN (natsOf ps) := ⟨_, rfl⟩
          rw [← hz0] at hx hlt
          have F8 := fun W => fives_any (z : Int) 8 W (by omega) (by omega) (by omega)
          have hfs := fives_small z hlt
          have hfl := letters_sum z hlt
          have C8' := Lib.hid C8
          have HZ0 := Lib.hid hz0
          have HFS := Lib.hid hfs
          have HFL := Lib.hid hfl
          have F8' := Lib.hid F8
          clear C8 e8 hN hz0 hfs hfl F8 hz
          go_wp2_with fail
          go_region_with (go_at_call 27; refine C8'.out.mono ?_; rintro e w2 ⟨rfl, hb2⟩)
          all_goals go_wp2_with fail
          all_goals refine (F8'.out _).mono ?_
          all_goals rintro e w3 ⟨rfl, hr3, hb3⟩
          all_goals have hby := hr3.byt (n := 8) (c := 8) (by simp [fivesI]) (by omega) (by unfold maxLen; omega)
          all_goals rw [List.take_of_length_le (by simp [fivesI])] at hby
          all_goals have S8 := Lib.hid (spell_any _ _ _ l32 w3 hby (Nat.le_refl _) (by simp [fivesI]) HFS.out)
          all_goals clear hby hr3
          all_goals go_wp2_with fail
          all_goals refine S8.out.mono ?_
          all_goals rintro e w4 ⟨rfl, hb4⟩
          all_goals rw [HFL.out]
          all_goals go_wp2
          all_goals go_ret2
          all_goals refine ⟨?_, .inl ⟨?_, ?_⟩⟩
          all_goals first
            | exact ((((hb1.trans (HBW.out.mono hb1.size)).trans ((below_made2 hb2).mono (Nat.le_trans hb1.size HBW.out.size))).trans (hb3.mono (Nat.le_trans (Nat.le_trans hb1.size HBW.out.size) (below_made2 hb2).size))).trans (hb4.mono (Nat.le_trans (Nat.le_trans (Nat.le_trans hb1.size HBW.out.size) (below_made2 hb2).size) hb3.size)))
            | exact HA.out
            | (rw [HZ0.out, HP.out]; rfl)
  · have HNO := Lib.hid hno
    clear hno
    go_wp2
    go_ret2
    exact ⟨hb1, .inr ⟨HNO.out, rfl⟩⟩
end Go.Proofs.YtehodjbjioepnaaDoor

/-
  Digits: text.hexValue, the reference's Digit, value and place. Conditions: none.
-/
namespace Go.Proofs.YtehodjbjioepnaaDoor
open Go.RowKit

end Go.Proofs.YtehodjbjioepnaaDoor

/-
  text.Hex: two digits for each byte. Conditions: sizes within the reach.
-/
namespace Go.Proofs.YtehodjbjioepnaaDoor
open Go.RowKit

def nibs (c : UInt8) : List UInt8 := [b8 ((c.toNat : Int) / 16), b8 ((c.toNat : Int) % 16)]
def nibsOf (xs : List UInt8) : List UInt8 := xs.flatMap nibs
theorem nibsOf_length (xs : List UInt8) : (nibsOf xs).length = 2 * xs.length := by
  induction xs with
  | nil => rfl
  | cons c xs ih => unfold nibsOf at ih ⊢; rw [List.flatMap_cons, List.length_append, ih, List.length_cons]; simp [nibs]; omega
theorem nibsOf_snoc {xs : List UInt8} {i : Nat} {q : UInt8} (h : xs[i]? = some q) : nibsOf (xs.take (i + 1)) = nibsOf (xs.take i) ++ nibs q := by
  unfold nibsOf
  rw [List.take_add_one, h, List.flatMap_append]
  simp

theorem nibs_small {xs : List UInt8} {p : UInt8} (h : p ∈ nibsOf xs) : p.toNat < 22 := by
  unfold nibsOf at h
  obtain ⟨c, _, hc⟩ := List.mem_flatMap.1 h
  have hlt := c.toNat_lt
  have hb := b8_toNat ((c.toNat : Int) / 16)
  have hb2 := b8_toNat ((c.toNat : Int) % 16)
  unfold nibs at hc
  rcases List.mem_cons.1 hc with rfl | hc
  · omega
  · rw [List.mem_singleton.1 hc]
    omega

set_option maxRecDepth 100000 in
set_option maxHeartbeats 1600000 in
theorem hexp_any (B : Nat) (x : Value) (xs : List UInt8) (w : World) (hx : Byt w B x xs) (hB : B ≤ w.heap.size) (hl : xs.length ≤ 30000) :
    Calls Tryd.prog 18 #[x] w fun e w' => e = .returned (.string ⟨(letters ⟨#[48, 49, 50, 51, 52, 53, 54, 55, 56, 57, 97, 98, 99, 100, 101, 102, 65, 66, 67, 68, 69, 70]⟩ (nibsOf xs)).toArray⟩) ∧ Below w.heap.size w w' := by
  obtain ⟨i0, hi, hz0, hz1, hz2⟩ := info_parts info_u8
  obtain ⟨A, c, hxf⟩ := hx.form
  subst hxf
  obtain ⟨w0, hmk, hown0, hg0⟩ := run_make_own (P := Tryd.prog) w w.heap.size 22 5 i0 (.int .u8 0) 1 slice_u8 hi hz0 hz1 .i64 .i64 (2 * xs.length) (by rw [hz2]; omega) (by unfold maxLen; omega) (Nat.le_refl _)
  have hcast : (((2 * xs.length : Nat)) : Int) = 2 * (xs.length : Int) := by omega
  rw [hcast] at hmk
  have hb0 : Below w.heap.size w w0 := (Below.refl _ _).grown hg0 (Nat.le_refl _) (fun k hk => by cases hk)
  have hX := Lib.hid hx
  have HB0 := Lib.hid hb0
  clear hx hg0 hcast
  go_enter Tryd.func18, Tryd.ntmps18
  go_wp2_with fail
  clear hmk
  go_loopw [12, 3] (fun j v wr => ∃ i : Nat, i ≤ xs.length ∧ j = .int .i64 i ∧ wr.ownsRow w.heap.size 5 1 v (nibsOf (xs.take i)).length ((nibsOf (xs.take i)).map bv) ∧ Below w.heap.size w wr) (fun j _ _ => xs.length - (intOf j).toNat)
  case atStart => exact ⟨0, Nat.zero_le _, rfl, by simpa [nibsOf] using hown0, HB0.out⟩
  case round =>
    obtain ⟨i, hi2, rfl, hown, hbel⟩ := hrel
    by_cases hlt : i < xs.length
    · obtain ⟨A', c', e0, _, _, _, h4⟩ := hX.out
      injection e0 with e1 e2 e3
      subst e1 e3
      obtain ⟨b, o, rfl, hb, hbc⟩ := h4 (by rintro rfl; simp at hlt)
      have hci := hbc i _ (List.getElem?_eq_getElem hlt)
      obtain ⟨q, hq⟩ : ∃ q, q = xs[i] := ⟨_, rfl⟩
      rw [← hq] at hci
      have hbi : wr.cell? ⟨b, o + i, none⟩ = some (.int .u8 (q.toNat : Int)) := (hbel.cell (p := ⟨b, _, none⟩) (by show b < _; omega)).trans hci
      have hqi : xs[i]? = some q := by rw [hq]; exact List.getElem?_eq_getElem hlt
      have hsn := nibsOf_snoc hqi
      obtain ⟨zs, hzs⟩ : ∃ zs, zs = nibsOf (xs.take i) := ⟨_, rfl⟩
      have hzl : zs.length ≤ 60000 := by rw [hzs, nibsOf_length, List.length_take]; omega
      rw [← hzs] at hown hsn
      have hq256 := q.toNat_lt
      have hmade : Byt (wr.alloc (.cells #[.int .u8 ((q.toNat : Int) / 16), .int .u8 ((q.toNat : Int) % 16)] 5)) (wr.heap.size + 1) (.slice (some ⟨wr.heap.size, 0, none⟩) 2 2) (nibs q) :=
        Byt.made wr _ [_, _] (nibs q) (by unfold nibs; rw [List.map_cons, List.map_cons, List.map_nil, bv_b8_of (by omega) (by omega), bv_b8_of (by omega) (by omega)]) (by unfold maxLen; simp [nibs])
      obtain ⟨As, cs, rfl⟩ := own_form hown
      have hbs := hbel.size
      have HS := Lib.hid hsn
      clear hci hbc h4 hq hqi hsn hzs
      go_wp2_with (at_builtin; refine wpList_append_bytes rfl (.tmp 16) (.tmp 21) 22 rfl w.heap.size 5 i0 slice_u8 hi hz0 hz1 hz2 _ zs.length (zs.map bv) rfl (hown.alloc _) (wr.heap.size + 1) _ (nibs q) rfl hmade (by simp [nibs]; omega) (by simp; omega) ?_; intro v1 w1 hown1 hg1 hat1)
      have hb1 : Below w.heap.size w w1 := (hbel.alloc hbs _).grown hg1 (by simp; omega) (fun j hj => (hown.lt j hj).1)
      go_roundw
      case rel =>
        refine ⟨i + 1, by omega, by go_num, ?_, hb1⟩
        rw [HS.out, List.length_append, List.map_append]
        exact hown1
      case measure => simp [intOf]; omega
    · have hie : xs.take i = xs := List.take_of_length_le (by omega)
      rw [hie] at hown
      have hby := Byt.of_own hown
      obtain ⟨As, cs, rfl⟩ := own_form hown
      have hlen := nibsOf_length xs
      have hsp := spell_any wr.heap.size _ (nibsOf xs) ⟨#[48, 49, 50, 51, 52, 53, 54, 55, 56, 57, 97, 98, 99, 100, 101, 102, 65, 66, 67, 68, 69, 70]⟩ wr hby (Nat.le_refl _) (by omega) (fun p hp => nibs_small hp)
      have HSP := Lib.hid hsp
      clear hown hby hsp hie hlen
      go_wp2_with fail
      refine HSP.out.mono ?_
      rintro e w2 ⟨rfl, hb2⟩
      go_wp2
      go_ret
      exact ⟨rfl, hbel.trans (hb2.mono hbel.size)⟩

end Go.Proofs.YtehodjbjioepnaaDoor
