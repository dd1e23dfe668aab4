/-
  Texts joined: BcStep, Fives, Chk. Conditions: those of each.
-/
import Derived.Test.YtocblkacdoahfaaGreatDoorJ19
import Derived.Deep.RegionWith
/-
  text.code.step, for the bech32 code: how a checksum takes values in. Conditions: the numbers are below 2^64.
-/
namespace Go.Proofs.YtocblkacdoahfaaGreatDoor
open Go.RowKit

/-- A value more. -/
def stepJ (X : Five) (c : Int) (v : UInt8) : Int := mixI X (c / 33554432) (bits .xor .u64 (IntKind.u64.wrap (bits .and .u64 c 33554431 * 32)) (v.toNat : Int)) 5

theorem stepJ_bd (X : Five) (c : Int) (v : UInt8) : 0 ≤ stepJ X c v ∧ stepJ X c v < 18446744073709551616 := by
  unfold stepJ
  exact mixI_bd _ _ _ (bits_u64 _ _ _).1 (bits_u64 _ _ _).2 5

def codeW (X : Five) : Value := .agg #[.int .i64 25, .int .u64 X.x0, .int .u64 X.x1, .int .u64 X.x2, .int .u64 X.x3, .int .u64 X.x4]

set_option maxRecDepth 100000 in
set_option maxHeartbeats 3200000 in
theorem stepj_any (B : Nat) (x : Value) (vs : List UInt8) (c : Int) (X : Five) (w : World) (hx : Byt w B x vs) (hB : B ≤ w.heap.size) (hl : vs.length ≤ 60000) (hc0 : 0 ≤ c) (hc1 : c < 18446744073709551616) :
    Calls Tryz.prog 86 #[codeW X, .int .u64 c, x] w fun e w' => e = .returned (.int .u64 (vs.foldl (stepJ X) c)) ∧ Below w.heap.size w w' := by
  obtain ⟨A, cx, hxf⟩ := hx.form
  subst hxf
  have hX := Lib.hid hx
  clear hx
  unfold codeW
  obtain ⟨x0, x1, x2, x3, x4⟩ := X
  have i0 : ∀ w, (Instr.index 137 (.agg #[.int .u64 x0, .int .u64 x1, .int .u64 x2, .int .u64 x3, .int .u64 x4]) (.int .i64 0)).run Tryz.prog w = .ok (.int .u64 x0) w := fun _ => by kernel_rfl
  have i1 : ∀ w, (Instr.index 137 (.agg #[.int .u64 x0, .int .u64 x1, .int .u64 x2, .int .u64 x3, .int .u64 x4]) (.int .i64 1)).run Tryz.prog w = .ok (.int .u64 x1) w := fun _ => by kernel_rfl
  have i2 : ∀ w, (Instr.index 137 (.agg #[.int .u64 x0, .int .u64 x1, .int .u64 x2, .int .u64 x3, .int .u64 x4]) (.int .i64 2)).run Tryz.prog w = .ok (.int .u64 x2) w := fun _ => by kernel_rfl
  have i3 : ∀ w, (Instr.index 137 (.agg #[.int .u64 x0, .int .u64 x1, .int .u64 x2, .int .u64 x3, .int .u64 x4]) (.int .i64 3)).run Tryz.prog w = .ok (.int .u64 x3) w := fun _ => by kernel_rfl
  have i4 : ∀ w, (Instr.index 137 (.agg #[.int .u64 x0, .int .u64 x1, .int .u64 x2, .int .u64 x3, .int .u64 x4]) (.int .i64 4)).run Tryz.prog w = .ok (.int .u64 x4) w := fun _ => by kernel_rfl
  go_enter Tryz.func86, Tryz.ntmps86
  go_wp2_with fail
  go_loopw [14, 1] (fun j cc wr => ∃ (i : Nat) (k : Int), i ≤ vs.length ∧ j = .int .i64 i ∧ cc = .int .u64 k ∧ 0 ≤ k ∧ k < 18446744073709551616 ∧ Hid ((vs.drop i).foldl (stepJ ⟨x0, x1, x2, x3, x4⟩) k = vs.foldl (stepJ ⟨x0, x1, x2, x3, x4⟩) c) ∧ wr = w.alloc (.cells #[.int .i64 25, .int .u64 x0, .int .u64 x1, .int .u64 x2, .int .u64 x3, .int .u64 x4] 139)) (fun j _ _ => vs.length - (intOf j).toNat)
  case atStart => exact ⟨0, c, Nat.zero_le _, rfl, rfl, hc0, hc1, Lib.hid rfl, rfl⟩
  case round =>
    obtain ⟨i, k, hi, rfl, rfl, hk0, hk1, hfold, hw⟩ := hrel
    by_cases hlt : i < vs.length
    · obtain ⟨A', c', e0, _, _, _, h4⟩ := hX.out
      injection e0 with e1 e2 e3
      subst e1 e3
      obtain ⟨b, o, rfl, hb, hbc⟩ := h4 (by rintro rfl; simp at hlt)
      have hci := hbc i _ (List.getElem?_eq_getElem hlt)
      obtain ⟨q, hq⟩ : ∃ q, q = vs[i] := ⟨_, rfl⟩
      rw [← hq] at hci
      subst hw
      have hbi : ∀ o', (w.alloc o').cell? ⟨b, o + i, none⟩ = some (.int .u8 (q.toNat : Int)) := fun o' => (World.cell?_alloc_lt w _ _ (by show b < _; omega)).trans hci
      have hqw : IntKind.u64.wrap (q.toNat : Int) = q.toNat := by have := q.toNat_lt; rw [IntKind.wrap_u64]; omega
      have hnext : (vs.drop (i + 1)).foldl (stepJ ⟨x0, x1, x2, x3, x4⟩) (stepJ ⟨x0, x1, x2, x3, x4⟩ k q) = vs.foldl (stepJ ⟨x0, x1, x2, x3, x4⟩) c := by
        rw [← hfold.out, List.drop_eq_getElem_cons hlt, List.foldl_cons, ← hq]
      have hbd := stepJ_bd ⟨x0, x1, x2, x3, x4⟩ k q
      unfold stepJ at hbd
      have HN := Lib.hid hnext
      have HQ := Lib.hid hq
      clear hci hbc h4 hq hnext hfold
      obtain ⟨up, hup⟩ : ∃ up, up = k / 33554432 := ⟨_, rfl⟩
      obtain ⟨z, hz⟩ : ∃ z, z = bits .xor .u64 (IntKind.u64.wrap (bits .and .u64 k 33554431 * 32)) (q.toNat : Int) := ⟨_, rfl⟩
      have hupd : 0 ≤ up ∧ up < 18446744073709551616 := by omega
      have HS : Hid (stepJ ⟨x0, x1, x2, x3, x4⟩ k q = mixI ⟨x0, x1, x2, x3, x4⟩ up z 5) := Lib.hid (by rw [hup, hz]; rfl)
      rw [← hup, ← hz] at hbd
      go_wp2
      rw [← hz, ← hup]
      clear hz hup
      go_loopw [34, 1] (fun j cc wr => ∃ m : Nat, m ≤ 5 ∧ j = .int .i64 m ∧ cc = .int .u64 (mixI ⟨x0, x1, x2, x3, x4⟩ up z m) ∧ wr = w.alloc (.cells #[.int .i64 25, .int .u64 x0, .int .u64 x1, .int .u64 x2, .int .u64 x3, .int .u64 x4] 139)) (fun j _ _ => 5 - (intOf j).toNat)
      case atStart => exact ⟨0, by omega, rfl, rfl, rfl⟩
      case round =>
        obtain ⟨m, hm, rfl, rfl, rfl⟩ := hrel
        by_cases h5 : m < 5
        · obtain rfl | rfl | rfl | rfl | rfl : m = 0 ∨ m = 1 ∨ m = 2 ∨ m = 3 ∨ m = 4 := by omega
          all_goals go_wp2
          · rename_i ht
            have e := mixy (X := ⟨x0, x1, x2, x3, x4⟩) (up := up) (c := z) 0 up (by simp) ht
            exact ⟨⟨1, by omega, rfl, congrArg (Value.int .u64) e, trivial⟩, by simp [intOf]⟩
          · rename_i ht
            have e := mixn (X := ⟨x0, x1, x2, x3, x4⟩) (up := up) (c := z) 0 up (by simp) ht
            exact ⟨⟨1, by omega, rfl, congrArg (Value.int .u64) e, trivial⟩, by simp [intOf]⟩
          · rename_i ht
            have e := mixy (X := ⟨x0, x1, x2, x3, x4⟩) (up := up) (c := z) 1 (up / 2) (by simp) ht
            exact ⟨⟨2, by omega, rfl, congrArg (Value.int .u64) e, trivial⟩, by simp [intOf]⟩
          · rename_i ht
            have e := mixn (X := ⟨x0, x1, x2, x3, x4⟩) (up := up) (c := z) 1 (up / 2) (by simp) ht
            exact ⟨⟨2, by omega, rfl, congrArg (Value.int .u64) e, trivial⟩, by simp [intOf]⟩
          · rename_i ht
            have e := mixy (X := ⟨x0, x1, x2, x3, x4⟩) (up := up) (c := z) 2 (up / 4) (by simp) ht
            exact ⟨⟨3, by omega, rfl, congrArg (Value.int .u64) e, trivial⟩, by simp [intOf]⟩
          · rename_i ht
            have e := mixn (X := ⟨x0, x1, x2, x3, x4⟩) (up := up) (c := z) 2 (up / 4) (by simp) ht
            exact ⟨⟨3, by omega, rfl, congrArg (Value.int .u64) e, trivial⟩, by simp [intOf]⟩
          · rename_i ht
            have e := mixy (X := ⟨x0, x1, x2, x3, x4⟩) (up := up) (c := z) 3 (up / 8) (by simp) ht
            exact ⟨⟨4, by omega, rfl, congrArg (Value.int .u64) e, trivial⟩, by simp [intOf]⟩
          · rename_i ht
            have e := mixn (X := ⟨x0, x1, x2, x3, x4⟩) (up := up) (c := z) 3 (up / 8) (by simp) ht
            exact ⟨⟨4, by omega, rfl, congrArg (Value.int .u64) e, trivial⟩, by simp [intOf]⟩
          · rename_i ht
            have e := mixy (X := ⟨x0, x1, x2, x3, x4⟩) (up := up) (c := z) 4 (up / 16) (by simp) ht
            exact ⟨⟨5, by omega, rfl, congrArg (Value.int .u64) e, trivial⟩, by simp [intOf]⟩
          · rename_i ht
            have e := mixn (X := ⟨x0, x1, x2, x3, x4⟩) (up := up) (c := z) 4 (up / 16) (by simp) ht
            exact ⟨⟨5, by omega, rfl, congrArg (Value.int .u64) e, trivial⟩, by simp [intOf]⟩
        · have hm5 : m = 5 := by omega
          subst hm5
          go_wp2
          have hs := HS.out
          refine ⟨⟨i + 1, mixI ⟨x0, x1, x2, x3, x4⟩ up z 5, by omega, by go_num, rfl, hbd.1, hbd.2, ?_, trivial⟩, by simp [intOf]; omega⟩
          rw [← hs]
          exact HN
    · have hie : i = vs.length := by omega
      subst hw
      have HF := Lib.hid (hfold.out)
      go_wp2
      go_ret
      have hf := HF.out
      rw [List.drop_eq_nil_of_le (by omega)] at hf
      exact ⟨by rw [← hf]; rfl, (Below.refl _ _).alloc (Nat.le_refl _) _⟩


def X1 : Five := ⟨996825010, 642813549, 513874426, 1027748829, 705979059⟩
theorem X1_at (m : Nat) : X1.at_ m = ((gB m : Nat) : Int) := by
  match m with
  | 0 => rfl
  | 1 => rfl
  | 2 => rfl
  | 3 => rfl
  | n + 4 => rfl
theorem mixJ_nat (up c : Nat) (hu : up < 1073741824) (hc : c < 1073741824) : ∀ m, mixI X1 up c m = ((mixB up c m : Nat) : Int)
  | 0 => rfl
  | m + 1 => by
    have h2 : ((up : Int) / 2 ^ m) = ((up / 2 ^ m : Nat) : Int) := by simp
    have hle : up / 2 ^ m ≤ up := Nat.div_le_self _ _
    unfold mixI mixB
    rw [h2]
    generalize up / 2 ^ m = d at hle
    rw [Lib.u64_and1 _ (by omega) (by omega), mixJ_nat up c hu hc m, X1_at, bits_xor_u64_nat _ _ (by have := mixB_lt up c hc m; omega) (by have := gB_lt m; omega)]
    by_cases h : d % 2 = 1
    · rw [if_pos h, if_pos (by omega)]
    · rw [if_neg h, if_neg (by omega)]
theorem stepJ_nat (c : Nat) (v : UInt8) (hc : c < 1073741824) : stepJ X1 c v = ((turnB c v.toNat : Nat) : Int) := by
  have hv := v.toNat_lt
  have h1 : bits .and .u64 (c : Int) 33554431 = ((c % 33554432 : Nat) : Int) := by
    have h := bits_mask .u64 64 (by decide) wraps_u64 25 (by decide) (c : Int) (by omega) (by omega)
    have e : ((2 : Int) ^ 25 - 1) = 33554431 := by decide
    rw [e] at h
    rw [h]
    omega
  have h2 : IntKind.u64.wrap (((c % 33554432 : Nat) : Int) * 32) = ((c % 33554432 * 32 : Nat) : Int) := by rw [IntKind.wrap_u64]; omega
  unfold stepJ turnB
  rw [h1, h2, bits_xor_u64_nat _ _ (by omega) (by omega)]
  have h3 : ((c : Int) / 33554432) = ((c / 33554432 : Nat) : Int) := by omega
  rw [h3, mixJ_nat _ _ (by omega) (Nat.xor_lt_two_pow (n := 30) (by omega) (by omega))]

/-- The bech32 code lies where it lies. -/
def BechIs (w : World) : Prop := 1 < w.heap.size ∧ w.cell? ⟨1, 0, none⟩ = some (.int .i64 25) ∧ w.cell? ⟨1, 1, none⟩ = some (.int .u64 996825010) ∧
  w.cell? ⟨1, 2, none⟩ = some (.int .u64 642813549) ∧ w.cell? ⟨1, 3, none⟩ = some (.int .u64 513874426) ∧ w.cell? ⟨1, 4, none⟩ = some (.int .u64 1027748829) ∧
  w.cell? ⟨1, 5, none⟩ = some (.int .u64 705979059)
theorem BechIs.below {w w' : World} {B : Nat} (h : BechIs w) (hb : Below B w w') (hB : 1 < B) : BechIs w' := by
  obtain ⟨h0, h1, h2, h3, h4, h5, h6⟩ := h
  have k := fun o => hb.cell (p := ⟨1, o, none⟩) hB
  exact ⟨Nat.lt_of_lt_of_le h0 hb.size, (k 0).trans h1, (k 1).trans h2, (k 2).trans h3, (k 3).trans h4, (k 4).trans h5, (k 5).trans h6⟩

theorem turnsj_nat : ∀ (vs : List UInt8) (c : Nat), c < 1073741824 → vs.foldl (stepJ X1) (c : Int) = ((turnsB c vs : Nat) : Int)
  | [], _, _ => rfl
  | v :: vs, c, hc => by
    have hv := v.toNat_lt
    rw [List.foldl_cons, stepJ_nat c v hc, turnsj_nat vs _ (turnB_lt _ _ (by omega))]
    rfl
/-- The code's value. -/
theorem turnsb_call (B : Nat) (x : Value) (vs : List UInt8) (c : Nat) (w : World) (hx : Byt w B x vs) (hB : B ≤ w.heap.size) (hl : vs.length ≤ 60000) (hc : c < 1073741824) :
    Calls Tryz.prog 86 #[.agg #[.int .i64 25, .int .u64 996825010, .int .u64 642813549, .int .u64 513874426, .int .u64 1027748829, .int .u64 705979059], .int .u64 c, x] w fun e w' => e = .returned (.int .u64 ((turnsB c vs : Nat) : Int)) ∧ Below w.heap.size w w' := by
  rw [← turnsj_nat vs c hc]
  exact stepj_any B x vs c X1 w hx hB hl (by omega) (by omega)

/-- One value, boxed. -/
theorem turnb_call (q : Int) (c : Nat) (w : World) (h0 : 0 ≤ q) (h1 : q < 256) (hc : c < 1073741824) :
    Calls Tryz.prog 86 #[.agg #[.int .i64 25, .int .u64 996825010, .int .u64 642813549, .int .u64 513874426, .int .u64 1027748829, .int .u64 705979059], .int .u64 c, .slice (some ⟨w.heap.size, 0, none⟩) 1 1] (w.alloc (.cells #[.int .u8 q] 5))
      fun e w' => e = .returned (.int .u64 ((turnB c q.toNat : Nat) : Int)) ∧ Below w.heap.size w w' := by
  have hm : Byt (w.alloc (.cells #[.int .u8 q] 5)) (w.heap.size + 1) (.slice (some ⟨w.heap.size, 0, none⟩) 1 1) [b8 q] :=
    Byt.made w _ [_] [b8 q] (by rw [List.map_cons, List.map_nil, bv_b8_of h0 h1]) (by unfold maxLen; simp)
  refine (turnsb_call _ _ [b8 q] c _ hm (by simp) (by simp) hc).mono ?_
  rintro e w' ⟨rfl, hb⟩
  refine ⟨?_, ((Below.refl _ _).alloc (Nat.le_refl _) _).trans (hb.mono (by simp))⟩
  have : (b8 q).toNat = q.toNat := by have := b8_toNat q; omega
  unfold turnsB
  rw [List.foldl_cons, List.foldl_nil, this]
end Go.Proofs.YtocblkacdoahfaaGreatDoor

/-
  text.fives: values of five bits, the most significant first. Conditions: at most 12 values; the number is below 2^64.
-/
namespace Go.Proofs.YtocblkacdoahfaaGreatDoor
open Go.RowKit

def fiveI (c : Int) (d : Nat) : UInt8 := b8 (bits .and .u64 (c / 2 ^ d) 31)
def fivesI (c : Int) (n : Nat) : List UInt8 := (List.range n).map fun i => fiveI c (5 * (n - 1 - i))

set_option maxRecDepth 100000 in
set_option maxHeartbeats 1600000 in
theorem fives_any (c : Int) (n : Nat) (w : World) (hn : n ≤ 8) (_hc0 : 0 ≤ c) (_hc1 : c < 18446744073709551616) :
    Calls Tryz.prog 87 #[.int .u64 c, .int .i64 n] w fun e w' => e = .returned (.slice (some ⟨w.heap.size, 0, none⟩) n n) ∧ Row w' w.heap.size (fivesI c n) ∧ Below w.heap.size w w' := by
  have hmk := fun W => make_bytes W n (n : Int) rfl (by omega)
  obtain ⟨ls, hls⟩ : ∃ ls, ls = fivesI c n := ⟨_, rfl⟩
  have hll : ls.length = n := by rw [hls]; simp [fivesI]
  rw [← hls]
  have HLS := Lib.hid hls
  have HLL := Lib.hid hll
  clear hls hll
  go_enter Tryz.func87, Tryz.ntmps87
  go_wp2_with fail
  clear hmk
  go_loopw [11] (fun j wr => ∃ i : Nat, i ≤ n ∧ j = .int .i64 i ∧ FillB w w.heap.size i ls wr) (fun j _ => n - (intOf j).toNat)
  case atStart => exact ⟨0, Nat.zero_le _, rfl, _, rfl, by simpa [HLL.out] using row_new w n, (Below.refl _ _).alloc (Nat.le_refl _) _⟩
  case round =>
    obtain ⟨i, hi, rfl, hfill⟩ := hrel
    by_cases hlt : i < n
    · obtain ⟨zs, hz, hrow, hbel⟩ := hfill
      have hcell : wr.cell? ⟨w.heap.size, i, none⟩ = some (.int .u8 0) := hrow.cell (fillB_zero (by rw [HLL.out]; exact hlt) hz)
      have hfree := hrow.free i
      have hat : ls[i]? = some (fiveI c (5 * (n - 1 - i))) := by
        rw [HLS.out]; unfold fivesI; rw [List.getElem?_map, List.getElem?_range hlt]; rfl
      have hi8 : i ≤ 8 := by omega
      have HZ := Lib.hid hz
      have HR := Lib.hid hrow
      have HA := Lib.hid hat
      clear hz hrow hat
      go_wp2
      refine ⟨⟨i + 1, by omega, by go_num, fillB_next (by rw [HLL.out]; exact hlt) HA.out HZ.out ?_ (hbel.setCell (Nat.le_refl _) _)⟩, by simp [intOf]; omega⟩
      have h1 := HR.out.set (i := i) (fiveI c (5 * (n - 1 - i)))
      unfold fiveI at h1
      rw [bv_b8] at h1
      exact h1
    · have hie : i = ls.length := by rw [HLL.out]; omega
      rw [hie] at hfill
      have HF := Lib.hid (fillB_end hfill)
      clear hie hfill
      go_wp2
      go_ret
      exact ⟨rfl, HF.out.1, HF.out.2⟩

end Go.Proofs.YtocblkacdoahfaaGreatDoor

/-
  text.Checksum: the sum of a descriptor. Conditions: the listed table holds what its text lays; sizes within the reach.
-/
namespace Go.Proofs.YtocblkacdoahfaaGreatDoor
open Go.RowKit

def turnsN (c : Nat) (vs : List UInt8) : Nat := vs.foldl (fun c v => turnN c v.toNat) c
theorem turns_nat : ∀ (vs : List UInt8) (c : Nat), c < 1099511627776 → vs.foldl (stepI X0) (c : Int) = ((turnsN c vs : Nat) : Int)
  | [], _, _ => rfl
  | v :: vs, c, hc => by
    have hv := v.toNat_lt
    rw [List.foldl_cons, stepI_nat c v hc, turns_nat vs _ (turnN_lt _ _ (by omega))]
    rfl
theorem turns_call (B : Nat) (x : Value) (vs : List UInt8) (c : Nat) (w : World) (hx : Byt w B x vs) (hB : B ≤ w.heap.size) (hl : vs.length ≤ 60000) (hc : c < 1099511627776) :
    Calls Tryz.prog 86 #[.agg #[.int .i64 35, .int .u64 1056006543753, .int .u64 730107360018, .int .u64 118834127661, .int .u64 236335490938, .int .u64 430795026429], .int .u64 c, x] w fun e w' => e = .returned (.int .u64 ((turnsN c vs : Nat) : Int)) ∧ Below w.heap.size w w' := by
  rw [← turns_nat vs c hc]
  exact step_any B x vs c X0 w hx hB hl (by omega) (by omega)

/-- One value, boxed. -/
theorem turn_call (q : Int) (c : Nat) (w : World) (h0 : 0 ≤ q) (h1 : q < 256) (hc : c < 1099511627776) :
    Calls Tryz.prog 86 #[.agg #[.int .i64 35, .int .u64 1056006543753, .int .u64 730107360018, .int .u64 118834127661, .int .u64 236335490938, .int .u64 430795026429], .int .u64 c, .slice (some ⟨w.heap.size, 0, none⟩) 1 1] (w.alloc (.cells #[.int .u8 q] 5))
      fun e w' => e = .returned (.int .u64 ((turnN c q.toNat : Nat) : Int)) ∧ Below w.heap.size w w' := by
  have hm : Byt (w.alloc (.cells #[.int .u8 q] 5)) (w.heap.size + 1) (.slice (some ⟨w.heap.size, 0, none⟩) 1 1) [b8 q] :=
    Byt.made w _ [_] [b8 q] (by rw [List.map_cons, List.map_nil, bv_b8_of h0 h1]) (by unfold maxLen; simp)
  refine (turns_call _ _ [b8 q] c _ hm (by simp) (by simp) hc).mono ?_
  rintro e w' ⟨rfl, hb⟩
  refine ⟨?_, ((Below.refl _ _).alloc (Nat.le_refl _) _).trans (hb.mono (by simp))⟩
  have : (b8 q).toNat = q.toNat := by have := b8_toNat q; omega
  unfold turnsN
  rw [List.foldl_cons, List.foldl_nil, this]

theorem chk1_open (c g : Nat) {p : Nat} : chk1 ⟨c, g, 2⟩ p = ⟨turnN (turnN c (p % 32)) (3 * g + p / 32), 0, 0⟩ := rfl
theorem chk1_in (c g k : Nat) {p : Nat} (h : k < 2) : chk1 ⟨c, g, k⟩ p = ⟨turnN c (p % 32), 3 * g + p / 32, k + 1⟩ := by
  unfold chk1
  rw [if_neg (by show ¬ k + 1 = 3; omega)]
def natsOf (ps : List UInt8) : List Nat := ps.map UInt8.toNat
theorem chkAll_snoc {ps : List UInt8} {i : Nat} {q : UInt8} (h : ps[i]? = some q) : chkAll ((natsOf ps).take (i + 1)) = chk1 (chkAll ((natsOf ps).take i)) q.toNat := by
  unfold chkAll natsOf
  rw [List.take_add_one, List.getElem?_map, h, List.foldl_append]
  rfl

/-- The letters of a sum. -/
def l32 : ByteArray := ⟨#[113, 112, 122, 114, 121, 57, 120, 56, 103, 102, 50, 116, 118, 100, 119, 48, 115, 51, 106, 110, 53, 52, 107, 104, 99, 101, 54, 109, 117, 97, 55, 108]⟩
def inB : ByteArray := ⟨#[48, 49, 50, 51, 52, 53, 54, 55, 56, 57, 40, 41, 91, 93, 44, 39, 47, 42, 97, 98, 99, 100, 101, 102, 103, 104, 64, 58, 36, 37, 123, 125, 73, 74, 75, 76, 77, 78, 79, 80, 81, 82, 83, 84, 85, 86, 87, 88, 89, 90, 38, 43, 45, 46, 59, 60, 61, 62, 63, 33, 94, 95, 124, 126, 105, 106, 107, 108, 109, 110, 111, 112, 113, 114, 115, 116, 117, 118, 119, 120, 121, 122, 65, 66, 67, 68, 69, 70, 71, 72, 96, 35, 34, 92, 32]⟩
def sumLetters (c : Nat) : List UInt8 := (eightOf c).map fun v => l32.data.toList.getD v 0

end Go.Proofs.YtocblkacdoahfaaGreatDoor
