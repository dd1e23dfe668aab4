/-
  What the reader's inner functions that read sizes and lists do. Conditions: sizes within the reach.
-/
import Derived.Test.YtelbcmcffjpdoaaNum
namespace Go.Proofs.Ytelbcmcffjpdoaa
open Go.RowKit Go.Maps

/-- Either way: it answers a value and leaves bytes, or it gives up with an error. -/
def Res (w : World) (r B : Nat) (k : Int) (f : Except Int (Value × List UInt8)) (e : Ending) (w' : World) : Prop :=
  match f with
  | .ok (u, ys) => Goes w r B k u ys e w'
  | .error c => Stops w r B k c e w'

/-- A number of n bytes. -/
def numP (q : IntKind) (n : Nat) (xs : List UInt8) : Except Int (Value × List UInt8) :=
  if xs.length < n then .error 4 else .ok (.int q (val (xs.take n)), xs.drop n)

theorem val_take_lt (xs : List UInt8) (n : Nat) : 0 ≤ val (xs.take n) ∧ val (xs.take n) < 256 ^ n := by
  have h := val_bd (xs.take n)
  refine ⟨h.1, ?_⟩
  have h1 : (xs.take n).length ≤ n := List.length_take_le _ _
  have h2 : (256 : Nat) ^ (xs.take n).length ≤ 256 ^ n := Nat.pow_le_pow_right (by decide) h1
  have h3 : ((256 ^ (xs.take n).length : Nat) : Int) = (256 : Int) ^ (xs.take n).length := Int.natCast_pow _ _
  have h4 : ((256 ^ n : Nat) : Int) = (256 : Int) ^ n := Int.natCast_pow _ _
  omega

set_option maxHeartbeats 400000 in
theorem cu8_any (r B : Nat) (v : Value) (k : Int) (xs : List UInt8) (w : World) (hc : Cu w r B v k xs) :
    Calls Try.prog 40 #[.pointer (some ⟨r, 0, none⟩)] w (Res w r B k (numP .u8 1 xs)) := by
  by_cases h : xs.length < 1
  · have hp : numP .u8 1 xs = .error 4 := by unfold numP; rw [if_pos h]
    rw [hp]
    go_enter Try.func40, Try.ntmps40
    go_wp2_with fail
    refine (number_end r B v k _ xs w (by omega) hc).mono ?_
    rintro e w1 ⟨rfl, hst⟩
    go_wp2
    exact ⟨rfl, rfl, hst⟩
  · have hp : numP .u8 1 xs = .ok (.int .u8 (val (xs.take 1)), xs.drop 1) := by unfold numP; rw [if_neg h]
    rw [hp]
    have hbd := val_take_lt xs 1
    obtain ⟨z, hz⟩ : ∃ z, z = val (xs.take 1) := ⟨_, rfl⟩
    rw [← hz]
    have hz0 : 0 ≤ z := by omega
    have hz1 : z < 256 := by omega
    have HZ := Lib.hid hz
    clear hz hbd
    go_enter Try.func40, Try.ntmps40
    go_wp2_with fail
    refine (number_num r B v k _ 1 rfl xs w (by omega) (by omega) (by omega) hc).mono ?_
    rw [← HZ.out]
    rintro e w1 ⟨rfl, hst⟩
    go_wp2
    go_ret
    exact ⟨rfl, hst⟩

set_option maxHeartbeats 400000 in
theorem cu16_any (r B : Nat) (v : Value) (k : Int) (xs : List UInt8) (w : World) (hc : Cu w r B v k xs) :
    Calls Try.prog 42 #[.pointer (some ⟨r, 0, none⟩)] w (Res w r B k (numP .u16 2 xs)) := by
  by_cases h : xs.length < 2
  · have hp : numP .u16 2 xs = .error 4 := by unfold numP; rw [if_pos h]
    rw [hp]
    go_enter Try.func42, Try.ntmps42
    go_wp2_with fail
    refine (number_end r B v k _ xs w (by omega) hc).mono ?_
    rintro e w1 ⟨rfl, hst⟩
    go_wp2
    exact ⟨rfl, rfl, hst⟩
  · have hp : numP .u16 2 xs = .ok (.int .u16 (val (xs.take 2)), xs.drop 2) := by unfold numP; rw [if_neg h]
    rw [hp]
    have hbd := val_take_lt xs 2
    obtain ⟨z, hz⟩ : ∃ z, z = val (xs.take 2) := ⟨_, rfl⟩
    rw [← hz]
    have hz0 : 0 ≤ z := by omega
    have hz1 : z < 65536 := by omega
    have HZ := Lib.hid hz
    clear hz hbd
    go_enter Try.func42, Try.ntmps42
    go_wp2_with fail
    refine (number_num r B v k _ 2 rfl xs w (by omega) (by omega) (by omega) hc).mono ?_
    rw [← HZ.out]
    rintro e w1 ⟨rfl, hst⟩
    go_wp2
    go_ret
    exact ⟨rfl, hst⟩

set_option maxHeartbeats 400000 in
theorem cu32_any (r B : Nat) (v : Value) (k : Int) (xs : List UInt8) (w : World) (hc : Cu w r B v k xs) :
    Calls Try.prog 44 #[.pointer (some ⟨r, 0, none⟩)] w (Res w r B k (numP .u32 4 xs)) := by
  by_cases h : xs.length < 4
  · have hp : numP .u32 4 xs = .error 4 := by unfold numP; rw [if_pos h]
    rw [hp]
    go_enter Try.func44, Try.ntmps44
    go_wp2_with fail
    refine (number_end r B v k _ xs w (by omega) hc).mono ?_
    rintro e w1 ⟨rfl, hst⟩
    go_wp2
    exact ⟨rfl, rfl, hst⟩
  · have hp : numP .u32 4 xs = .ok (.int .u32 (val (xs.take 4)), xs.drop 4) := by unfold numP; rw [if_neg h]
    rw [hp]
    have hbd := val_take_lt xs 4
    obtain ⟨z, hz⟩ : ∃ z, z = val (xs.take 4) := ⟨_, rfl⟩
    rw [← hz]
    have hz0 : 0 ≤ z := by omega
    have hz1 : z < 4294967296 := by omega
    have HZ := Lib.hid hz
    clear hz hbd
    go_enter Try.func44, Try.ntmps44
    go_wp2_with fail
    refine (number_num r B v k _ 4 rfl xs w (by omega) (by omega) (by omega) hc).mono ?_
    rw [← HZ.out]
    rintro e w1 ⟨rfl, hst⟩
    go_wp2
    go_ret
    exact ⟨rfl, hst⟩

set_option maxHeartbeats 400000 in
theorem cu64_any (r B : Nat) (v : Value) (k : Int) (xs : List UInt8) (w : World) (hc : Cu w r B v k xs) :
    Calls Try.prog 46 #[.pointer (some ⟨r, 0, none⟩)] w (Res w r B k (numP .u64 8 xs)) := by
  by_cases h : xs.length < 8
  · have hp : numP .u64 8 xs = .error 4 := by unfold numP; rw [if_pos h]
    rw [hp]
    go_enter Try.func46, Try.ntmps46
    go_wp2_with fail
    refine (number_end r B v k _ xs w (by omega) hc).mono ?_
    rintro e w1 ⟨rfl, hst⟩
    go_wp2
    exact ⟨rfl, rfl, hst⟩
  · have hp : numP .u64 8 xs = .ok (.int .u64 (val (xs.take 8)), xs.drop 8) := by unfold numP; rw [if_neg h]
    rw [hp]
    go_enter Try.func46, Try.ntmps46
    go_wp2_with fail
    refine (number_num r B v k _ 8 rfl xs w (by omega) (by omega) (by omega) hc).mono ?_
    rintro e w1 ⟨rfl, hst⟩
    go_wp2
    go_ret
    exact ⟨rfl, hst⟩

/-! The map of marks. -/
theorem key8 : Keyed Try.prog 5 := int_keyed Try.underlying5
theorem zero_int (w : World) : (zeroValue 3).run Try.prog w = .ok (.int .i64 0) w := by kernel_rfl
def marksD : DataW Unit := (((DataW.map []).put (.int .u8 253) (.lit (.int .i64 2))).put (.int .u8 254) (.lit (.int .i64 4))).put (.int .u8 255) (.lit (.int .i64 8))

set_option maxHeartbeats 400000 in
theorem marks_any (w : World) :
    Calls Try.prog 62 #[] w fun e w' => e = .returned (.map (some w.heap.size)) ∧ w'.ownsMap Try.prog 5 (plainElem Try.prog 3) w.heap.size 3 marksD ∧ Below w.heap.size w w' := by
  have hmm := @run_makeMap Try.prog
  have hown0 := World.ownsMap_made (H := Unit) w Try.prog 5 (plainElem Try.prog 3)
  obtain ⟨w1, hrun1, hown1, hg1⟩ := hown0.update (t := 92) (e := 3) key8 Try.underlying92 (by unfold maxLen; omega) (keyOf_int_mk Try.underlying5 (by decide : (Lit.int .u8 253).wf = true)) (plainElem_int Try.underlying3 (by decide : (Lit.int .i64 2).wf = true))
  obtain ⟨w2, hrun2, hown2, hg2⟩ := hown1.update (t := 92) (e := 3) key8 Try.underlying92 (by unfold maxLen; omega) (keyOf_int_mk Try.underlying5 (by decide : (Lit.int .u8 254).wf = true)) (plainElem_int Try.underlying3 (by decide : (Lit.int .i64 4).wf = true))
  obtain ⟨w3, hrun3, hown3, hg3⟩ := hown2.update (t := 92) (e := 3) key8 Try.underlying92 (by unfold maxLen; omega) (keyOf_int_mk Try.underlying5 (by decide : (Lit.int .u8 255).wf = true)) (plainElem_int Try.underlying3 (by decide : (Lit.int .i64 8).wf = true))
  have hb : Below w.heap.size w w3 := by
    have hr : ∀ k, some w.heap.size = some k → w.heap.size ≤ k := fun k hk => by cases hk; exact Nat.le_refl _
    have b1 := ((Below.refl w.heap.size w).alloc (Nat.le_refl _) (.map #[] 0)).grown hg1 (by simp) hr
    have b2 := b1.grown hg2 b1.size hr
    exact b2.grown hg3 b2.size hr
  clear hown0 hown1 hown2 hg1 hg2 hg3
  go_enter Try.func62, Try.ntmps62
  go_wp2
  go_ret
  exact ⟨rfl, hown3, hb⟩

/-- How many bytes follow the byte that begins a longer size. -/
def wd (f : Int) : Nat := if f = 253 then 2 else if f = 254 then 4 else 8

theorem marks_at {f c : Int} (h : f = 253 ∨ f = 254 ∨ f = 255) (hat : marksD.atKey (.int .u8 f) (.lit (.int .i64 0)) = .lit (.int .i64 c)) : c = wd f := by
  have e2 : marksD.atKey (.int .u8 253) (.lit (.int .i64 0)) = .lit (.int .i64 2) := by rfl
  have e4 : marksD.atKey (.int .u8 254) (.lit (.int .i64 0)) = .lit (.int .i64 4) := by rfl
  have e8 : marksD.atKey (.int .u8 255) (.lit (.int .i64 0)) = .lit (.int .i64 8) := by rfl
  rcases h with rfl | rfl | rfl
  · rw [e2] at hat; cases hat; rfl
  · rw [e4] at hat; cases hat; rfl
  · rw [e8] at hat; cases hat; rfl

/-- A compact size. -/
def sizeP (xs : List UInt8) : Except Int (Int × List UInt8) :=
  if xs.length < 1 then .error 4 else
  if val (xs.take 1) < 253 then .ok (val (xs.take 1), xs.drop 1) else
  if (xs.drop 1).length < wd (val (xs.take 1)) then .error 4 else
  if sizeLen (val ((xs.drop 1).take (wd (val (xs.take 1))))) ≠ 1 + wd (val (xs.take 1)) then .error 3 else
  if val ((xs.drop 1).take (wd (val (xs.take 1)))) > 33554432 then .error 2 else
  .ok (val ((xs.drop 1).take (wd (val (xs.take 1)))), (xs.drop 1).drop (wd (val (xs.take 1))))

def sizeV (xs : List UInt8) : Except Int (Value × List UInt8) :=
  match sizeP xs with
  | .ok (n, ys) => .ok (.int .u64 n, ys)
  | .error c => .error c


theorem cu8_ok (r B : Nat) (v : Value) (k : Int) (xs : List UInt8) (w : World) (h : ¬ xs.length < 1) (hc : Cu w r B v k xs) :
    Calls Try.prog 40 #[.pointer (some ⟨r, 0, none⟩)] w (Goes w r B k (.int .u8 (val (xs.take 1))) (xs.drop 1)) :=
  (cu8_any r B v k xs w hc).mono fun _ _ hh => by unfold numP at hh; rw [if_neg h] at hh; exact hh
theorem cu8_end (r B : Nat) (v : Value) (k : Int) (xs : List UInt8) (w : World) (h : xs.length < 1) (hc : Cu w r B v k xs) :
    Calls Try.prog 40 #[.pointer (some ⟨r, 0, none⟩)] w (Stops w r B k 4) :=
  (cu8_any r B v k xs w hc).mono fun _ _ hh => by unfold numP at hh; rw [if_pos h] at hh; exact hh

theorem csize_end (r B : Nat) (v : Value) (k : Int) (xs : List UInt8) (w : World) (h : xs.length < 1) (hc : Cu w r B v k xs) :
    Calls Try.prog 47 #[.pointer (some ⟨r, 0, none⟩)] w (Stops w r B k 4) := by
  go_enter Try.func47, Try.ntmps47
  go_wp2_with fail
  refine (cu8_end r B v k xs w h hc).mono ?_
  rintro e w1 ⟨rfl, hst⟩
  go_wp2
  exact ⟨rfl, rfl, hst⟩

set_option maxHeartbeats 400000 in
theorem csize_short (r B : Nat) (v : Value) (k z : Int) (xs : List UInt8) (w : World) (h : ¬ xs.length < 1) (hz : z = val (xs.take 1)) (hlt : z < 253) (hc : Cu w r B v k xs) :
    Calls Try.prog 47 #[.pointer (some ⟨r, 0, none⟩)] w (Goes w r B k (.int .u64 z) (xs.drop 1)) := by
  have hz0 : 0 ≤ z := by have := val_take_lt xs 1; omega
  have HZ := Lib.hid hz
  clear hz
  go_enter Try.func47, Try.ntmps47
  go_wp2_with fail
  refine (cu8_ok r B v k xs w h hc).mono ?_
  rw [← HZ.out]
  rintro e w1 ⟨rfl, hst⟩
  go_wp2
  go_ret
  exact ⟨rfl, hst⟩

/-- The longer sizes, behind the first byte. -/
def tailP (n : Nat) (ys : List UInt8) : Except Int (Value × List UInt8) :=
  if ys.length < n then .error 4 else
  if sizeLen (val (ys.take n)) ≠ 1 + n then .error 3 else
  if val (ys.take n) > 33554432 then .error 2 else .ok (.int .u64 (val (ys.take n)), ys.drop n)

theorem sizeLen_bd (n : Int) : 1 ≤ sizeLen n ∧ sizeLen n ≤ 9 := by
  unfold sizeLen
  split
  · omega
  split
  · omega
  split <;> omega

theorem wd_bd (z : Int) : 0 < wd z ∧ wd z ≤ 8 := by
  unfold wd
  split
  · omega
  split <;> omega


set_option maxHeartbeats 1600000 in
theorem csize_long (r B : Nat) (v : Value) (k z : Int) (n : Nat) (xs ys : List UInt8) (w : World) (h : ¬ xs.length < 1) (hz : z = val (xs.take 1)) (hge : ¬ z < 253) (hn : n = wd z) (hys : ys = xs.drop 1) (hc : Cu w r B v k xs) :
    Calls Try.prog 47 #[.pointer (some ⟨r, 0, none⟩)] w (Res w r B k (tailP n ys)) := by
  have hz0 : 0 ≤ z ∧ z < 256 := by have := val_take_lt xs 1; omega
  obtain ⟨hz0, hz1⟩ := hz0
  have HZ := Lib.hid hz
  have HN := Lib.hid hn
  have HY := Lib.hid hys
  have hnb := wd_bd z
  rw [← hn] at hnb
  obtain ⟨hn0, hn8⟩ := hnb
  have hu8 := cu8_ok r B v k xs w h hc
  rw [← hz, ← hys] at hu8
  have HU := Lib.hid hu8
  clear hz hn hys hu8
  have hwf : (Lit.int .u8 z).wf = true := WalkArith.wf_u8 (by omega)
  go_enter Try.func47, Try.ntmps47
  go_wp2_with fail
  refine HU.out.mono ?_
  rintro e w1 ⟨rfl, v1, hc1, ht1⟩
  go_wp2_with fail
  refine (marks_any w1).mono ?_
  rintro e w2 ⟨rfl, hown, hb2⟩
  have hc2 := hc1.below hb2
  have ht2 : Turns (fun i => i = r) w w2 := ht1.trans (Turns.of_below (S := fun i => i = r) hb2) (fun _ _ h => h)
  obtain ⟨c, hlk, hat, _⟩ := hown.lookup_int (t := 92) key8 Try.underlying92 Try.underlying3 (zero_int _) (keyOf_int_mk Try.underlying5 hwf)
  have hcw := marks_at (by omega) hat
  rw [← HN.out] at hcw
  subst hcw
  clear hat hc1 hown
  by_cases hlen : ys.length < n
  · have hp : tailP n ys = .error 4 := by unfold tailP; rw [if_pos hlen]
    rw [hp]
    go_wp2_with fail
    refine (number_end r B v1 k n ys w2 (by omega) hc2).mono ?_
    rintro e w3 ⟨rfl, hst⟩
    go_wp2
    exact ⟨rfl, Stops.pre ht2 ⟨rfl, hst⟩⟩
  · obtain ⟨m, hm⟩ : ∃ m, m = val (ys.take n) := ⟨_, rfl⟩
    obtain ⟨L, hL⟩ : ∃ L, L = sizeLen m := ⟨_, rfl⟩
    obtain ⟨ds, hds⟩ : ∃ ds, ds = ys.drop n := ⟨_, rfl⟩
    have hm0 : 0 ≤ m := by rw [hm]; exact (val_bd _).1
    have hm1 : m < 18446744073709551616 := by rw [hm]; exact val_le8 (by rw [List.length_take]; omega)
    have hLb := sizeLen_bd m
    rw [← hL] at hLb
    obtain ⟨hL0, hL1⟩ := hLb
    have hnum := number_ok r B v1 k n ys w2 hn0 hn8 (by omega) hc2
    rw [← hm, ← hds] at hnum
    have hlenC := length_any m
    rw [← hL] at hlenC
    have HNum := Lib.hid hnum
    have HLen := Lib.hid hlenC
    have hp : tailP n ys = if L ≠ 1 + n then .error 3 else if m > 33554432 then .error 2 else .ok (.int .u64 m, ds) := by
      unfold tailP
      rw [if_neg hlen, ← hm, ← hL, ← hds]
    clear hm hL hds hnum hlenC
    by_cases hne : L ≠ 1 + n
    · rw [if_pos hne] at hp
      have HP := Lib.hid hp
      clear hp
      have hb1 : (L == 1 + (n : Int)) = false := by simpa using hne
      have hb2' : (L != 1 + (n : Int)) = true := by simpa using hne
      go_wp2_with fail
      refine HNum.out.mono ?_
      rintro e w3 ⟨rfl, v3, hc3, ht3⟩
      go_wp2_with fail
      refine (HLen.out _).mono ?_
      rintro e w4 ⟨rfl, rfl⟩
      go_wp2_with fail
      refine (fail_any _ _).mono ?_
      rintro e w4 ⟨rfl, rfl⟩
      go_wp2
      refine ⟨rfl, ?_⟩
      show Res w r B k (tailP n ys) _ _
      rw [HP.out]
      exact ⟨rfl, v3, ds, hc3, ht2.trans ht3 (fun _ _ h => h)⟩
    · rw [if_neg hne] at hp
      have he : L = 1 + n := by omega
      have hb1 : (L == 1 + (n : Int)) = true := by simpa using he
      have hb2' : (L != 1 + (n : Int)) = false := by simpa using he
      clear hne he
      by_cases hgt : m > 33554432
      · rw [if_pos hgt] at hp
        have HP := Lib.hid hp
        clear hp
        go_wp2_with fail
        refine HNum.out.mono ?_
        rintro e w3 ⟨rfl, v3, hc3, ht3⟩
        go_wp2_with fail
        refine (HLen.out _).mono ?_
        rintro e w4 ⟨rfl, rfl⟩
        go_wp2_with fail
        refine (fail_any _ _).mono ?_
        rintro e w4 ⟨rfl, rfl⟩
        go_wp2
        refine ⟨rfl, ?_⟩
        show Res w r B k (tailP n ys) _ _
        rw [HP.out]
        exact ⟨rfl, v3, ds, hc3, ht2.trans ht3 (fun _ _ h => h)⟩
      · rw [if_neg hgt] at hp
        have HP := Lib.hid hp
        clear hp
        go_wp2_with fail
        refine HNum.out.mono ?_
        rintro e w3 ⟨rfl, v3, hc3, ht3⟩
        go_wp2_with fail
        refine (HLen.out _).mono ?_
        rintro e w4 ⟨rfl, rfl⟩
        go_wp2
        go_ret
        show Res w r B k (tailP n ys) _ _
        rw [HP.out]
        exact ⟨rfl, v3, hc3, ht2.trans ht3 (fun _ _ h => h)⟩

theorem sizeV_long {xs : List UInt8} (h : ¬ xs.length < 1) (hlt : ¬ val (xs.take 1) < 253) : sizeV xs = tailP (wd (val (xs.take 1))) (xs.drop 1) := by
  unfold sizeV sizeP tailP
  rw [if_neg h, if_neg hlt]
  by_cases c1 : (xs.drop 1).length < wd (val (xs.take 1))
  · rw [if_pos c1, if_pos c1]
  rw [if_neg c1, if_neg c1]
  by_cases c2 : sizeLen (val ((xs.drop 1).take (wd (val (xs.take 1))))) ≠ 1 + wd (val (xs.take 1))
  · rw [if_pos c2, if_pos c2]
  rw [if_neg c2, if_neg c2]
  by_cases c3 : val ((xs.drop 1).take (wd (val (xs.take 1)))) > 33554432
  · rw [if_pos c3, if_pos c3]
  · rw [if_neg c3, if_neg c3]

theorem csize_any (r B : Nat) (v : Value) (k : Int) (xs : List UInt8) (w : World) (hc : Cu w r B v k xs) :
    Calls Try.prog 47 #[.pointer (some ⟨r, 0, none⟩)] w (Res w r B k (sizeV xs)) := by
  by_cases h : xs.length < 1
  · have hp : sizeV xs = .error 4 := by unfold sizeV sizeP; rw [if_pos h]
    rw [hp]
    exact csize_end r B v k xs w h hc
  by_cases hlt : val (xs.take 1) < 253
  · have hp : sizeV xs = .ok (.int .u64 (val (xs.take 1)), xs.drop 1) := by unfold sizeV sizeP; rw [if_neg h, if_pos hlt]
    rw [hp]
    exact csize_short r B v k _ xs w h rfl hlt hc
  · rw [sizeV_long h hlt]
    exact csize_long r B v k _ _ xs _ w h rfl hlt rfl rfl hc

end Go.Proofs.Ytelbcmcffjpdoaa
