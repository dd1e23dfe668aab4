/-
  What the reader's inner functions that read sizes and lists do. Conditions: sizes within the reach.
-/
import Derived.Test.YtadgaeokiolmmaaNum
namespace Go.Proofs.Ytadgaeokiolmmaa
open Go.RowKit Go.Maps

/-- Either way: it answers a value and leaves bytes, or it gives up with an error. -/
def Res (w : World) (r B : Nat) (k : Int) (f : Except Int (Value × List UInt8)) (e : Ending) (w' : World) : Prop :=
  match f with
  | .ok (u, ys) => Goes w r B k u ys e w'
  | .error c => Stops w r B k c e w'

/-- A number of n bytes. -/
def numP (q : IntKind) (n : Nat) (xs : List UInt8) : Except Int (Value × List UInt8) :=
  if xs.length < n then .error 4 else .ok (.int q (val (xs.take n)), xs.drop n)

theorem val_take_lt (xs : List UInt8) (n : Nat) : 0 ≤ val (xs.take n) ∧ val (xs.take n) < 256 ^ n := by
  have h := val_bd (xs.take n)
  refine ⟨h.1, ?_⟩
  have h1 : (xs.take n).length ≤ n := List.length_take_le _ _
  have h2 : (256 : Nat) ^ (xs.take n).length ≤ 256 ^ n := Nat.pow_le_pow_right (by decide) h1
  have h3 : ((256 ^ (xs.take n).length : Nat) : Int) = (256 : Int) ^ (xs.take n).length := Int.natCast_pow _ _
  have h4 : ((256 ^ n : Nat) : Int) = (256 : Int) ^ n := Int.natCast_pow _ _
  omega

set_option maxHeartbeats 400000 in
theorem cu8_any (r B : Nat) (v : Value) (k : Int) (xs : List UInt8) (w : World) (hc : Cu w r B v k xs) :
    Calls Try.prog 76 #[.pointer (some ⟨r, 0, none⟩)] w (Res w r B k (numP .u8 1 xs)) := by
  by_cases h : xs.length < 1
  · have hp : numP .u8 1 xs = .error 4 := by unfold numP; rw [if_pos h]
    rw [hp]
    go_enter Try.func76, Try.ntmps76
    go_wp2_with fail
    refine (number_end r B v k _ xs w (by omega) hc).mono ?_
    rintro e w1 ⟨rfl, hst⟩
    go_wp2
    exact ⟨rfl, rfl, hst⟩
  · have hp : numP .u8 1 xs = .ok (.int .u8 (val (xs.take 1)), xs.drop 1) := by unfold numP; rw [if_neg h]
    rw [hp]
    have hbd := val_take_lt xs 1
    obtain ⟨z, hz⟩ : ∃ z, z = val (xs.take 1) := ⟨_, rfl⟩
    rw [← hz]
    have hz0 : 0 ≤ z := by omega
    have hz1 : z < 256 := by omega
    have HZ := Lib.hid hz
    clear hz hbd
    go_enter Try.func76, Try.ntmps76
    go_wp2_with fail
    refine (number_num r B v k _ 1 rfl xs w (by omega) (by omega) (by omega) hc).mono ?_
    rw [← HZ.out]
    rintro e w1 ⟨rfl, hst⟩
    go_wp2
    go_ret
    exact ⟨rfl, hst⟩

set_option maxHeartbeats 400000 in
theorem cu16_any (r B : Nat) (v : Value) (k : Int) (xs : List UInt8) (w : World) (hc : Cu w r B v k xs) :
    Calls Try.prog 95 #[.pointer (some ⟨r, 0, none⟩)] w (Res w r B k (numP .u16 2 xs)) := by
  by_cases h : xs.length < 2
  · have hp : numP .u16 2 xs = .error 4 := by unfold numP; rw [if_pos h]
    rw [hp]
    go_enter Try.func95, Try.ntmps95
    go_wp2_with fail
    refine (number_end r B v k _ xs w (by omega) hc).mono ?_
    rintro e w1 ⟨rfl, hst⟩
    go_wp2
    exact ⟨rfl, rfl, hst⟩
  · have hp : numP .u16 2 xs = .ok (.int .u16 (val (xs.take 2)), xs.drop 2) := by unfold numP; rw [if_neg h]
    rw [hp]
    have hbd := val_take_lt xs 2
    obtain ⟨z, hz⟩ : ∃ z, z = val (xs.take 2) := ⟨_, rfl⟩
    rw [← hz]
    have hz0 : 0 ≤ z := by omega
    have hz1 : z < 65536 := by omega
    have HZ := Lib.hid hz
    clear hz hbd
    go_enter Try.func95, Try.ntmps95
    go_wp2_with fail
    refine (number_num r B v k _ 2 rfl xs w (by omega) (by omega) (by omega) hc).mono ?_
    rw [← HZ.out]
    rintro e w1 ⟨rfl, hst⟩
    go_wp2
    go_ret
    exact ⟨rfl, hst⟩

set_option maxHeartbeats 400000 in
theorem cu32_any (r B : Nat) (v : Value) (k : Int) (xs : List UInt8) (w : World) (hc : Cu w r B v k xs) :
    Calls Try.prog 97 #[.pointer (some ⟨r, 0, none⟩)] w (Res w r B k (numP .u32 4 xs)) := by
  by_cases h : xs.length < 4
  · have hp : numP .u32 4 xs = .error 4 := by unfold numP; rw [if_pos h]
    rw [hp]
    go_enter Try.func97, Try.ntmps97
    go_wp2_with fail
    refine (number_end r B v k _ xs w (by omega) hc).mono ?_
    rintro e w1 ⟨rfl, hst⟩
    go_wp2
    exact ⟨rfl, rfl, hst⟩
  · have hp : numP .u32 4 xs = .ok (.int .u32 (val (xs.take 4)), xs.drop 4) := by unfold numP; rw [if_neg h]
    rw [hp]
    have hbd := val_take_lt xs 4
    obtain ⟨z, hz⟩ : ∃ z, z = val (xs.take 4) := ⟨_, rfl⟩
    rw [← hz]
    have hz0 : 0 ≤ z := by omega
    have hz1 : z < 4294967296 := by omega
    have HZ := Lib.hid hz
    clear hz hbd
    go_enter Try.func97, Try.ntmps97
    go_wp2_with fail
    refine (number_num r B v k _ 4 rfl xs w (by omega) (by omega) (by omega) hc).mono ?_
    rw [← HZ.out]
    rintro e w1 ⟨rfl, hst⟩
    go_wp2
    go_ret
    exact ⟨rfl, hst⟩

/-! The map of marks. -/
theorem key8 : Keyed Try.prog 5 := int_keyed Try.underlying5
theorem zero_int (w : World) : (zeroValue 3).run Try.prog w = .ok (.int .i64 0) w := by kernel_rfl
def marksD : DataW Unit := (((DataW.map []).put (.int .u8 253) (.lit (.int .i64 2))).put (.int .u8 254) (.lit (.int .i64 4))).put (.int .u8 255) (.lit (.int .i64 8))

/-- How many bytes follow the byte that begins a longer size. -/
def wd (f : Int) : Nat := if f = 253 then 2 else if f = 254 then 4 else 8

theorem marks_at {f c : Int} (h : f = 253 ∨ f = 254 ∨ f = 255) (hat : marksD.atKey (.int .u8 f) (.lit (.int .i64 0)) = .lit (.int .i64 c)) : c = wd f := by
  have e2 : marksD.atKey (.int .u8 253) (.lit (.int .i64 0)) = .lit (.int .i64 2) := by rfl
  have e4 : marksD.atKey (.int .u8 254) (.lit (.int .i64 0)) = .lit (.int .i64 4) := by rfl
  have e8 : marksD.atKey (.int .u8 255) (.lit (.int .i64 0)) = .lit (.int .i64 8) := by rfl
  rcases h with rfl | rfl | rfl
  · rw [e2] at hat; cases hat; rfl
  · rw [e4] at hat; cases hat; rfl
  · rw [e8] at hat; cases hat; rfl

/-- A compact size. -/
def sizeP (xs : List UInt8) : Except Int (Int × List UInt8) :=
  if xs.length < 1 then .error 4 else
  if val (xs.take 1) < 253 then .ok (val (xs.take 1), xs.drop 1) else
  if (xs.drop 1).length < wd (val (xs.take 1)) then .error 4 else
  if sizeLen (val ((xs.drop 1).take (wd (val (xs.take 1))))) ≠ 1 + wd (val (xs.take 1)) then .error 3 else
  if val ((xs.drop 1).take (wd (val (xs.take 1)))) > 33554432 then .error 2 else
  .ok (val ((xs.drop 1).take (wd (val (xs.take 1)))), (xs.drop 1).drop (wd (val (xs.take 1))))

def sizeV (xs : List UInt8) : Except Int (Value × List UInt8) :=
  match sizeP xs with
  | .ok (n, ys) => .ok (.int .u64 n, ys)
  | .error c => .error c


theorem cu8_ok (r B : Nat) (v : Value) (k : Int) (xs : List UInt8) (w : World) (h : ¬ xs.length < 1) (hc : Cu w r B v k xs) :
    Calls Try.prog 76 #[.pointer (some ⟨r, 0, none⟩)] w (Goes w r B k (.int .u8 (val (xs.take 1))) (xs.drop 1)) :=
  (cu8_any r B v k xs w hc).mono fun _ _ hh => by unfold numP at hh; rw [if_neg h] at hh; exact hh
theorem cu8_end (r B : Nat) (v : Value) (k : Int) (xs : List UInt8) (w : World) (h : xs.length < 1) (hc : Cu w r B v k xs) :
    Calls Try.prog 76 #[.pointer (some ⟨r, 0, none⟩)] w (Stops w r B k 4) :=
  (cu8_any r B v k xs w hc).mono fun _ _ hh => by unfold numP at hh; rw [if_pos h] at hh; exact hh

/-- The longer sizes, behind the first byte. -/
def tailP (n : Nat) (ys : List UInt8) : Except Int (Value × List UInt8) :=
  if ys.length < n then .error 4 else
  if sizeLen (val (ys.take n)) ≠ 1 + n then .error 3 else
  if val (ys.take n) > 33554432 then .error 2 else .ok (.int .u64 (val (ys.take n)), ys.drop n)

theorem sizeLen_bd (n : Int) : 1 ≤ sizeLen n ∧ sizeLen n ≤ 9 := by
  unfold sizeLen
  split
  · omega
  split
  · omega
  split <;> omega

theorem wd_bd (z : Int) : 0 < wd z ∧ wd z ≤ 8 := by
  unfold wd
  split
  · omega
  split <;> omega


theorem sizeV_long {xs : List UInt8} (h : ¬ xs.length < 1) (hlt : ¬ val (xs.take 1) < 253) : sizeV xs = tailP (wd (val (xs.take 1))) (xs.drop 1) := by
  unfold sizeV sizeP tailP
  rw [if_neg h, if_neg hlt]
  by_cases c1 : (xs.drop 1).length < wd (val (xs.take 1))
  · rw [if_pos c1, if_pos c1]
  rw [if_neg c1, if_neg c1]
  by_cases c2 : sizeLen (val ((xs.drop 1).take (wd (val (xs.take 1))))) ≠ 1 + wd (val (xs.take 1))
  · rw [if_pos c2, if_pos c2]
  rw [if_neg c2, if_neg c2]
  by_cases c3 : val ((xs.drop 1).take (wd (val (xs.take 1)))) > 33554432
  · rw [if_pos c3, if_pos c3]
  · rw [if_neg c3, if_neg c3]

end Go.Proofs.Ytadgaeokiolmmaa
