/-
  Digits of texts: the program's tests on texts of amounts. Conditions: none.
-/
import Derived.Test.YtopeblaiifkmoaaDoorAmtNum
import Derived.Lib.IndexBytes
import Derived.Lib.IndexLaws
import Derived.Test.YtopeblaiifkmoaaDoorShelf
namespace Go.Proofs.YtopeblaiifkmoaaDoor
open Go.RowKit

def dB (c : UInt8) : Bool := decide (48 ≤ (c.toNat : Int) ∧ (c.toNat : Int) ≤ 57)
def digsB (l : List UInt8) : Bool := !l.isEmpty && l.all dB
def wholeB (l : List UInt8) : Bool := digsB l && (l.length == 1 || l.head? != some 48)
def partB (l : List UInt8) : Bool := digsB l && decide (l.length ≤ 8)

theorem take_snoc' (s : ByteArray) (k : Nat) (h : k < s.size) : s.data.toList.take (k + 1) = s.data.toList.take k ++ [s[k]] := by
  rw [List.take_succ_eq_append_getElem (by rw [blen]; exact h)]; rfl
theorem all_no (s : ByteArray) (k : Nat) (h : k < s.size) (hd : dB s[k] = false) : digsB s.data.toList = false := by
  have hm : s[k] ∈ s.data.toList := by
    have : s[k] = s.data.toList[k]'(by rw [blen]; exact h) := rfl
    rw [this]; exact List.getElem_mem _
  unfold digsB
  cases ha : s.data.toList.all dB with
  | false => simp
  | true => rw [List.all_eq_true.1 ha _ hm] at hd; cases hd

set_option maxHeartbeats 800000 in
theorem digits_any (s : ByteArray) (w : World) (hs : s.size ≤ maxLen) :
    Calls Tryd.prog 35 #[.string s] w fun e w' => e = .returned (.bool (digsB s.data.toList)) ∧ w = w' := by
  unfold maxLen at hs
  go_enter Tryd.func35, Tryd.ntmps35
  go_wp2
  go_loop [6] (fun i => ∃ k : Nat, k ≤ s.size ∧ i = .int .i64 k ∧ Hid ((s.data.toList.take k).all dB = true)) (fun i => s.size - (intOf i).toNat)
  case atStart => exact ⟨0, Nat.zero_le _, rfl, Lib.hid (by simp)⟩
  case round =>
    obtain ⟨k, hk, rfl, hr⟩ := hrel
    by_cases hlt : k < s.size
    · have hsn := take_snoc' s k hlt
      have hno := all_no s k hlt
      obtain ⟨z, hz⟩ : ∃ z, z = s[k] := ⟨_, rfl⟩
      rw [← hz] at hsn hno
      have HSN := Lib.hid hsn
      have HNO := Lib.hid hno
      have HZ := Lib.hid hz
      clear hsn hno hz
      by_cases h1 : (s[k].toNat : Int) < 48
      · go_wp2
        go_ret
        exact ⟨ret_bool (by rw [HNO.out (by rw [HZ.out]; unfold dB; simp; omega)]), rfl⟩
      by_cases h2 : 57 < (s[k].toNat : Int)
      · go_wp2
        go_ret
        exact ⟨ret_bool (by rw [HNO.out (by rw [HZ.out]; unfold dB; simp; omega)]), rfl⟩
      · go_wp2
        refine ⟨⟨k + 1, by omega, by go_num, Lib.hid ?_⟩, by simp [intOf]; omega⟩
        rw [HSN.out, List.all_append, hr.out, HZ.out]
        have : dB s[k] = true := by unfold dB; simp; omega
        simp [this]
    · go_wp2
      go_ret
      refine ⟨ret_bool ?_, rfl⟩
      have hk2 : k = s.size := by omega
      have hall := hr.out
      rw [hk2, ← blen, List.take_length] at hall
      unfold digsB
      rw [hall]
      rw [Lib.toList_data, Bool.and_true]

theorem digs_pos {s : ByteArray} (h : digsB s.data.toList = true) : 0 < s.size := by
  unfold digsB at h
  rw [← blen]
  cases hl : s.data.toList with
  | nil => rw [hl] at h; cases h
  | cons a l => simp

set_option maxHeartbeats 800000 in
theorem part_any (s : ByteArray) (w : World) (hs : s.size ≤ maxLen) :
    Calls Tryd.prog 30 #[.string s] w fun e w' => e = .returned (.bool (partB s.data.toList)) ∧ w = w' := by
  have hm := hs
  unfold maxLen at hs
  cases hd : digsB s.data.toList with
  | false =>
    have c := fun w' => digits_any s w' hm
    rw [hd] at c
    have C := Lib.hid c
    clear c
    go_enter Tryd.func30, Tryd.ntmps30
    go_wp2_with (go_at_call 35; refine (C.out _).mono ?_; rintro e w' ⟨rfl, rfl⟩)
    go_ret
    exact ⟨ret_bool (by simp [partB, hd]), rfl⟩
  | true =>
    have c := fun w' => digits_any s w' hm
    rw [hd] at c
    have C := Lib.hid c
    clear c
    go_enter Tryd.func30, Tryd.ntmps30
    go_wp2_with (go_at_call 35; refine (C.out _).mono ?_; rintro e w' ⟨rfl, rfl⟩)
    go_ret
    refine ⟨ret_bool ?_, rfl⟩
    unfold partB
    rw [hd, blen]
    simp
    omega

set_option maxHeartbeats 800000 in
theorem whole_any (s : ByteArray) (w : World) (hs : s.size ≤ maxLen) :
    Calls Tryd.prog 29 #[.string s] w fun e w' => e = .returned (.bool (wholeB s.data.toList)) ∧ w = w' := by
  have hm := hs
  unfold maxLen at hs
  cases hd : digsB s.data.toList with
  | false =>
    have c := fun w' => digits_any s w' hm
    rw [hd] at c
    have C := Lib.hid c
    clear c
    go_enter Tryd.func29, Tryd.ntmps29
    go_wp2_with (go_at_call 35; refine (C.out _).mono ?_; rintro e w' ⟨rfl, rfl⟩)
    go_ret
    exact ⟨ret_bool (by simp [wholeB, hd]), rfl⟩
  | true =>
    have c := fun w' => digits_any s w' hm
    rw [hd] at c
    have C := Lib.hid c
    clear c
    have hp := digs_pos hd
    have hh : s.data.toList.head? = some s[0] := by
      rw [List.head?_eq_getElem?, List.getElem?_eq_getElem (by rw [blen]; exact hp)]; rfl
    have HD := Lib.hid hd
    have HH := Lib.hid hh
    clear hd hh
    by_cases h1 : s.size = 1
    · have e1 : ((s.size : Int) == 1) = true := by simp [h1]
      have H1 := Lib.hid h1
      clear h1
      go_enter Tryd.func29, Tryd.ntmps29
      go_wp2_with (go_at_call 35; refine (C.out _).mono ?_; rintro e w' ⟨rfl, rfl⟩)
      go_ret
      exact ⟨ret_bool (by unfold wholeB; rw [HD.out, blen, H1.out]; rfl), rfl⟩
    · have e1 : ((s.size : Int) == 1) = false := by simp; omega
      have H1 := Lib.hid h1
      clear h1
      go_enter Tryd.func29, Tryd.ntmps29
      go_wp2_with (go_at_call 35; refine (C.out _).mono ?_; rintro e w' ⟨rfl, rfl⟩)
      go_ret
      refine ⟨ret_bool ?_, rfl⟩
      unfold wholeB
      rw [HD.out, blen, HH.out]
      have hn := H1.out
      have h1 : (s.size == 1) = false := by simp [hn]
      rw [h1]
      generalize s[0] = c
      rw [Bool.eq_iff_iff]
      simp only [bne_iff_ne, ne_eq, Bool.true_and, Bool.false_or, Option.some.injEq, ← UInt8.toNat_inj]
      have : (48 : UInt8).toNat = 48 := rfl
      omega

/-! strings.Cut at a point -/
def zeros : ByteArray := ⟨#[48, 48, 48, 48, 48, 48, 48, 48]⟩
def point : ByteArray := ⟨#[46]⟩

set_option maxHeartbeats 800000 in
theorem lcut_no (s : ByteArray) (w : World) (hi : Lib.indexByte s.data.toList 46 = -1) :
    Calls Tryd.prog 34 #[.string s, .string ⟨#[46]⟩] w fun e w' => e = .returned (.tuple #[.string s, .string ⟨#[]⟩, .bool false]) ∧ w = w' := by
  have c := Tryd.stringslite_Index_one s 46
  rw [hi] at c
  have C := Lib.hid c
  clear c hi
  go_enter Tryd.func34, Tryd.ntmps34
  go_wp2_with (go_at_call 41; refine (C.out _).mono ?_; rintro e w' ⟨rfl, rfl⟩)
  go_ret3
  exact ⟨rfl, rfl⟩
set_option maxHeartbeats 800000 in
theorem cut_no (s : ByteArray) (w : World) (hi : Lib.indexByte s.data.toList 46 = -1) :
    Calls Tryd.prog 28 #[.string s, .string ⟨#[46]⟩] w fun e w' => e = .returned (.tuple #[.string s, .string ⟨#[]⟩, .bool false]) ∧ w = w' := by
  have C := Lib.hid (fun w' => lcut_no s w' hi)
  clear hi
  go_enter Tryd.func28, Tryd.ntmps28
  go_wp2_with (go_at_call 34; refine (C.out _).mono ?_; rintro e w' ⟨rfl, rfl⟩)
  go_ret3
  exact ⟨rfl, rfl⟩

set_option maxHeartbeats 800000 in
theorem lcut_at (s : ByteArray) (i : Nat) (w : World) (hs : s.size ≤ maxLen) (hi : Lib.indexByte s.data.toList 46 = i) (hl : i < s.size) :
    Calls Tryd.prog 34 #[.string s, .string ⟨#[46]⟩] w fun e w' => e = .returned (.tuple #[.string (s.extract 0 i), .string (s.extract (i + 1) s.size), .bool true]) ∧ Below w.heap.size w w' := by
  unfold maxLen at hs
  have c := Tryd.stringslite_Index_one s 46
  rw [hi] at c
  have C := Lib.hid c
  clear c hi
  go_enter Tryd.func34, Tryd.ntmps34
  go_wp2_with (go_at_call 41; refine (C.out _).mono ?_; rintro e w' ⟨rfl, rfl⟩)
  go_quiet (fail)
  go_wp2_with fail
  go_ret3
  exact ⟨rfl, (Turns.refl (fun _ => False) _).drewN nq |>.below (fun _ _ h => h)⟩
set_option maxHeartbeats 800000 in
theorem cut_at (s : ByteArray) (i : Nat) (w : World) (hs : s.size ≤ maxLen) (hi : Lib.indexByte s.data.toList 46 = i) (hl : i < s.size) :
    Calls Tryd.prog 28 #[.string s, .string ⟨#[46]⟩] w fun e w' => e = .returned (.tuple #[.string (s.extract 0 i), .string (s.extract (i + 1) s.size), .bool true]) ∧ Below w.heap.size w w' := by
  have C := Lib.hid (fun w' => lcut_at s i w' hs hi hl)
  clear hi
  go_enter Tryd.func28, Tryd.ntmps28
  go_wp2_with (go_at_call 34; refine (C.out _).mono ?_; rintro e w1 ⟨rfl, hb1⟩)
  go_ret3
  exact ⟨rfl, hb1⟩

/-! The program's way to read an amount -/
def parseP (wh pt : ByteArray) (f : Bool) : Int × Int :=
  if wholeB wh.data.toList && (!f || partB pt.data.toList) then (if 8 < wh.size then (0, 6) else chk (numB (wh ++ pt ++ zeros.extract pt.size 8))) else (0, 3)
def cutP (s : ByteArray) : ByteArray × ByteArray × Bool :=
  if Lib.indexByte s.data.toList 46 = -1 then (s, ⟨#[]⟩, false) else (s.extract 0 (Lib.indexByte s.data.toList 46).toNat, s.extract ((Lib.indexByte s.data.toList 46).toNat + 1) s.size, true)

theorem cut_any (s : ByteArray) (w : World) (hs : s.size ≤ maxLen) :
    Calls Tryd.prog 28 #[.string s, .string ⟨#[46]⟩] w fun e w' => e = .returned (.tuple #[.string (cutP s).1, .string (cutP s).2.1, .bool (cutP s).2.2]) ∧ Below w.heap.size w w' := by
  have hge := Lib.indexByte_ge s.data.toList 46
  have hlt : Lib.indexByte s.data.toList 46 ≠ -1 → Lib.indexByte s.data.toList 46 < s.size := fun h => by
    obtain ⟨o, ho⟩ : ∃ o : Nat, Lib.indexByte s.data.toList 46 = o := ⟨(Lib.indexByte s.data.toList 46).toNat, by omega⟩
    have := (List.getElem?_eq_some_iff.1 (Lib.indexByte_some ho).1).1
    rw [blen] at this
    omega
  unfold cutP
  by_cases h : Lib.indexByte s.data.toList 46 = -1
  · rw [if_pos h]
    exact (cut_no s w h).mono fun e w' ⟨he, hw⟩ => ⟨he, hw ▸ Below.refl _ _⟩
  · rw [if_neg h]
    have := hlt h
    exact cut_at s _ w hs (by omega) (by omega)

theorem cutP_size (s : ByteArray) : (cutP s).1.size ≤ s.size ∧ (cutP s).2.1.size ≤ s.size := by
  unfold cutP
  split
  · exact ⟨Nat.le_refl _, Nat.zero_le _⟩
  · simp only [ByteArray.size_extract]
    omega
theorem cutP_none {s : ByteArray} (h : (cutP s).2.2 = false) : (cutP s).2.1 = ⟨#[]⟩ := by
  unfold cutP at *
  split at h
  · rw [if_pos ‹_›]
  · cases h

theorem partB_size {s : ByteArray} (h : partB s.data.toList = true) : s.size ≤ 8 := by
  unfold partB at h
  simp only [Bool.and_eq_true, decide_eq_true_eq] at h
  rw [← blen]
  exact h.2
theorem size_zeros (pt : ByteArray) (h : pt.size ≤ 8) (wh : ByteArray) : (wh ++ pt ++ zeros.extract pt.size 8).size = wh.size + 8 := by
  rw [ByteArray.size_append, ByteArray.size_append, ByteArray.size_extract]
  show wh.size + pt.size + (min 8 8 - pt.size) = _
  omega

set_option maxHeartbeats 1600000 in
theorem parse_any (s : ByteArray) (w : World) (hs : s.size ≤ maxLen) :
    Calls Tryd.prog 20 #[.string s] w fun e w' => e = .returned (.tuple #[.int .i64 (parseP (cutP s).1 (cutP s).2.1 (cutP s).2.2).1, .int .i64 (parseP (cutP s).1 (cutP s).2.1 (cutP s).2.2).2]) ∧ Below w.heap.size w w' := by
  have hz := cutP_size s
  have hnone := @cutP_none s
  have cu := fun w => cut_any s w hs
  obtain ⟨⟨wh, pt, f⟩, hC⟩ : ∃ C, C = cutP s := ⟨_, rfl⟩
  rw [← hC] at hz hnone cu ⊢
  dsimp only at hz hnone cu ⊢
  have cw := fun w' => whole_any wh w' (by omega)
  have cp := fun w' => part_any pt w' (by omega)
  unfold maxLen at hs
  have CU := Lib.hid cu
  clear hC cu
  cases hw : wholeB wh.data.toList with
  | false =>
    rw [hw] at cw
    have WH := Lib.hid cw
    clear cw cp hnone
    go_enter Tryd.func20, Tryd.ntmps20
    go_wp2_with (first | (go_at_call 28; refine (CU.out _).mono ?_; rintro e w1 ⟨rfl, hb1⟩) | (go_at_call 29; refine (WH.out _).mono ?_; rintro e w' ⟨rfl, rfl⟩))
    go_ret2
    exact ⟨ret_two (by simp [parseP, hw]), hb1⟩
  | true =>
    rw [hw] at cw
    have WH := Lib.hid cw
    have hwp : 0 < wh.size := digs_pos (by unfold wholeB at hw; simp only [Bool.and_eq_true] at hw; exact hw.1)
    clear cw
    cases f with
    | false =>
      have hpt := hnone rfl
      subst hpt
      clear cp hnone
      have hP : parseP wh ⟨#[]⟩ false = if 8 < wh.size then (0, 6) else chk (numB (wh ++ ⟨#[]⟩ ++ zeros.extract 0 8)) := by
        unfold parseP
        rw [hw]
        rfl
      have HP := Lib.hid hP
      clear hP hw
      by_cases h8 : 8 < wh.size
      · go_enter Tryd.func20, Tryd.ntmps20
        go_wp2_with (first | (go_at_call 28; refine (CU.out _).mono ?_; rintro e w1 ⟨rfl, hb1⟩) | (go_at_call 29; refine (WH.out _).mono ?_; rintro e w' ⟨rfl, rfl⟩))
        go_ret2
        exact ⟨ret_two (by rw [HP.out, if_pos h8]), hb1⟩
      · have NU := Lib.hid (fun w' => number_any (wh ++ ⟨#[]⟩ ++ zeros.extract 0 8) (Nat.le_trans (Nat.le_of_eq (size_zeros ⟨#[]⟩ (by decide) wh)) (by omega)) w')
        go_enter Tryd.func20, Tryd.ntmps20
        go_wp2_with (first | (go_at_call 28; refine (CU.out _).mono ?_; rintro e w1 ⟨rfl, hb1⟩) | (go_at_call 29; refine (WH.out _).mono ?_; rintro e w' ⟨rfl, rfl⟩) | (go_at_call 31; refine (NU.out _).mono ?_; rintro e w2 ⟨rfl, hb2⟩) | (go_at_call 25; refine (checked_any _ _).mono ?_; rintro e w' ⟨rfl, rfl⟩))
        go_ret2
        exact ⟨ret_two (by rw [HP.out, if_neg h8]), hb1.trans (hb2.mono hb1.size)⟩
    | true =>
      clear hnone
      cases hp : partB pt.data.toList with
      | false =>
        rw [hp] at cp
        have PT := Lib.hid cp
        clear cp
        go_enter Tryd.func20, Tryd.ntmps20
        go_wp2_with (first | (go_at_call 28; refine (CU.out _).mono ?_; rintro e w1 ⟨rfl, hb1⟩) | (go_at_call 29; refine (WH.out _).mono ?_; rintro e w' ⟨rfl, rfl⟩) | (go_at_call 30; refine (PT.out _).mono ?_; rintro e w' ⟨rfl, rfl⟩))
        go_ret2
        exact ⟨ret_two (by simp [parseP, hw, hp]), hb1⟩
      | true =>
        rw [hp] at cp
        have PT := Lib.hid cp
        have hp8 := partB_size hp
        have hP : parseP wh pt true = if 8 < wh.size then (0, 6) else chk (numB (wh ++ pt ++ zeros.extract pt.size 8)) := by
          unfold parseP
          rw [hw, hp]
          rfl
        have HP := Lib.hid hP
        clear cp hP hw hp
        by_cases h8 : 8 < wh.size
        · go_enter Tryd.func20, Tryd.ntmps20
          go_wp2_with (first | (go_at_call 28; refine (CU.out _).mono ?_; rintro e w1 ⟨rfl, hb1⟩) | (go_at_call 29; refine (WH.out _).mono ?_; rintro e w' ⟨rfl, rfl⟩) | (go_at_call 30; refine (PT.out _).mono ?_; rintro e w' ⟨rfl, rfl⟩))
          go_ret2
          exact ⟨ret_two (by rw [HP.out, if_pos h8]), hb1⟩
        · have NU := Lib.hid (fun w' => number_any (wh ++ pt ++ zeros.extract pt.size 8) (Nat.le_trans (Nat.le_of_eq (size_zeros pt hp8 wh)) (by omega)) w')
          go_enter Tryd.func20, Tryd.ntmps20
          go_wp2_with (first | (go_at_call 28; refine (CU.out _).mono ?_; rintro e w1 ⟨rfl, hb1⟩) | (go_at_call 29; refine (WH.out _).mono ?_; rintro e w' ⟨rfl, rfl⟩) | (go_at_call 30; refine (PT.out _).mono ?_; rintro e w' ⟨rfl, rfl⟩) | (go_at_call 31; refine (NU.out _).mono ?_; rintro e w2 ⟨rfl, hb2⟩) | (go_at_call 25; refine (checked_any _ _).mono ?_; rintro e w' ⟨rfl, rfl⟩))
          go_ret2
          exact ⟨ret_two (by rw [HP.out, if_neg h8]), hb1.trans (hb2.mono hb1.size)⟩
end Go.Proofs.YtopeblaiifkmoaaDoor
