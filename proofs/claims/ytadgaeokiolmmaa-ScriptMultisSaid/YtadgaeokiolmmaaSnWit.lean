/-
  PayWitness, of the program and of the reference. Conditions: sizes within the reach.
-/
import Derived.Test.YtadgaeokiolmmaaSnProg
namespace Go.Proofs.Ytadgaeokiolmmaa
open Go.RowKit

/-- The code that pushes a number from 0 to 16. -/
def vcode (v : Int) : UInt8 := if v = 0 then 0 else UInt8.ofNat (80 + v.toNat)
def witForm (v : Int) (ps : List UInt8) : List UInt8 := [vcode v, b8 (ps.length : Int)] ++ ps
theorem push_small (v : Int) (h0 : 0 ≤ v) (h1 : v ≤ 16) : pushB (numB v) = [vcode v] := by
  by_cases hz : v = 0
  · subst hz
    rw [show numB 0 = [] from numB_neg0]
    rfl
  · obtain ⟨m, rfl⟩ := Int.eq_ofNat_of_zero_le h0
    have hm : 0 < m := by omega
    have hx : (UInt8.ofNat (m % 256)).toNat = m := by rw [u8_of]; omega
    have hn : numB (m : Int) = [UInt8.ofNat (m % 256)] := by
      rw [numB_nat, bytesN_pos hm, Nat.div_eq_of_lt (by omega), bytesN_zero]
      exact topped_lo (fr := []) (by rw [hx]; omega)
    rw [hn]
    unfold pushB
    rw [alone_one, if_neg (by intro e; have := congrArg UInt8.toNat e; rw [hx] at this; have h129 : (129 : UInt8).toNat = 129 := rfl; omega), if_pos (by omega), hx]
    unfold vcode
    rw [if_neg hz]
    rfl
theorem push_prog (ps : List UInt8) (h2 : 2 ≤ ps.length) (h40 : ps.length ≤ 40) : pushB ps = b8 (ps.length : Int) :: ps := by
  match ps, h2 with
  | a :: b :: t, _ =>
    have : aloneB (a :: b :: t) = none := rfl
    unfold pushB headB
    rw [this, if_pos (by omega)]
    rfl
theorem small_vcode (v : Int) (h0 : 0 ≤ v) (h1 : v ≤ 16) : smallB (vcode v) = v := by
  unfold vcode
  by_cases hz : v = 0
  · subst hz; rfl
  · rw [if_neg hz]
    have hx : (UInt8.ofNat (80 + v.toNat)).toNat = 80 + v.toNat := by rw [UInt8.toNat_ofNat', Nat.mod_eq_of_lt (by omega)]
    unfold smallB
    rw [if_neg (by intro e; have := congrArg UInt8.toNat e; rw [hx] at this; have h00 : (0 : UInt8).toNat = 0 := rfl; omega), if_pos (by omega), hx]
    omega

set_option maxHeartbeats 800000 in
theorem pushNumber_any (v : Int) (w : World) (h0 : -9223372036854775808 ≤ v) (h1 : v ≤ 9223372036854775807) : Calls Try.prog 71 #[.int .i64 v] w (Fresh w (pushB (numB v))) := by
  have h8 := numB_eight v h0 h1
  obtain ⟨N, hN⟩ : ∃ N, N = numB v := ⟨_, rfl⟩
  have HN := Lib.hid (fun W => number_any v W h0 h1)
  rw [← hN] at HN h8 ⊢
  clear hN
  go_enter Try.func71, Try.ntmps71
  go_wp2_with fail
  refine (HN.out _).mono ?_
  intro e w1 hfr
  obtain ⟨u1, rfl, hown1, hb1⟩ := fresh_v hfr
  have HY := Lib.hid (Byt.of_own hown1)
  have HB1 := Lib.hid hb1
  clear hfr hown1 hb1
  go_wp2_with fail
  refine (push_any _ _ N w1 HY.out (Nat.le_refl _) (by omega)).mono ?_
  intro e w2 hfr
  obtain ⟨u2, rfl, hown2, hb2⟩ := fresh_v hfr
  have HO2 := Lib.hid (own_base hown2 HB1.out.size)
  have HB2 := Lib.hid (HB1.out.trans (hb2.mono HB1.out.size))
  clear hfr hown2 hb2
  go_wp2_with fail
  go_ret
  exact fresh_own HO2.out HB2.out

/-- What PayWitness answers. -/
def PayV (w : World) (v : Int) (ps : List UInt8) (e : Ending) (w' : World) : Prop :=
  if v < 0 ∨ 16 < v then e = .returned (.tuple #[.slice none 0 0, .int .i64 1]) ∧ Below w.heap.size w w'
  else if ps.length < 2 ∨ 40 < ps.length then e = .returned (.tuple #[.slice none 0 0, .int .i64 2]) ∧ Below w.heap.size w w'
  else ∃ u, e = .returned (.tuple #[u, .int .i64 0]) ∧ OwnB w' w.heap.size u (witForm v ps) ∧ Below w.heap.size w w'

theorem payV_big {w : World} {v : Int} {ps : List UInt8} {e : Ending} {w' : World} (hv : v < 0 ∨ 16 < v) (h : e = .returned (.tuple #[.slice none 0 0, .int .i64 1]) ∧ Below w.heap.size w w') : PayV w v ps e w' := by
  unfold PayV
  rw [if_pos hv]
  exact h
theorem payV_long {w : World} {v : Int} {ps : List UInt8} {e : Ending} {w' : World} (hv : ¬(v < 0 ∨ 16 < v)) (hp : ps.length < 2 ∨ 40 < ps.length) (h : e = .returned (.tuple #[.slice none 0 0, .int .i64 2]) ∧ Below w.heap.size w w') : PayV w v ps e w' := by
  unfold PayV
  rw [if_neg hv, if_pos hp]
  exact h
theorem payV_ok {w : World} {v : Int} {ps : List UInt8} {e : Ending} {w' : World} (hv : ¬(v < 0 ∨ 16 < v)) (hp : ¬(ps.length < 2 ∨ 40 < ps.length)) (h : ∃ u, e = .returned (.tuple #[u, .int .i64 0]) ∧ OwnB w' w.heap.size u (witForm v ps) ∧ Below w.heap.size w w') : PayV w v ps e w' := by
  unfold PayV
  rw [if_neg hv, if_neg hp]
  exact h

set_option maxRecDepth 100000 in
set_option maxHeartbeats 3200000 in
theorem payWitness_any (v : Int) (B : Nat) (x : Value) (ps : List UInt8) (w : World) (h0 : -9223372036854775808 ≤ v) (h1 : v ≤ 9223372036854775807) (hx : Byt w B x ps) (hB : B ≤ w.heap.size) (hl : ps.length ≤ 47000000) :
    Calls Try.prog 36 #[.int .i64 v, x] w (PayV w v ps) := by
  have HX := Lib.hid hx
  obtain ⟨A, c, rfl⟩ := hx.form
  clear hx
  by_cases hv : v < 0 ∨ 16 < v
  · refine Calls.mono (R := fun e w' => e = .returned (.tuple #[.slice none 0 0, .int .i64 1]) ∧ Below w.heap.size w w') ?_ (fun e w' h => payV_big hv h)
    by_cases hn : v < 0
    · clear hv
      go_enter Try.func36, Try.ntmps36
      go_wp2_with fail
      go_ret2
      exact ⟨rfl, Below.refl _ _⟩
    · have d1 : decide (v < 0) = false := decide_eq_false hn
      have hh : (16 : Int) < v := by omega
      clear hv
      go_enter Try.func36, Try.ntmps36
      go_wp2_with fail
      go_ret2
      exact ⟨rfl, Below.refl _ _⟩
  · have d1 : decide (v < 0) = false := decide_eq_false (by omega)
    have d2 : decide ((16 : Int) < v) = false := decide_eq_false (by omega)
    by_cases hp : ps.length < 2 ∨ 40 < ps.length
    · refine Calls.mono (R := fun e w' => e = .returned (.tuple #[.slice none 0 0, .int .i64 2]) ∧ Below w.heap.size w w') ?_ (fun e w' h => payV_long hv hp h)
      by_cases hn : ps.length < 2
      · have d3 : decide ((ps.length : Int) < 2) = true := decide_eq_true (by omega)
        clear hv hp
        go_enter Try.func36, Try.ntmps36
        go_wp2_with fail
        go_ret2
        exact ⟨rfl, Below.refl _ _⟩
      · have d3 : decide ((ps.length : Int) < 2) = false := decide_eq_false (by omega)
        have d4 : decide ((40 : Int) < (ps.length : Int)) = true := decide_eq_true (by omega)
        clear hv hp
        go_enter Try.func36, Try.ntmps36
        go_wp2_with fail
        go_ret2
        exact ⟨rfl, Below.refl _ _⟩
    · refine Calls.mono (R := fun e w' => ∃ u, e = .returned (.tuple #[u, .int .i64 0]) ∧ OwnB w' w.heap.size u (witForm v ps) ∧ Below w.heap.size w w') ?_ (fun e w' h => payV_ok hv hp h)
      have d3 : decide ((ps.length : Int) < 2) = false := decide_eq_false (by omega)
      have d4 : decide ((40 : Int) < (ps.length : Int)) = false := decide_eq_false (by omega)
      have hpn := push_small v (by omega) (by omega)
      have hpp := push_prog ps (by omega) (by omega)
      have HN := Lib.hid (fun W => pushNumber_any v W h0 h1)
      rw [hpn] at HN
      have HPP := Lib.hid hpp
      have hl40 : ps.length ≤ 40 := by omega
      clear hv hp hpn hpp
      go_enter Try.func36, Try.ntmps36
      go_wp2_with fail
      refine (HN.out _).mono ?_
      intro e w1 hfr
      obtain ⟨u1, rfl, hown1, hb1⟩ := fresh_v hfr
      obtain ⟨A1, c1, rfl⟩ := hown1.form
      have HY1 := Lib.hid (Byt.of_own hown1)
      have HB1 := Lib.hid hb1
      have HX1 := Lib.hid (HX.out.below (hb1.mono hB))
      clear hfr hown1 hb1
      go_wp2_with fail
      refine (push_any B _ ps w1 HX1.out (Nat.le_trans hB HB1.out.size) hl).mono ?_
      rw [HPP.out]
      intro e w2 hfr
      obtain ⟨u2, rfl, hown2, hb2⟩ := fresh_v hfr
      obtain ⟨A2, c2, rfl⟩ := hown2.form
      have y1 := (HY1.out.below hb2).more hb2.size
      have y2 := Byt.of_own hown2
      have bag := BagR.made w2 22 [.slice A1 [vcode v].length c1, .slice A2 (b8 (ps.length : Int) :: ps).length c2] [(.slice A1 [vcode v].length c1, [vcode v]), (.slice A2 (b8 (ps.length : Int) :: ps).length c2, b8 (ps.length : Int) :: ps)] rfl (by unfold maxLen; simp)
        (by intro p hp; simp only [List.mem_cons, List.not_mem_nil, or_false] at hp; rcases hp with rfl | rfl; exact y1; exact y2)
      have BAG := Lib.hid bag
      have HB2 := Lib.hid (HB1.out.trans (hb2.mono HB1.out.size))
      have hl1 : [vcode v].length = 1 := rfl
      have hl2 : (b8 (ps.length : Int) :: ps).length = ps.length + 1 := rfl
      rw [hl1, hl2] at BAG
      rw [hl2]
      clear y1 y2 bag hl1 hl2 hfr hown2 hb2
      go_wp2_with fail
      refine (concat_any _ _ _ _ BAG.out (by simp) (by unfold total; simp; omega)).mono ?_
      intro e w3 hfr
      obtain ⟨u3, rfl, hown3, hb3⟩ := fresh_v hfr
      have e3 : joined [((.slice A1 1 c1 : Value), [vcode v]), (.slice A2 (ps.length + 1) c2, b8 (ps.length : Int) :: ps)] = witForm v ps := by
        unfold joined witForm
        simp
      rw [e3] at hown3
      have HO3 := Lib.hid (own_base hown3 (by have := HB2.out.size; simp; omega : w.heap.size ≤ _))
      have HB3 := Lib.hid ((HB2.out.alloc HB2.out.size (.cells #[.slice A1 1 c1, .slice A2 (ps.length + 1) c2] 22)).trans (hb3.mono (by have := HB2.out.size; simp; omega)))
      clear hfr hown3 hb3 e3
      go_wp2_with fail
      go_ret2
      exact ⟨_, rfl, HO3.out, HB3.out⟩

set_option maxRecDepth 100000 in
set_option maxHeartbeats 3200000 in
theorem rpayWitness_any (v : Int) (B : Nat) (x : Value) (ps : List UInt8) (w : World) (hx : Byt w B x ps) (hl : ps.length ≤ 47000000) :
    Calls Try.prog 38 #[.int .i64 v, x] w (PayV w v ps) := by
  obtain ⟨i0, hi, hz0, hz1, hz2⟩ := info_parts info_u8
  have HX := Lib.hid hx
  obtain ⟨A, c, rfl⟩ := hx.form
  clear hx
  by_cases hv : v < 0 ∨ 16 < v
  · refine Calls.mono (R := fun e w' => e = .returned (.tuple #[.slice none 0 0, .int .i64 1]) ∧ Below w.heap.size w w') ?_ (fun e w' h => payV_big hv h)
    by_cases hn : v < 0
    · clear hv
      go_enter Try.func38, Try.ntmps38
      go_wp2_with fail
      go_ret2
      exact ⟨rfl, Below.refl _ _⟩
    · have d1 : decide (v < 0) = false := decide_eq_false hn
      have hh : (16 : Int) < v := by omega
      clear hv
      go_enter Try.func38, Try.ntmps38
      go_wp2_with fail
      go_ret2
      exact ⟨rfl, Below.refl _ _⟩
  · have d1 : decide (v < 0) = false := decide_eq_false (by omega)
    have d2 : decide ((16 : Int) < v) = false := decide_eq_false (by omega)
    by_cases hp : ps.length < 2 ∨ 40 < ps.length
    · refine Calls.mono (R := fun e w' => e = .returned (.tuple #[.slice none 0 0, .int .i64 2]) ∧ Below w.heap.size w w') ?_ (fun e w' h => payV_long hv hp h)
      by_cases hn : ps.length < 2
      · have d3 : decide ((ps.length : Int) < 2) = true := decide_eq_true (by omega)
        clear hv hp
        go_enter Try.func38, Try.ntmps38
        go_wp2_with fail
        go_ret2
        exact ⟨rfl, Below.refl _ _⟩
      · have d3 : decide ((ps.length : Int) < 2) = false := decide_eq_false (by omega)
        have d4 : decide ((40 : Int) < (ps.length : Int)) = true := decide_eq_true (by omega)
        clear hv hp
        go_enter Try.func38, Try.ntmps38
        go_wp2_with fail
        go_ret2
        exact ⟨rfl, Below.refl _ _⟩
    · refine Calls.mono (R := fun e w' => ∃ u, e = .returned (.tuple #[u, .int .i64 0]) ∧ OwnB w' w.heap.size u (witForm v ps) ∧ Below w.heap.size w w') ?_ (fun e w' h => payV_ok hv hp h)
      have d3 : decide ((ps.length : Int) < 2) = false := decide_eq_false (by omega)
      have d4 : decide ((40 : Int) < (ps.length : Int)) = false := decide_eq_false (by omega)
      have hv0 : 0 ≤ v := by omega
      have hv1 : v ≤ 16 := by omega
      have hl40 : ps.length ≤ 40 := by omega
      have hb1 : bv (b8 (ps.length : Int)) = .int .u8 (ps.length : Int) := bv_b8_of (by omega) (by omega)
      by_cases hz : v = 0
      · have d5 : decide ((0 : Int) < v) = false := decide_eq_false (by omega)
        have HO := Lib.hid (own_made w 5 [.int .u8 0, .int .u8 (ps.length : Int)] [vcode v, b8 (ps.length : Int)] (by rw [List.map_cons, List.map_cons, hb1, hz]; rfl) (by unfold maxLen; simp))
        have HXX := Lib.hid (byt_later HX.out (.cells #[.int .u8 0, .int .u8 (ps.length : Int)] 5))
        have HBB := Lib.hid ((Below.refl _ w).alloc (Nat.le_refl _) (.cells #[.int .u8 0, .int .u8 (ps.length : Int)] 5))
        clear hv hp hb1 hz hv0 hv1
        go_enter Try.func38, Try.ntmps38
        go_wp2_with (at_builtin; refine wpList_append_bytes rfl (.tmp 30) (.tmp 31) 22 rfl w.heap.size 5 i0 slice_u8 hi hz0 hz1 hz2 _ _ _ rfl HO.out B _ ps rfl HXX.out (by simp; omega) HBB.out.size ?_; intro v5 w5 hown5 hg5 hat5)
        go_ret2
        exact ⟨_, rfl, own_b hown5 rfl, HBB.out.grown hg5 HBB.out.size (fun j hj => (World.ownsRow.lt HO.out j hj).1)⟩
      · have d5 : decide ((0 : Int) < v) = true := decide_eq_true (by omega)
        have d5' : (0 : Int) < v := by omega
        have hvc : bv (vcode v) = .int .u8 (80 + v) := by
          unfold vcode bv
          rw [if_neg hz, UInt8.toNat_ofNat', Nat.mod_eq_of_lt (by omega)]
          congr 1
          omega
        have HO := Lib.hid (own_made w 5 [.int .u8 (80 + v), .int .u8 (ps.length : Int)] [vcode v, b8 (ps.length : Int)] (by rw [List.map_cons, List.map_cons, hb1, hvc]; rfl) (by unfold maxLen; simp))
        have HXX := Lib.hid (byt_later HX.out (.cells #[.int .u8 (80 + v), .int .u8 (ps.length : Int)] 5))
        have HBB := Lib.hid ((Below.refl _ w).alloc (Nat.le_refl _) (.cells #[.int .u8 (80 + v), .int .u8 (ps.length : Int)] 5))
        clear hv hp hb1 hz hvc
        go_enter Try.func38, Try.ntmps38
        go_wp2_with (at_builtin; refine wpList_append_bytes rfl (.tmp 30) (.tmp 31) 22 rfl w.heap.size 5 i0 slice_u8 hi hz0 hz1 hz2 _ _ _ rfl HO.out B _ ps rfl HXX.out (by simp; omega) HBB.out.size ?_; intro v5 w5 hown5 hg5 hat5)
        go_ret2
        exact ⟨_, rfl, own_b hown5 rfl, HBB.out.grown hg5 HBB.out.size (fun j hj => (World.ownsRow.lt HO.out j hj).1)⟩
end Go.Proofs.Ytadgaeokiolmmaa
