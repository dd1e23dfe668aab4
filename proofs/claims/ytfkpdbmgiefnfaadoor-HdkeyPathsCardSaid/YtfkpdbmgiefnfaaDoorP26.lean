/-
  Texts joined: Fill2, S5RSum, HbRmac. Conditions: those of each.
-/
import Derived.Test.YtfkpdbmgiefnfaaDoorP23
import Derived.Test.YtfkpdbmgiefnfaaDoorP25
import Derived.Deep.CutBlock
import Derived.Test.YtfkpdbmgiefnfaaDoorP15
import Derived.Deep.Onto
/-
  The reference's fill for the other two digests. Conditions: sizes within the reach.
-/
namespace Go.Proofs.YtfkpdbmgiefnfaaDoor
open Go.RowKit

set_option maxRecDepth 100000 in
set_option maxHeartbeats 3200000 in
theorem fill512_any (B : Nat) (x : Value) (m : List UInt8) (w : World) (hx : Byt w B x m) (hB : B ≤ w.heap.size) (hl : m.length < 281474976710656) (hl2 : m.length + 400 ≤ 140737488355328) :
    Calls Tryd.prog 48 #[x, .int .i64 128, .int .i64 16, .bool false] w fun e w' => ∃ v, e = .returned v ∧ OwnB w' w.heap.size v (fillG m 128 16 false) ∧ Below w.heap.size w w' := by
  obtain ⟨i0, hi, hz0, hz1, hz2⟩ := info_parts info_u8
  obtain ⟨A, c, rfl⟩ := hx.form
  have hr1 : Byt (w.alloc (.cells #[] 5)) B (.slice A m.length c) m := hx.below ((Below.refl _ w).alloc hB _)
  have hown : (w.alloc (.cells #[] 5)).ownsRow w.heap.size 5 1 (.slice (some ⟨w.heap.size, 0, none⟩) 0 0) 0 [] :=
    World.ownsRow_made w #[] 0 (Nat.le_refl _) (by unfold maxLen; omega) rfl
  obtain ⟨Z, hZ⟩ : ∃ Z, Z = zeroG m.length 128 16 := ⟨_, rfl⟩
  have hz64 : Z < 128 := by rw [hZ]; unfold zeroG; omega
  have hzz : (m.length + 1 + Z) % 128 = 112 := by rw [hZ]; unfold zeroG; omega
  have hzn : ∀ k, k < Z → (m.length + 1 + k) % 128 ≠ 112 := fun k hk => by rw [hZ] at hk; unfold zeroG at hk; omega
  have HZ := Lib.hid hZ
  have HZZ := Lib.hid hzz
  have HZN := Lib.hid hzn
  have HX := Lib.hid hx
  clear hZ hzz hzn hx
  go_enter Tryd.func48, Tryd.ntmps48
  go_upto_region 2 with (at_builtin; refine wpList_append_bytes rfl (.tmp 14) (.tmp 15) 22 rfl w.heap.size 5 i0 slice_u8 hi hz0 hz1 hz2 _ 0 [] rfl hown B _ m rfl hr1 (by omega) (by simp) ?_; intro v1 w1 hown1 hg1 hat1; obtain ⟨A1, c1, rfl⟩ := own_form hown1)
  rw [Nat.zero_add] at *
  have hb1 : Below w.heap.size w w1 := ((Below.refl _ w).alloc (Nat.le_refl _) _).grown hg1 (by simp) (fun k hk => by cases hk; exact Nat.le_refl _)
  have how1 : w1.ownsRow w.heap.size 5 1 (.slice A1 m.length c1) m.length (m.map bv) := by simpa using hown1
  have H1 := Lib.hid how1
  have HB1 := Lib.hid hb1
  clear hown1 hg1 hat1 hb1 hown hr1 how1
  have hmade : Byt (w1.alloc (.cells #[.int .u8 128] 5)) (w1.heap.size + 1) (.slice (some ⟨w1.heap.size, 0, none⟩) 1 1) [128] := Byt.made w1 _ [_] [128] rfl (by unfold maxLen; simp)
  have HM := Lib.hid hmade
  clear hmade
  go_upto_block 0 with (at_builtin; refine wpList_append_bytes rfl (.tmp 17) (.tmp 18) 22 rfl w.heap.size 5 i0 slice_u8 hi hz0 hz1 hz2 _ m.length (m.map bv) rfl (H1.out.alloc _) (w1.heap.size + 1) _ [128] rfl HM.out (by simp; omega) (by have := HB1.out.size; simp; omega) ?_; intro v2 w2 hown2 hg2 hat2; obtain ⟨A2, c2, rfl⟩ := own_form hown2)
  have hb2 : Below w.heap.size w w2 := (HB1.out.alloc HB1.out.size _).grown hg2 (by have := HB1.out.size; simp; omega) (fun j hj => (H1.out.lt j hj).1)
  have how2 : OwnB w2 w.heap.size (.slice A2 (m.length + [(128 : UInt8)].length) c2) (m ++ [128] ++ List.replicate 0 0) := by
    unfold OwnB
    simpa using hown2
  have H2 := Lib.hid how2
  have HB2 := Lib.hid hb2
  clear hown2 hg2 hat2 hb2 how2 HM H1
  go_cut [9] (fun v wx => OwnB wx w.heap.size v (m ++ [128] ++ List.replicate Z 0) ∧ Below w.heap.size w wx)
  case first =>
    go_wp2_with fail
    go_loopw [9] (fun v wr => ∃ k : Nat, k ≤ Z ∧ OwnB wr w.heap.size v (m ++ [128] ++ List.replicate k 0) ∧ Below w.heap.size w wr) (fun v _ => Z + m.length + 2 - slen v)
    case atStart => exact ⟨0, by omega, H2.out, HB2.out⟩
    case round =>
      obtain ⟨k, hk, hown, hbel⟩ := hrel
      obtain ⟨ys, hys⟩ : ∃ ys, ys = m ++ [128] ++ List.replicate k 0 := ⟨_, rfl⟩
      have hyl : ys.length = m.length + 1 + k := by rw [hys]; simp; omega
      rw [← hys] at hown
      obtain ⟨A3, c3, rfl⟩ := hown.form
      obtain ⟨r, hr⟩ : ∃ r, r = ys.length % 128 := ⟨_, rfl⟩
      have er : (ys.length : Int) % 128 = (r : Int) := by omega
      have HR := Lib.hid hr
      have HY := Lib.hid hys
      have HYL := Lib.hid hyl
      clear hr hys hyl
      by_cases hlt : k < Z
      · have hrn : ((r : Int) != 112) = true := by have := HZN.out k hlt; have := HR.out; have := HYL.out; simp; omega
        have hmade : Byt (wr.alloc (.cells #[.int .u8 0] 5)) (wr.heap.size + 1) (.slice (some ⟨wr.heap.size, 0, none⟩) 1 1) [0] := Byt.made wr _ [_] [0] rfl (by unfold maxLen; simp)
        have HM := Lib.hid hmade
        have HO := Lib.hid (show wr.ownsRow w.heap.size 5 1 (.slice A3 ys.length c3) ys.length (ys.map bv) from hown)
        clear hmade hown
        go_wp2_with (at_builtin; refine wpList_append_bytes rfl (.tmp 28) (.tmp 29) 22 rfl w.heap.size 5 i0 slice_u8 hi hz0 hz1 hz2 _ ys.length (ys.map bv) rfl (HO.out.alloc _) (wr.heap.size + 1) _ [0] rfl HM.out (by have := HYL.out; simp; omega) (by have := hbel.size; simp; omega) ?_; intro v4 w4 hown4 hg4 hat4; obtain ⟨A4, c4, rfl⟩ := own_form hown4)
        have hb4 : Below w.heap.size w w4 := (hbel.alloc hbel.size _).grown hg4 (by have := hbel.size; simp; omega) (fun j hj => (HO.out.lt j hj).1)
        refine ⟨⟨k + 1, by omega, ?_, hb4⟩, by have := HYL.out; simp only [slen]; omega⟩
        have e : m ++ [128] ++ List.replicate (k + 1) 0 = ys ++ [(0 : UInt8)] := by rw [HY.out, List.replicate_succ', ← List.append_assoc]
        rw [e]
        unfold OwnB
        rw [List.length_append, List.map_append]
        exact hown4
      · obtain rfl : k = Z := by omega
        have hrn : ((r : Int) != 112) = false := by have := HZZ.out; have := HR.out; have := HYL.out; simp; omega
        rw [HY.out] at hown
        have hown' : OwnB wr w.heap.size (.slice A3 ys.length c3) (m ++ [128] ++ List.replicate k 0) := by rw [HY.out]; exact hown
        have HO := Lib.hid hown'
        have HBE := Lib.hid hbel
        clear hown hown' hbel
        go_wp2_with fail
        go_meet
        exact ⟨HO.out, HBE.out⟩
  case rest =>
    obtain ⟨hown, hbel⟩ := hcut
    obtain ⟨pre, hpre⟩ : ∃ pre, pre = m ++ [128] ++ List.replicate Z 0 := ⟨_, rfl⟩
    have hpl : pre.length = m.length + 1 + Z := by rw [hpre]; simp; omega
    rw [← hpre] at hown
    obtain ⟨A3, c3, rfl⟩ := hown.form
    obtain ⟨N, hN⟩ : ∃ N : Nat, N = 8 * m.length := ⟨_, rfl⟩
    have eN : (m.length : Int) * 8 = (N : Int) := by omega
    have HO := Lib.hid hown
    have HBE := Lib.hid hbel
    have HPL := Lib.hid hpl
    have HPRE := Lib.hid hpre
    have HN := Lib.hid hN
    obtain ⟨D, hD⟩ : ∃ D, D = wc.heap.size := ⟨_, rfl⟩
    have HD := Lib.hid hD
    have HZV := HZ
    clear hown hbel hpl hpre hN hD HZ HZZ HZN H2 HB2 HB1
    go_upto_block 2 with fail
    go_cut [9, 11] (fun v9 v11 wx => v9 = .slice A3 pre.length c3 ∧ OwnB wx D v11 (low (N : Int) 16) ∧ Below D wc wx)
    case first =>
      go_wp2_with fail
      go_loopw [10, 11, 12] (fun xv v iv wr => ∃ (q : Int) (zs : List UInt8), zs.length ≤ 16 ∧ iv = .int .i64 (zs.length : Int) ∧ xv = .int .u64 q ∧ 0 ≤ q ∧ q < 18446744073709551616 ∧ Hid (low (N : Int) 16 = zs ++ low q (16 - zs.length)) ∧
          OwnB wr D v zs ∧ Below D wc wr) (fun _ _ iv _ => 16 - (intOf iv).toNat)
      case atStart => exact ⟨N, [], by simp, rfl, rfl, by omega, by have := HN.out; omega, Lib.hid rfl, OwnB.nil _ _, by rw [HD.out]; exact Below.refl _ _⟩
      case round =>
        obtain ⟨q, zs, hz, rfl, rfl, hm0, hm1, hlow, hown, hbel⟩ := hrel
        obtain ⟨A4, c4, rfl⟩ := hown.form
        by_cases hlt : zs.length < 16
        · have hmade : Byt (wr.alloc (.cells #[.int .u8 (q % 256)] 5)) (wr.heap.size + 1) (.slice (some ⟨wr.heap.size, 0, none⟩) 1 1) [b8 q] := Byt.made wr _ [_] [b8 q] (by simp [bv_b8]) (by unfold maxLen; simp)
          have hsz : D ≤ wr.heap.size := by have := hbel.size; have := HD.out; omega
          have HO2 := Lib.hid (show wr.ownsRow D 5 1 (.slice A4 zs.length c4) zs.length (zs.map bv) from hown)
          have HM := Lib.hid hmade
          clear hmade hown
          go_wp2_with (at_builtin; refine wpList_append_bytes rfl (.tmp 40) (.tmp 44) 22 rfl D 5 i0 slice_u8 hi hz0 hz1 hz2 _ zs.length (zs.map bv) rfl (HO2.out.alloc _) (wr.heap.size + 1) _ [b8 q] rfl HM.out (by simp; omega) (by simp; omega) ?_; intro v5 w5 hown5 hg5 hat5; obtain ⟨A5, c5, rfl⟩ := own_form hown5)
          have hb5 : Below D wc w5 := (hbel.alloc hsz _).grown hg5 (by simp; omega) (fun j hj => (HO2.out.lt j hj).1)
          have hstep := low_step hlt hlow.out
          refine ⟨⟨q / 256, zs ++ [b8 q], by simp; omega, by simp, rfl, by omega, by omega, Lib.hid hstep, ?_, hb5⟩, by simp [intOf]; omega⟩
          unfold OwnB
          rw [List.length_append, List.map_append]
          exact hown5
        · have hzk : zs.length = 16 := by omega
          have hlz : low (N : Int) 16 = zs := by
            have h := hlow.out
            rw [hzk, Nat.sub_self] at h
            simpa [low] using h
          have HO2 := Lib.hid hown
          have HLZ := Lib.hid hlz
          have HBE2 := Lib.hid hbel
          clear hown hlz hbel hlow hzk
          go_wp2_with fail
          go_meet
          exact ⟨rfl, by rw [HLZ.out]; exact HO2.out, HBE2.out⟩
    case rest =>
      obtain ⟨rfl, hownL, hbelL⟩ := hcut
      obtain ⟨lb, hlb⟩ : ∃ lb, lb = low (N : Int) 16 := ⟨_, rfl⟩
      have hlbl : lb.length = 16 := by rw [hlb, low_length]
      rw [← hlb] at hownL
      obtain ⟨gl, cl, rfl, hgD, hgs, hcl⟩ := hownL.block (by omega)
      have hcap : cl ≤ 9223372036854775807 := by
        have h := hownL.byt
        obtain ⟨_, c', e, _, h2, _⟩ := h
        injection e with _ _ e3
        subst e3
        unfold maxLen at h2
        exact h2
      have hcell : ∀ (j : Nat) (u : UInt8), lb[j]? = some u → wc.cell? ⟨gl, j, none⟩ = some (bv u) := fun j u hu => hownL.cell hu
      have hpre0 : OwnB wc w.heap.size (.slice A3 pre.length c3) (pre ++ (lb.reverse).take 0) := by
        rw [List.take_zero, List.append_nil]
        exact own_turns (S := fun k => D ≤ k) HO.out ⟨hbelL.os, hbelL.tape, hbelL.output, hbelL.size, fun k hk hn => hbelL.block k (by omega)⟩ (fun k hk => by have := (HO.out.lt k hk).2; have := HD.out; omega)
      have hneq : (Value.slice A3 pre.length c3).ownBlock ≠ some gl := fun h => by have := (HO.out.lt gl h).2; have := HD.out; omega
      have hbelW : Below w.heap.size w wc := HBE.out.trans (hbelL.mono (by have := HBE.out.size; have := HD.out; omega))
      have HLB := Lib.hid hlb
      have HLBL := Lib.hid hlbl
      rw [hlbl]
      have HP0 := Lib.hid hpre0
      have HNQ := Lib.hid hneq
      have HC0 := Lib.hid hcell
      have HBW := Lib.hid hbelW
      obtain ⟨wL, hwL⟩ : ∃ wL : World, wL = wc := ⟨_, rfl⟩
      clear hlb hlbl hownL hbelL hpre0 hneq hcell hbelW HO HBE
      go_wp2_with fail
      go_loopw [9, 13] (fun v iv wr => ∃ i : Nat, i ≤ 16 ∧ iv = .int .i64 (i : Int) ∧ OwnB wr w.heap.size v (pre ++ (lb.reverse).take i) ∧ v.ownBlock ≠ some gl ∧ gl < wr.heap.size ∧ Hid (∀ (j : Nat) (u : UInt8), lb[j]? = some u → wr.cell? ⟨gl, j, none⟩ = some (bv u)) ∧ Below w.heap.size w wr) (fun _ iv _ => 16 - (intOf iv).toNat)
      case atStart => exact ⟨0, by omega, rfl, HP0.out, HNQ.out, hgs, HC0, HBW.out⟩
      case round =>
        obtain ⟨i, hi2, rfl, hown, hne, hgr, hcr, hbel⟩ := hrel
        obtain ⟨ys, hys⟩ : ∃ ys, ys = pre ++ (lb.reverse).take i := ⟨_, rfl⟩
        have hyl : ys.length = pre.length + i := by rw [hys, List.length_append, List.length_take]; have := HLBL.out; simp; omega
        rw [← hys] at hown
        obtain ⟨A4, c4, rfl⟩ := hown.form
        by_cases hlt : i < 16
        · obtain ⟨p, hp⟩ : ∃ p, p = 16 - 1 - i := ⟨_, rfl⟩
          have ep : 16 - 1 - (i : Int) = (p : Int) := by omega
          have hpl2 : (p : Int) < 16 := by omega
          obtain ⟨u, hu⟩ : ∃ u, lb[p]? = some u := ⟨_, List.getElem?_eq_getElem (by have := HLBL.out; omega)⟩
          have hcu : wr.cell? ⟨gl, p, none⟩ = some (.int .u8 (u.toNat : Int)) := hcr.out p u hu
          have hfu : (lb.reverse)[i]? = some u := by
            rw [List.getElem?_reverse (by have := HLBL.out; omega), HLBL.out, ← hp]; exact hu
          have hmade : Byt (wr.alloc (.cells #[.int .u8 (u.toNat : Int)] 5)) (wr.heap.size + 1) (.slice (some ⟨wr.heap.size, 0, none⟩) 1 1) [u] := Byt.made wr _ [_] [u] rfl (by unfold maxLen; simp)
          have HO2 := Lib.hid (show wr.ownsRow w.heap.size 5 1 (.slice A4 ys.length c4) ys.length (ys.map bv) from hown)
          have HM := Lib.hid hmade
          have HY := Lib.hid hys
          have HYL := Lib.hid hyl
          have HFU := Lib.hid hfu
          
          
          rw [show p = 15 - i from hp] at hcu
          clear hmade hown hys hyl hfu hu ep hpl2 hp
          go_wp2_with (at_builtin; refine wpList_append_bytes rfl (.tmp 61) (.tmp 69) 22 rfl w.heap.size 5 i0 slice_u8 hi hz0 hz1 hz2 _ ys.length (ys.map bv) rfl (HO2.out.alloc _) (wr.heap.size + 1) _ [u] rfl HM.out (by have := HYL.out; have := HPL.out; simp; omega) (by have := hbel.size; simp; omega) ?_; intro v5 w5 hown5 hg5 hat5; obtain ⟨A5, c5, rfl⟩ := own_form hown5)
          have hb5 : Below w.heap.size w w5 := (hbel.alloc hbel.size _).grown hg5 (by have := hbel.size; simp; omega) (fun j hj => (HO2.out.lt j hj).1)
          refine ⟨⟨i + 1, by omega, by go_num, ?_, ?_, ?_, Lib.hid ?_, hb5⟩, by simp [intOf]; omega⟩
          · have e : pre ++ (lb.reverse).take (i + 1) = ys ++ [u] := by rw [HY.out, List.take_add_one, HFU.out, List.append_assoc]; rfl
            rw [e]
            unfold OwnB
            rw [List.length_append, List.map_append]
            exact hown5
          · show (Value.slice A5 (ys.length + [u].length) c5).ownBlock ≠ some gl
            rcases hat5 with h | h
            · rw [h]; exact hne
            · rw [h]; intro h2; injection h2 with h2; simp at h2; omega
          · have := hg5.size; simp at this; omega
          · intro j u2 hu2
            refine (World.cell?_of_block (w := wr) (a := ⟨gl, j, none⟩) ?_).trans (hcr.out j u2 hu2)
            have h1 := hg5.block gl (by simp; omega) (fun h => hne h.symm)
            exact h1.trans (Below.heap_alloc _ _ _ hgr)
        · have hin : (lb.reverse).take i = lb.reverse := List.take_of_length_le (by have := HLBL.out; simp; omega)
          have e : ys = fillG m 128 16 false := by
            rw [hys, hin, HPRE.out, HLB.out, HN.out, HZV.out]
            unfold fillG
            simp
          have HE := Lib.hid e
          have HO2 := Lib.hid hown
          have HBE2 := Lib.hid hbel
          clear e hown hbel hys hin
          go_wp2_with fail
          go_ret
          exact ⟨_, rfl, by rw [← HE.out]; exact HO2.out, HBE2.out⟩

set_option maxRecDepth 100000 in
set_option maxHeartbeats 3200000 in
theorem fillR_any (B : Nat) (x : Value) (m : List UInt8) (w : World) (hx : Byt w B x m) (hB : B ≤ w.heap.size) (hl : m.length < 281474976710656) (hl2 : m.length + 400 ≤ 140737488355328) :
    Calls Tryd.prog 48 #[x, .int .i64 64, .int .i64 8, .bool true] w fun e w' => ∃ v, e = .returned v ∧ OwnB w' w.heap.size v (fillG m 64 8 true) ∧ Below w.heap.size w w' := by
  obtain ⟨i0, hi, hz0, hz1, hz2⟩ := info_parts info_u8
  obtain ⟨A, c, rfl⟩ := hx.form
  have hr1 : Byt (w.alloc (.cells #[] 5)) B (.slice A m.length c) m := hx.below ((Below.refl _ w).alloc hB _)
  have hown : (w.alloc (.cells #[] 5)).ownsRow w.heap.size 5 1 (.slice (some ⟨w.heap.size, 0, none⟩) 0 0) 0 [] :=
    World.ownsRow_made w #[] 0 (Nat.le_refl _) (by unfold maxLen; omega) rfl
  obtain ⟨Z, hZ⟩ : ∃ Z, Z = zeroG m.length 64 8 := ⟨_, rfl⟩
  have hz64 : Z < 64 := by rw [hZ]; unfold zeroG; omega
  have hzz : (m.length + 1 + Z) % 64 = 56 := by rw [hZ]; unfold zeroG; omega
  have hzn : ∀ k, k < Z → (m.length + 1 + k) % 64 ≠ 56 := fun k hk => by rw [hZ] at hk; unfold zeroG at hk; omega
  have HZ := Lib.hid hZ
  have HZZ := Lib.hid hzz
  have HZN := Lib.hid hzn
  have HX := Lib.hid hx
  clear hZ hzz hzn hx
  go_enter Tryd.func48, Tryd.ntmps48
  go_upto_region 2 with (at_builtin; refine wpList_append_bytes rfl (.tmp 14) (.tmp 15) 22 rfl w.heap.size 5 i0 slice_u8 hi hz0 hz1 hz2 _ 0 [] rfl hown B _ m rfl hr1 (by omega) (by simp) ?_; intro v1 w1 hown1 hg1 hat1; obtain ⟨A1, c1, rfl⟩ := own_form hown1)
  rw [Nat.zero_add] at *
  have hb1 : Below w.heap.size w w1 := ((Below.refl _ w).alloc (Nat.le_refl _) _).grown hg1 (by simp) (fun k hk => by cases hk; exact Nat.le_refl _)
  have how1 : w1.ownsRow w.heap.size 5 1 (.slice A1 m.length c1) m.length (m.map bv) := by simpa using hown1
  have H1 := Lib.hid how1
  have HB1 := Lib.hid hb1
  clear hown1 hg1 hat1 hb1 hown hr1 how1
  have hmade : Byt (w1.alloc (.cells #[.int .u8 128] 5)) (w1.heap.size + 1) (.slice (some ⟨w1.heap.size, 0, none⟩) 1 1) [128] := Byt.made w1 _ [_] [128] rfl (by unfold maxLen; simp)
  have HM := Lib.hid hmade
  clear hmade
  go_upto_block 0 with (at_builtin; refine wpList_append_bytes rfl (.tmp 17) (.tmp 18) 22 rfl w.heap.size 5 i0 slice_u8 hi hz0 hz1 hz2 _ m.length (m.map bv) rfl (H1.out.alloc _) (w1.heap.size + 1) _ [128] rfl HM.out (by simp; omega) (by have := HB1.out.size; simp; omega) ?_; intro v2 w2 hown2 hg2 hat2; obtain ⟨A2, c2, rfl⟩ := own_form hown2)
  have hb2 : Below w.heap.size w w2 := (HB1.out.alloc HB1.out.size _).grown hg2 (by have := HB1.out.size; simp; omega) (fun j hj => (H1.out.lt j hj).1)
  have how2 : OwnB w2 w.heap.size (.slice A2 (m.length + [(128 : UInt8)].length) c2) (m ++ [128] ++ List.replicate 0 0) := by
    unfold OwnB
    simpa using hown2
  have H2 := Lib.hid how2
  have HB2 := Lib.hid hb2
  clear hown2 hg2 hat2 hb2 how2 HM H1
  go_cut [9] (fun v wx => OwnB wx w.heap.size v (m ++ [128] ++ List.replicate Z 0) ∧ Below w.heap.size w wx)
  case first =>
    go_wp2_with fail
    go_loopw [9] (fun v wr => ∃ k : Nat, k ≤ Z ∧ OwnB wr w.heap.size v (m ++ [128] ++ List.replicate k 0) ∧ Below w.heap.size w wr) (fun v _ => Z + m.length + 2 - slen v)
    case atStart => exact ⟨0, by omega, H2.out, HB2.out⟩
    case round =>
      obtain ⟨k, hk, hown, hbel⟩ := hrel
      obtain ⟨ys, hys⟩ : ∃ ys, ys = m ++ [128] ++ List.replicate k 0 := ⟨_, rfl⟩
      have hyl : ys.length = m.length + 1 + k := by rw [hys]; simp; omega
      rw [← hys] at hown
      obtain ⟨A3, c3, rfl⟩ := hown.form
      obtain ⟨r, hr⟩ : ∃ r, r = ys.length % 64 := ⟨_, rfl⟩
      have er : (ys.length : Int) % 64 = (r : Int) := by omega
      have HR := Lib.hid hr
      have HY := Lib.hid hys
      have HYL := Lib.hid hyl
      clear hr hys hyl
      by_cases hlt : k < Z
      · have hrn : ((r : Int) != 56) = true := by have := HZN.out k hlt; have := HR.out; have := HYL.out; simp; omega
        have hmade : Byt (wr.alloc (.cells #[.int .u8 0] 5)) (wr.heap.size + 1) (.slice (some ⟨wr.heap.size, 0, none⟩) 1 1) [0] := Byt.made wr _ [_] [0] rfl (by unfold maxLen; simp)
        have HM := Lib.hid hmade
        have HO := Lib.hid (show wr.ownsRow w.heap.size 5 1 (.slice A3 ys.length c3) ys.length (ys.map bv) from hown)
        clear hmade hown
        go_wp2_with (at_builtin; refine wpList_append_bytes rfl (.tmp 28) (.tmp 29) 22 rfl w.heap.size 5 i0 slice_u8 hi hz0 hz1 hz2 _ ys.length (ys.map bv) rfl (HO.out.alloc _) (wr.heap.size + 1) _ [0] rfl HM.out (by have := HYL.out; simp; omega) (by have := hbel.size; simp; omega) ?_; intro v4 w4 hown4 hg4 hat4; obtain ⟨A4, c4, rfl⟩ := own_form hown4)
        have hb4 : Below w.heap.size w w4 := (hbel.alloc hbel.size _).grown hg4 (by have := hbel.size; simp; omega) (fun j hj => (HO.out.lt j hj).1)
        refine ⟨⟨k + 1, by omega, ?_, hb4⟩, by have := HYL.out; simp only [slen]; omega⟩
        have e : m ++ [128] ++ List.replicate (k + 1) 0 = ys ++ [(0 : UInt8)] := by rw [HY.out, List.replicate_succ', ← List.append_assoc]
        rw [e]
        unfold OwnB
        rw [List.length_append, List.map_append]
        exact hown4
      · obtain rfl : k = Z := by omega
        have hrn : ((r : Int) != 56) = false := by have := HZZ.out; have := HR.out; have := HYL.out; simp; omega
        rw [HY.out] at hown
        have hown' : OwnB wr w.heap.size (.slice A3 ys.length c3) (m ++ [128] ++ List.replicate k 0) := by rw [HY.out]; exact hown
        have HO := Lib.hid hown'
        have HBE := Lib.hid hbel
        clear hown hown' hbel
        go_wp2_with fail
        go_meet
        exact ⟨HO.out, HBE.out⟩
  case rest =>
    obtain ⟨hown, hbel⟩ := hcut
    obtain ⟨pre, hpre⟩ : ∃ pre, pre = m ++ [128] ++ List.replicate Z 0 := ⟨_, rfl⟩
    have hpl : pre.length = m.length + 1 + Z := by rw [hpre]; simp; omega
    rw [← hpre] at hown
    obtain ⟨A3, c3, rfl⟩ := hown.form
    obtain ⟨N, hN⟩ : ∃ N : Nat, N = 8 * m.length := ⟨_, rfl⟩
    have eN : (m.length : Int) * 8 = (N : Int) := by omega
    have HO := Lib.hid hown
    have HBE := Lib.hid hbel
    have HPL := Lib.hid hpl
    have HPRE := Lib.hid hpre
    have HN := Lib.hid hN
    obtain ⟨D, hD⟩ : ∃ D, D = wc.heap.size := ⟨_, rfl⟩
    have HD := Lib.hid hD
    have HZV := HZ
    clear hown hbel hpl hpre hN hD HZ HZZ HZN H2 HB2 HB1
    go_upto_block 2 with fail
    go_cut [9, 11] (fun v9 v11 wx => v9 = .slice A3 pre.length c3 ∧ OwnB wx D v11 (low (N : Int) 8) ∧ Below D wc wx)
    case first =>
      go_wp2_with fail
      go_loopw [10, 11, 12] (fun xv v iv wr => ∃ (q : Int) (zs : List UInt8), zs.length ≤ 8 ∧ iv = .int .i64 (zs.length : Int) ∧ xv = .int .u64 q ∧ 0 ≤ q ∧ q < 18446744073709551616 ∧ Hid (low (N : Int) 8 = zs ++ low q (8 - zs.length)) ∧
          OwnB wr D v zs ∧ Below D wc wr) (fun _ _ iv _ => 8 - (intOf iv).toNat)
      case atStart => exact ⟨N, [], by simp, rfl, rfl, by omega, by have := HN.out; omega, Lib.hid rfl, OwnB.nil _ _, by rw [HD.out]; exact Below.refl _ _⟩
      case round =>
        obtain ⟨q, zs, hz, rfl, rfl, hm0, hm1, hlow, hown, hbel⟩ := hrel
        obtain ⟨A4, c4, rfl⟩ := hown.form
        by_cases hlt : zs.length < 8
        · have hmade : Byt (wr.alloc (.cells #[.int .u8 (q % 256)] 5)) (wr.heap.size + 1) (.slice (some ⟨wr.heap.size, 0, none⟩) 1 1) [b8 q] := Byt.made wr _ [_] [b8 q] (by simp [bv_b8]) (by unfold maxLen; simp)
          have hsz : D ≤ wr.heap.size := by have := hbel.size; have := HD.out; omega
          have HO2 := Lib.hid (show wr.ownsRow D 5 1 (.slice A4 zs.length c4) zs.length (zs.map bv) from hown)
          have HM := Lib.hid hmade
          clear hmade hown
          go_wp2_with (at_builtin; refine wpList_append_bytes rfl (.tmp 40) (.tmp 44) 22 rfl D 5 i0 slice_u8 hi hz0 hz1 hz2 _ zs.length (zs.map bv) rfl (HO2.out.alloc _) (wr.heap.size + 1) _ [b8 q] rfl HM.out (by simp; omega) (by simp; omega) ?_; intro v5 w5 hown5 hg5 hat5; obtain ⟨A5, c5, rfl⟩ := own_form hown5)
          have hb5 : Below D wc w5 := (hbel.alloc hsz _).grown hg5 (by simp; omega) (fun j hj => (HO2.out.lt j hj).1)
          have hstep := low_step hlt hlow.out
          refine ⟨⟨q / 256, zs ++ [b8 q], by simp; omega, by simp, rfl, by omega, by omega, Lib.hid hstep, ?_, hb5⟩, by simp [intOf]; omega⟩
          unfold OwnB
          rw [List.length_append, List.map_append]
          exact hown5
        · have hzk : zs.length = 8 := by omega
          have hlz : low (N : Int) 8 = zs := by
            have h := hlow.out
            rw [hzk, Nat.sub_self] at h
            simpa [low] using h
          have HO2 := Lib.hid hown
          have HLZ := Lib.hid hlz
          have HBE2 := Lib.hid hbel
          clear hown hlz hbel hlow hzk
          go_wp2_with fail
          go_meet
          exact ⟨rfl, by rw [HLZ.out]; exact HO2.out, HBE2.out⟩
    case rest =>
      obtain ⟨rfl, hownL, hbelL⟩ := hcut
      obtain ⟨lb, hlb⟩ : ∃ lb, lb = low (N : Int) 8 := ⟨_, rfl⟩
      have hlbl : lb.length = 8 := by rw [hlb, low_length]
      rw [← hlb] at hownL
      obtain ⟨gl, cl, rfl, hgD, hgs, hcl⟩ := hownL.block (by omega)
      have hcap : cl ≤ 9223372036854775807 := by
        have h := hownL.byt
        obtain ⟨_, c', e, _, h2, _⟩ := h
        injection e with _ _ e3
        subst e3
        unfold maxLen at h2
        exact h2
      have hcell : ∀ (j : Nat) (u : UInt8), lb[j]? = some u → wc.cell? ⟨gl, j, none⟩ = some (bv u) := fun j u hu => hownL.cell hu
      have hpre0 : OwnB wc w.heap.size (.slice A3 pre.length c3) (pre ++ (lb).take 0) := by
        rw [List.take_zero, List.append_nil]
        exact own_turns (S := fun k => D ≤ k) HO.out ⟨hbelL.os, hbelL.tape, hbelL.output, hbelL.size, fun k hk hn => hbelL.block k (by omega)⟩ (fun k hk => by have := (HO.out.lt k hk).2; have := HD.out; omega)
      have hneq : (Value.slice A3 pre.length c3).ownBlock ≠ some gl := fun h => by have := (HO.out.lt gl h).2; have := HD.out; omega
      have hbelW : Below w.heap.size w wc := HBE.out.trans (hbelL.mono (by have := HBE.out.size; have := HD.out; omega))
      have HLB := Lib.hid hlb
      have HLBL := Lib.hid hlbl
      rw [hlbl]
      have HP0 := Lib.hid hpre0
      have HNQ := Lib.hid hneq
      have HC0 := Lib.hid hcell
      have HBW := Lib.hid hbelW
      obtain ⟨wL, hwL⟩ : ∃ wL : World, wL = wc := ⟨_, rfl⟩
      clear hlb hlbl hownL hbelL hpre0 hneq hcell hbelW HO HBE
      go_wp2_with fail
      go_loopw [9, 13] (fun v iv wr => ∃ i : Nat, i ≤ 8 ∧ iv = .int .i64 (i : Int) ∧ OwnB wr w.heap.size v (pre ++ (lb).take i) ∧ v.ownBlock ≠ some gl ∧ gl < wr.heap.size ∧ Hid (∀ (j : Nat) (u : UInt8), lb[j]? = some u → wr.cell? ⟨gl, j, none⟩ = some (bv u)) ∧ Below w.heap.size w wr) (fun _ iv _ => 8 - (intOf iv).toNat)
      case atStart => exact ⟨0, by omega, rfl, HP0.out, HNQ.out, hgs, HC0, HBW.out⟩
      case round =>
        obtain ⟨i, hi2, rfl, hown, hne, hgr, hcr, hbel⟩ := hrel
        obtain ⟨ys, hys⟩ : ∃ ys, ys = pre ++ (lb).take i := ⟨_, rfl⟩
        have hyl : ys.length = pre.length + i := by rw [hys, List.length_append, List.length_take]; have := HLBL.out; simp; omega
        rw [← hys] at hown
        obtain ⟨A4, c4, rfl⟩ := hown.form
        by_cases hlt : i < 8
        · obtain ⟨p, hp⟩ : ∃ p, p = i := ⟨_, rfl⟩
          have ep : (i : Int) = (p : Int) := by omega
          have hpl2 : (p : Int) < 8 := by omega
          obtain ⟨u, hu⟩ : ∃ u, lb[p]? = some u := ⟨_, List.getElem?_eq_getElem (by have := HLBL.out; omega)⟩
          have hcu : wr.cell? ⟨gl, p, none⟩ = some (.int .u8 (u.toNat : Int)) := hcr.out p u hu
          have hfu : (lb)[i]? = some u := by
            rw [hp] at hu; exact hu
          have hmade : Byt (wr.alloc (.cells #[.int .u8 (u.toNat : Int)] 5)) (wr.heap.size + 1) (.slice (some ⟨wr.heap.size, 0, none⟩) 1 1) [u] := Byt.made wr _ [_] [u] rfl (by unfold maxLen; simp)
          have HO2 := Lib.hid (show wr.ownsRow w.heap.size 5 1 (.slice A4 ys.length c4) ys.length (ys.map bv) from hown)
          have HM := Lib.hid hmade
          have HY := Lib.hid hys
          have HYL := Lib.hid hyl
          have HFU := Lib.hid hfu
          obtain rfl : p = i := hp
          have HEP := Lib.hid ep
          
          clear hmade hown hys hyl hfu hu ep
          go_wp2_with (at_builtin; refine wpList_append_bytes rfl (.tmp 54) (.tmp 59) 22 rfl w.heap.size 5 i0 slice_u8 hi hz0 hz1 hz2 _ ys.length (ys.map bv) rfl (HO2.out.alloc _) (wr.heap.size + 1) _ [u] rfl HM.out (by have := HYL.out; have := HPL.out; simp; omega) (by have := hbel.size; simp; omega) ?_; intro v5 w5 hown5 hg5 hat5; obtain ⟨A5, c5, rfl⟩ := own_form hown5)
          have hb5 : Below w.heap.size w w5 := (hbel.alloc hbel.size _).grown hg5 (by have := hbel.size; simp; omega) (fun j hj => (HO2.out.lt j hj).1)
          refine ⟨⟨p + 1, by omega, by go_num, ?_, ?_, ?_, Lib.hid ?_, hb5⟩, by simp [intOf]; omega⟩
          · have e : pre ++ (lb).take (p + 1) = ys ++ [u] := by rw [HY.out, List.take_add_one, HFU.out, List.append_assoc]; rfl
            rw [e]
            unfold OwnB
            rw [List.length_append, List.map_append]
            exact hown5
          · show (Value.slice A5 (ys.length + [u].length) c5).ownBlock ≠ some gl
            rcases hat5 with h | h
            · rw [h]; exact hne
            · rw [h]; intro h2; injection h2 with h2; simp at h2; omega
          · have := hg5.size; simp at this; omega
          · intro j u2 hu2
            refine (World.cell?_of_block (w := wr) (a := ⟨gl, j, none⟩) ?_).trans (hcr.out j u2 hu2)
            have h1 := hg5.block gl (by simp; omega) (fun h => hne h.symm)
            exact h1.trans (Below.heap_alloc _ _ _ hgr)
        · have hin : (lb).take i = lb := List.take_of_length_le (by have := HLBL.out; simp; omega)
          have e : ys = fillG m 64 8 true := by
            rw [hys, hin, HPRE.out, HLB.out, HN.out, HZV.out]
            unfold fillG
            simp
          have HE := Lib.hid e
          have HO2 := Lib.hid hown
          have HBE2 := Lib.hid hbel
          clear e hown hbel hys hin
          go_wp2_with fail
          go_ret
          exact ⟨_, rfl, by rw [← HE.out]; exact HO2.out, HBE2.out⟩
end Go.Proofs.YtfkpdbmgiefnfaaDoor

/-
  The reference's Sum512, walked. Conditions: sizes within the reach.
-/
namespace Go.Proofs.YtfkpdbmgiefnfaaDoor.S5
open Go.RowKit

theorem info_h64 : (Tryd.prog.info? 51).map (·.size) = some 64 := by kernel_rfl

set_option maxRecDepth 100000 in
set_option maxHeartbeats 25600000 in
theorem rsum256_any (B : Nat) (x : Value) (m : List UInt8) (W0 : World) (hb : Byt W0 B x m) (hB : B ≤ W0.heap.size) (hl : m.length ≤ 100000) :
    Calls Tryd.prog 31 #[x] W0 fun e w' => e = .returned (digV (sha512 m)) ∧ Below W0.heap.size W0 w' := by
  obtain ⟨A, c, rfl⟩ := hb.form
  have rA := IRow.new W0 51 .u8 (List.replicate 64 0)
  have bA : Below W0.heap.size W0 (W0.alloc (.cells ((List.replicate 64 (0 : Int)).map (Value.int .u8)).toArray 51)) := (Below.refl _ W0).alloc (Nat.le_refl _) _
  have sA : (W0.alloc (.cells ((List.replicate 64 (0 : Int)).map (Value.int .u8)).toArray 51)).heap.size = W0.heap.size + 1 := by simp
  have HB := Lib.hid hb
  clear hb
  have hz80 := zero_80
  go_enter Tryd.func31, Tryd.ntmps31
  go_upto_region 1 with fail
  change Code.wp _ _ _ _ (W0.alloc (.cells ((List.replicate 64 (0 : Int)).map (Value.int .u8)).toArray 51))
  obtain ⟨wA, hwA⟩ : ∃ x, x = W0.alloc (.cells ((List.replicate 64 (0 : Int)).map (Value.int .u8)).toArray 51) := ⟨_, rfl⟩
  rw [← hwA] at rA bA sA ⊢
  obtain ⟨B0, hB0⟩ : ∃ B0, B0 = W0.heap.size := ⟨_, rfl⟩
  rw [← hB0] at rA bA sA ⊢
  have RA := Lib.hid rA
  have BA := Lib.hid bA
  have SA := Lib.hid sA
  have HB0 := Lib.hid hB0
  have RZ := Lib.hid (IRow.new wA 103 .u64 (List.replicate 80 0))
  have HI64 := Lib.hid (show (Tryd.prog.info? 103).map (·.size) = some k512.length from info_80)
  clear hwA rA bA sA hB0
  go_upto_region 2 with (first | (refine wpList_build_lit rfl 103 _ (.agg (k512.map (Value.int .u64)).toArray) rfl (fun _ => by kernel_rfl) ?_) | refine wpList_store_irow rfl 103 (.tmp 3) (.tmp 20) rfl (g := wA.heap.size) (t := 103) (k := .u64) (xs := List.replicate 80 0) (ys := k512) rfl rfl RZ.out HI64.out rfl ?_)
  change Code.wp _ _ _ _ ((wA.alloc (.cells ((List.replicate 80 (0 : Int)).map (Value.int .u64)).toArray 103)).setRow wA.heap.size (k512.map (Value.int .u64)).toArray)
  obtain ⟨wB, hwB⟩ : ∃ x, x = (wA.alloc (.cells ((List.replicate 80 (0 : Int)).map (Value.int .u64)).toArray 103)).setRow wA.heap.size (k512.map (Value.int .u64)).toArray := ⟨_, rfl⟩
  rw [← hwB]
  obtain ⟨BK, hBK⟩ : ∃ BK, BK = wA.heap.size := ⟨_, rfl⟩
  have rK : IRow wB BK 103 .u64 k512 := by rw [hwB, hBK]; exact setRow_irow RZ.out
  have bB : Below BK wA wB := by rw [hwB, hBK]; exact below_setRow ((Below.refl _ wA).alloc (Nat.le_refl _) _) (Nat.le_refl _) _
  have sB : wB.heap.size = BK + 1 := by rw [hwB, hBK]; simp [World.setRow]
  rw [← hBK]
  have hk0 : BK = B0 + 1 := by rw [hBK, SA.out]
  have RK := Lib.hid rK
  have SB := Lib.hid sB
  have HK0 := Lib.hid hk0
  have RA2 := Lib.hid (RA.out.below bB (by omega))
  have BB := Lib.hid (BA.out.trans (bB.mono (by omega : B0 ≤ BK)))
  have RZ2 := Lib.hid (IRow.new wB 90 .u64 (List.replicate 8 0))
  have HI8 := Lib.hid (show (Tryd.prog.info? 90).map (·.size) = some start512.list.length from info_8)
  clear hwB hBK rK bB sB hk0 RZ
  try dsimp only [Act.put]
  go_upto_region 3 with (refine wpList_store_irow rfl 90 (.tmp 4) (.tmp 21) rfl (g := wB.heap.size) (t := 90) (k := .u64) (xs := List.replicate 8 0) (ys := start512.list) rfl rfl RZ2.out HI8.out rfl ?_)
  change Code.wp _ _ _ _ ((wB.alloc (.cells ((List.replicate 8 (0 : Int)).map (Value.int .u64)).toArray 90)).setRow wB.heap.size (start512.list.map (Value.int .u64)).toArray)
  obtain ⟨w1, hw1⟩ : ∃ x, x = (wB.alloc (.cells ((List.replicate 8 (0 : Int)).map (Value.int .u64)).toArray 90)).setRow wB.heap.size (start512.list.map (Value.int .u64)).toArray := ⟨_, rfl⟩
  rw [← hw1]
  obtain ⟨BH, hBH⟩ : ∃ BH, BH = wB.heap.size := ⟨_, rfl⟩
  have rH : IRow w1 BH 90 .u64 start512.list := by rw [hw1, hBH]; exact setRow_irow RZ2.out
  have bH : Below BH wB w1 := by rw [hw1, hBH]; exact below_setRow ((Below.refl _ wB).alloc (Nat.le_refl _) _) (Nat.le_refl _) _
  have s1 : w1.heap.size = BH + 1 := by rw [hw1, hBH]; simp [World.setRow]
  rw [← hBH]
  have hh0 : BH = BK + 1 := by rw [hBH, SB.out]
  have hk0 := HK0.out
  have rK := RK.out.below bH (by omega)
  have rA := RA2.out.below bH (by omega)
  have b1 := BB.out.trans (bH.mono (by omega : B0 ≤ BH))
  have C := Lib.hid (fill512_any B _ m w1 (HB.out.below (b1.mono (by rw [HB0.out]; exact hB))) (by have := b1.size; omega) (by omega) (by omega))
  have HH0 := Lib.hid hh0
  have S1 := Lib.hid s1
  have RH := Lib.hid rH
  have RK1 := Lib.hid rK
  have RA1 := Lib.hid rA
  have B1 := Lib.hid b1
  clear hw1 hBH rH bH s1 hh0 hk0 rK rA b1 RZ2 RA2 BB RK
  try dsimp only [Act.put]
  go_wp2_with fail
  refine C.out.mono ?_
  rintro e w2 ⟨v, rfl, hown, hb2⟩
  rw [fillG_512 (by omega)] at hown
  obtain ⟨FM, hF⟩ : ∃ FM, FM = full m := ⟨_, rfl⟩
  rw [← hF] at hown
  obtain ⟨M, hM⟩ : ∃ M, M = FM.length := ⟨_, rfl⟩
  have hMb : M ≤ 100200 := by rw [hM, hF]; unfold full padB lenB; simp; omega
  have hM128 : M % 128 = 0 := by rw [hM, hF]; exact full_blocks m
  have hMp : 0 < M := by rw [hM, hF]; unfold full padB; simp; omega
  obtain ⟨gm, cm, rfl, hgm, hgs, hcm⟩ := hown.block (by omega)
  have hcap : cm ≤ 9223372036854775807 := by
    obtain ⟨_, c', e, _, h2, _⟩ := hown.byt
    injection e with _ _ e3
    subst e3
    unfold maxLen at h2
    exact h2
  have hcell : ∀ (j : Nat) (u : UInt8), FM[j]? = some u → w2.cell? ⟨gm, j, none⟩ = some (bv u) := fun j u hu => hown.cell hu
  have rH := RH.out.below hb2 RH.out.lt
  have rK := RK1.out.below hb2 RK1.out.lt
  have rA := RA1.out.below hb2 RA1.out.lt
  have b2 := B1.out.trans (hb2.mono B1.out.size |>.mono (by have := HB0.out; omega))
  have hgH : BH < gm := by have := S1.out; omega
  rw [← hM] at hcm ⊢
  have HF := Lib.hid hF
  have HM := Lib.hid hM
  have HC := Lib.hid hcell
  have RH2 := Lib.hid rH
  have RK2 := Lib.hid rK
  have RA2 := Lib.hid rA
  have B2 := Lib.hid b2
  have G2 := Lib.hid hgs
  clear hown hb2 hF hM hcell rH rK rA b2 hgs RH RK1 RA1 B1 C
  go_wp2_with fail
  go_loopw [6] (fun v6 wr => ∃ q : Nat, 128 * q ≤ M ∧ v6 = .int .i64 ((128 * q : Nat) : Int) ∧ IRow wr BH 90 .u64 (blocks512 FM q).list ∧ Turns (· = BH) w2 wr) (fun v6 _ => M - (intOf v6).toNat)
  case atStart => exact ⟨0, by omega, rfl, RH2.out, Turns.refl _ _⟩
  case round =>
    obtain ⟨q, hq, rfl, rH, tH⟩ := hrel
    obtain ⟨p, hp⟩ : ∃ p, p = 128 * q := ⟨_, rfl⟩
    rw [← hp]
    obtain ⟨w3, hw3⟩ : ∃ w3 : World, w3 = wr := ⟨_, rfl⟩
    rw [← hw3] at rH tH ⊢
    clear hw3
    have R3 := Lib.hid rH
    have T3 := Lib.hid tH
    have HP := Lib.hid hp
    clear rH tH hp
    by_cases hlt : p < M
    · obtain ⟨bs, hbs⟩ : ∃ bs, bs = (FM.drop (128 * q)).take 128 := ⟨_, rfl⟩
      have hbl : bs.length = 128 := by rw [hbs, List.length_take, List.length_drop, ← HM.out]; have := HP.out; omega
      have hbc : ∀ wx, Turns (· = BH) w2 wx → ∀ (j : Nat) (u : UInt8), bs[j]? = some u → wx.cell? ⟨gm, p + j, none⟩ = some (bv u) := fun wx ht j u hu => by
        refine (ht.cell (p := ⟨gm, p + j, none⟩) G2.out (by show gm ≠ BH; omega)).trans (HC.out _ _ ?_)
        rw [hbs, List.getElem?_take] at hu
        split at hu
        · rw [List.getElem?_drop] at hu; rw [HP.out]; exact hu
        · exact absurd hu (by simp)
      have HBS := Lib.hid hbs
      have HBL := Lib.hid hbl
      have HBC := Lib.hid hbc
      clear hbs hbl hbc
      have rW := IRow.new w3 103 .u64 (List.replicate 80 0)
      have bW : Below w3.heap.size w3 (w3.alloc (.cells ((List.replicate 80 (0 : Int)).map (Value.int .u64)).toArray 103)) := (Below.refl _ w3).alloc (Nat.le_refl _) _
      have RW0 := Lib.hid rW
      have BW0 := Lib.hid bW
      clear rW bW
      go_upto_block 2 with fail
      change Code.wp _ _ _ _ (w3.alloc (.cells ((List.replicate 80 (0 : Int)).map (Value.int .u64)).toArray 103))
      obtain ⟨w4, hw4⟩ : ∃ x, x = w3.alloc (.cells ((List.replicate 80 (0 : Int)).map (Value.int .u64)).toArray 103) := ⟨_, rfl⟩
      rw [← hw4] at RW0 BW0 ⊢
      obtain ⟨W, hW⟩ : ∃ W, W = w3.heap.size := ⟨_, rfl⟩
      rw [← hW] at RW0 BW0 ⊢
      have hWH : BH < W := by have := T3.out.size; have := G2.out; omega
      have hWm : gm < W := by have := T3.out.size; have := G2.out; omega
      have HW := Lib.hid hW
      clear hw4 hW
      try dsimp only [Act.put]
      have hbc4 : ∀ (j : Nat) (u : UInt8), bs[j]? = some u → w4.cell? ⟨gm, p + j, none⟩ = some (bv u) := fun j u hu => (BW0.out.cell (p := ⟨gm, p + j, none⟩) hWm).trans (HBC.out w3 T3.out j u hu)
      refine rb2_any W gm p M cm bs w4 HBL.out (by have := HP.out; omega) hMb hWm RW0.out hbc4 _ _ _ _ _ _ _ _ _ _ _ _ _ _ _ _ _ _ _ _ _ _ _ _ _ _ _ _ _ _ _ _ _ _ _ _ _ _ _ _ _ _ _ _ _ _ _ _ _ _ _ _ _ _ _ _ _ _ _ _ _ _ _ _ _ _ _ _ _ _ _ _ _ _ _ _ _ _ _ _ _ _ _ _ _ _ _ _ _ _ _ _ _ _ _ _ _ _ _ _ _ _ _ _ _ _ _ _ _ _ _ _ _ _ _ _ _ _ _ _ _ _ _ _ _ _ _ _ _ _ _ _ _ _ _ _ _ _ _ _ _ _ _ _ _ _ _ _ _ _ _ _ _ _ _ _ _ _ _ _ _ _ _ _ _ _ _ _ _ _ _ _ _ _ _ _ _ _ _ _ _ _ _ _ _ _ _ _ _ _ _ _ _ _ _ _ _ _ _ _ _ _ _ _ _ _ _ _ _ _ _ _ _ _ _ _ _ _ _ _ _ _ _ _ (fun _ _ _ _ _ h => h) (fun v2_8 v2_9 v2_30 v2_31 v2_32 v2_33 v2_34 v2_35 v2_36 v2_37 v2_38 v2_39 v2_40 v2_41 v2_42 v2_43 v2_44 v2_45 v2_46 v2_47 v2_48 v2_49 v2_50 v2_51 v2_52 v2_53 v2_54 w5 r5 b5 => ?_)
      have R5 := Lib.hid r5
      have B5 := Lib.hid b5
      clear r5 b5 hbc4
      go_upto_block 6 with fail
      refine rb6_any W bs w5 R5.out _ _ _ _ _ _ _ _ _ _ _ _ _ _ _ _ _ _ _ _ _ _ _ _ _ _ _ _ _ _ _ _ _ _ _ _ _ _ _ _ _ _ _ _ _ _ _ _ _ _ _ _ _ _ _ _ _ _ _ _ _ _ _ _ _ _ _ _ _ _ _ _ _ _ _ _ _ _ _ _ _ _ _ _ _ _ _ _ _ _ _ _ _ _ _ _ _ _ _ _ _ _ _ _ _ _ _ _ _ _ _ _ _ _ _ _ _ _ _ _ _ _ _ _ _ _ _ _ _ _ _ _ _ _ _ _ _ _ _ _ _ _ _ _ _ _ _ _ _ _ _ _ _ _ _ _ _ _ _ _ _ _ _ _ _ _ _ _ _ _ _ _ _ _ _ _ _ _ _ _ _ _ _ _ _ _ _ _ _ _ _ _ _ _ _ _ _ _ _ _ _ _ _ _ _ _ _ _ _ _ _ _ _ _ _ _ _ _ _ _ _ _ _ _ _ _ (fun _ _ _ _ _ h => h) (fun v6_10 v6_11 v6_12 v6_55 v6_56 v6_57 v6_58 v6_59 v6_60 v6_61 v6_62 v6_63 v6_64 v6_65 v6_66 v6_67 v6_68 v6_69 v6_70 v6_71 v6_72 v6_73 v6_74 v6_75 v6_76 v6_77 v6_78 v6_79 v6_80 v6_81 v6_82 v6_83 v6_84 v6_85 v6_86 v6_87 v6_88 v6_89 v6_90 v6_91 v6_92 v6_93 v6_94 v6_95 v6_96 v6_97 v6_98 v6_99 v6_100 v6_101 v6_102 v6_103 v6_104 v6_105 v6_106 v6_107 w6 r6 b6 => ?_)
      have hb36 := BW0.out.trans (B5.out.trans b6)
      have t36 : Turns (· = BH) w2 w6 := T3.out.trans (Turns.of_below (S := (· = BH)) (by rw [← HW.out]; exact hb36)) (fun _ _ h => h)
      have R6 := Lib.hid r6
      have RH6 := Lib.hid (R3.out.below hb36 hWH)
      have T6 := Lib.hid t36
      have W6 := Lib.hid (show W < w6.heap.size from r6.lt)
      obtain ⟨sq, hsq⟩ : ∃ sq, sq = blocks512 FM q := ⟨_, rfl⟩
      rw [← hsq] at RH6
      have HSQ := Lib.hid hsq
      have RZ6 := Lib.hid (IRow.new w6 90 .u64 (List.replicate 8 0))
      have HI8q := Lib.hid (show (Tryd.prog.info? 90).map (·.size) = some sq.list.length from info_8)
      clear r6 b6 hb36 t36 hsq
      go_upto_block 8 with (first
        | (refine wpList_load_irow rfl 90 (.tmp 4) rfl (g := BH) (t := 90) (k := .u64) (xs := sq.list) rfl RH6.out Tryd.underlying90 HI8q.out ?_)
        | (refine wpList_store_irow rfl 90 (.tmp 13) (.tmp 108) rfl (g := w6.heap.size) (t := 90) (k := .u64) (xs := List.replicate 8 0) (ys := sq.list) rfl rfl RZ6.out HI8q.out rfl ?_))
      change Code.wp _ _ _ _ ((w6.alloc (.cells ((List.replicate 8 (0 : Int)).map (Value.int .u64)).toArray 90)).setRow w6.heap.size (sq.list.map (Value.int .u64)).toArray)
      obtain ⟨w7, hw7⟩ : ∃ x, x = (w6.alloc (.cells ((List.replicate 8 (0 : Int)).map (Value.int .u64)).toArray 90)).setRow w6.heap.size (sq.list.map (Value.int .u64)).toArray := ⟨_, rfl⟩
      rw [← hw7]
      have r7 : IRow w7 w6.heap.size 90 .u64 sq.list := by rw [hw7]; exact setRow_irow RZ6.out
      have b7 : Below w6.heap.size w6 w7 := by rw [hw7]; exact below_setRow ((Below.refl _ w6).alloc (Nat.le_refl _) _) (Nat.le_refl _) _
      obtain ⟨V, hV⟩ : ∃ V, V = w6.heap.size := ⟨_, rfl⟩
      rw [← hV] at r7 b7 ⊢
      have hVW : W < V := by have := W6.out; omega
      have t7 : Turns (· = BH) w2 w7 := T6.out.trans (Turns.of_below (S := (· = BH)) (by rw [← hV]; exact b7)) (fun _ _ h => h)
      have hBKH : BK < BH := by have := HH0.out; omega
      have rK7 : IRow w7 BK 103 .u64 k512 := RK2.out.turns t7 (by omega)
      have rW7 := R6.out.below b7 hVW
      have rH7 := RH6.out.below b7 (by omega)
      have hoks : sq.Ok := by rw [HSQ.out]; exact blocks512_ok _ _
      have RH7 := Lib.hid rH7
      have T7 := Lib.hid t7
      have V7 := Lib.hid (show V < w7.heap.size from r7.lt)
      try dsimp only [Act.put]
      refine rb8_any BK W V bs sq w7 hoks (by omega) hVW rK7 rW7 r7 _ _ _ _ _ _ _ _ _ _ _ _ _ _ _ _ _ _ _ _ _ _ _ _ _ _ _ _ _ _ _ _ _ _ _ _ _ _ _ _ _ _ _ _ _ _ _ _ _ _ _ _ _ _ _ _ _ _ _ _ _ _ _ _ _ _ _ _ _ _ _ _ _ _ _ _ _ _ _ _ _ _ _ _ _ _ _ _ _ _ _ _ _ _ _ _ _ _ _ _ _ _ _ _ _ _ _ _ _ _ _ _ _ _ _ _ _ _ _ _ _ _ _ _ _ _ _ _ _ _ _ _ _ _ _ _ _ _ _ _ _ _ _ _ _ _ _ _ _ _ _ _ _ _ _ _ _ _ _ _ _ _ _ _ _ _ _ _ _ _ _ _ _ _ _ _ _ _ _ _ _ _ _ _ _ _ _ _ _ _ _ _ _ _ _ _ _ _ _ _ _ _ _ _ _ _ _ _ _ _ _ _ _ _ _ _ _ _ _ _ _ _ _ _ (fun _ _ _ _ _ h => h) (fun v8_14 v8_15 v8_16 v8_109 v8_110 v8_111 v8_112 v8_113 v8_114 v8_115 v8_116 v8_117 v8_118 v8_119 v8_120 v8_121 v8_122 v8_123 v8_124 v8_125 v8_126 v8_127 v8_128 v8_129 v8_130 v8_131 v8_132 v8_133 v8_134 v8_135 v8_136 v8_137 v8_138 v8_139 v8_140 v8_141 v8_142 v8_143 v8_144 v8_145 v8_146 v8_147 v8_148 v8_149 v8_150 v8_151 v8_152 v8_153 v8_154 v8_155 v8_156 v8_157 v8_158 v8_159 v8_160 v8_161 v8_162 v8_163 v8_164 v8_165 v8_166 v8_167 v8_168 v8_169 v8_170 v8_171 v8_172 v8_173 v8_174 v8_175 v8_176 v8_177 v8_178 v8_179 v8_180 v8_181 v8_182 v8_183 v8_184 v8_185 v8_186 v8_187 v8_188 v8_189 v8_190 v8_191 v8_192 v8_193 v8_194 v8_195 v8_196 w8 r8 b8 => ?_)
      have rH8 := RH7.out.below b8 (by omega)
      have h2W : w2.heap.size ≤ W := by rw [HW.out]; exact T3.out.size
      have t8 : Turns (· = BH) w2 w8 := ⟨b8.os.trans T7.out.os, b8.tape.trans T7.out.tape, b8.output.trans T7.out.output, Nat.le_trans T7.out.size b8.size, fun k hk hn => (b8.block k (by omega)).trans (T7.out.block k hk hn)⟩
      obtain ⟨sv, hsv⟩ : ∃ sv, sv = rounds k512 (W80 bs) 80 sq := ⟨_, rfl⟩
      rw [← hsv] at r8
      have R8 := Lib.hid r8
      have RH8 := Lib.hid rH8
      have T8 := Lib.hid t8
      have HSV := Lib.hid hsv
      clear r8 b8 rH8 t8 hsv rK7 rW7 r7 b7 t7 rH7
      go_upto_block 10 with fail
      refine rb10_any BH V sq sv w8 (by omega) RH8.out R8.out _ _ _ _ _ _ _ _ _ _ _ _ _ _ _ _ _ _ _ _ _ _ _ _ _ _ _ _ _ _ _ _ _ _ _ _ _ _ _ _ _ _ _ _ _ _ _ _ _ _ _ _ _ _ _ _ _ _ _ _ _ _ _ _ _ _ _ _ _ _ _ _ _ _ _ _ _ _ _ _ _ _ _ _ _ _ _ _ _ _ _ _ _ _ _ _ _ _ _ _ _ _ _ _ _ _ _ _ _ _ _ _ _ _ _ _ _ _ _ _ _ _ _ _ _ _ _ _ _ _ _ _ _ _ _ _ _ _ _ _ _ _ _ _ _ _ _ _ _ _ _ _ _ _ _ _ _ _ _ _ _ _ _ _ _ _ _ _ _ _ _ _ _ _ _ _ _ _ _ _ _ _ _ _ _ _ _ _ _ _ _ _ _ _ _ _ _ _ _ _ _ _ _ _ _ _ _ _ _ _ _ _ _ _ _ _ _ _ _ _ _ _ _ _ _ (fun _ _ _ _ _ h => h) (fun v10_17 v10_197 v10_198 v10_199 v10_200 v10_201 v10_202 v10_203 v10_204 v10_205 v10_206 v10_207 v10_208 v10_209 w9 r9 t9 => ?_)
      have e9 : mix sq.list sv.list 8 = (blocks512 FM (q + 1)).list := by rw [blocks512, ← HSQ.out, ← HBS.out, HSV.out]; rfl
      rw [e9] at r9
      have R9 := Lib.hid r9
      have T9 := Lib.hid (T8.out.trans t9 (fun _ _ h => h))
      clear r9 t9 e9
      have ep : IntKind.i64.wrap ((p : Int) + 128) = (p : Int) + 128 := by rw [IntWalk.i64_in _ (by omega)]
      go_wp2_with fail
      exact ⟨⟨q + 1, by have := HP.out; omega, by have := HP.out; exact congrArg (Value.int .i64) (by omega), R9.out, T9.out⟩, by simp [intOf]; omega⟩
    · have hpM : p = M := by have := HP.out; omega
      have hd : ¬ (p : Int) < (M : Int) := by omega
      have hqM : q = FM.length / 128 := by rw [← HM.out]; have := HP.out; omega
      have hsha : sha512 m = outW (blocks512 FM q).list := by rw [hqM, HF.out]; rfl
      have hoks : (blocks512 FM q).Ok := blocks512_ok _ _
      obtain ⟨sq, hsq⟩ : ∃ sq, sq = blocks512 FM q := ⟨_, rfl⟩
      rw [← hsq] at R3 hsha hoks
      have rG := IRow.new w3 51 .u8 (List.replicate 64 0)
      have bG : Below w3.heap.size w3 (w3.alloc (.cells ((List.replicate 64 (0 : Int)).map (Value.int .u8)).toArray 51)) := (Below.refl _ w3).alloc (Nat.le_refl _) _
      have RG := Lib.hid rG
      have BG := Lib.hid bG
      have HSHA := Lib.hid hsha
      have HOKS := Lib.hid hoks
      clear rG bG hqM hsha hoks hsq
      go_upto_block 12 with fail
      change Code.wp _ _ _ _ (w3.alloc (.cells ((List.replicate 64 (0 : Int)).map (Value.int .u8)).toArray 51))
      obtain ⟨w4, hw4⟩ : ∃ x, x = w3.alloc (.cells ((List.replicate 64 (0 : Int)).map (Value.int .u8)).toArray 51) := ⟨_, rfl⟩
      rw [← hw4] at RG BG ⊢
      obtain ⟨G, hG⟩ : ∃ G, G = w3.heap.size := ⟨_, rfl⟩
      rw [← hG] at RG BG ⊢
      have hHG : BH < G := by have := T3.out.size; have := G2.out; omega
      have hb23 : Below B0 w2 w3 := T3.out.below_of (by have := HK0.out; have := HH0.out; have := G2.out; omega) (by intro i hi h; have := HK0.out; have := HH0.out; omega)
      have hb4 := B2.out.trans (hb23.trans (BG.out.mono (by have := HK0.out; have := HH0.out; omega)))
      have rA4 := ((RA2.out.below (B := B0 + 1) (T3.out.below_of (by have := HK0.out; have := HH0.out; have := G2.out; omega) (by intro i hi h; have := HK0.out; have := HH0.out; omega)) (by omega)).below BG.out (by have := HK0.out; have := HH0.out; omega))
      have RA4 := Lib.hid rA4
      have B4 := Lib.hid hb4
      clear hw4 hG hb23 hb4 rA4
      try dsimp only [Act.put]
      refine rb12_any BH G sq w4 HOKS.out hHG (R3.out.below BG.out hHG) RG.out _ _ _ _ _ _ _ _ _ _ _ _ _ _ _ _ _ _ _ _ _ _ _ _ _ _ _ _ _ _ _ _ _ _ _ _ _ _ _ _ _ _ _ _ _ _ _ _ _ _ _ _ _ _ _ _ _ _ _ _ _ _ _ _ _ _ _ _ _ _ _ _ _ _ _ _ _ _ _ _ _ _ _ _ _ _ _ _ _ _ _ _ _ _ _ _ _ _ _ _ _ _ _ _ _ _ _ _ _ _ _ _ _ _ _ _ _ _ _ _ _ _ _ _ _ _ _ _ _ _ _ _ _ _ _ _ _ _ _ _ _ _ _ _ _ _ _ _ _ _ _ _ _ _ _ _ _ _ _ _ _ _ _ _ _ _ _ _ _ _ _ _ _ _ _ _ _ _ _ _ _ _ _ _ _ _ _ _ _ _ _ _ _ _ _ _ _ _ _ _ _ _ _ _ _ _ _ _ _ _ _ _ _ _ _ _ _ _ _ _ _ _ _ _ _ (fun _ _ _ _ _ h => h) (fun v12_19 v12_210 v12_211 v12_212 v12_213 v12_214 v12_215 v12_216 v12_217 v12_218 v12_219 v12_220 v12_221 v12_222 v12_223 v12_224 v12_225 v12_226 w5 r5 b5 => ?_)
      rw [← HSHA.out] at r5
      have hB0G : B0 < G := by have := HK0.out; have := HH0.out; omega
      have hsz : (nums (sha512 m)).length = 64 := by rw [nums_length, sha512_length]
      have HI := Lib.hid (show (Tryd.prog.info? 51).map (·.size) = some (nums (sha512 m)).length by rw [hsz]; exact info_h64)
      have HL := Lib.hid (show (List.replicate 64 (0 : Int)).length = (nums (sha512 m)).length by rw [hsz]; rfl)
      have rA5 := RA4.out.below b5 hB0G
      have hb5 := B4.out.trans (b5.mono (by omega : B0 ≤ G))
      have R5 := Lib.hid r5
      have RA5 := Lib.hid rA5
      have HFIN := Lib.hid (setRow_irow (ys := nums (sha512 m)) rA5)
      have HBF := Lib.hid (below_setRow hb5 (Nat.le_refl _) ((nums (sha512 m)).map (Value.int .u8)).toArray)
      clear r5 b5 rA5 hb5 hsz
      go_wp2_with (first
        | (refine wpList_load_irow rfl 51 (.tmp 18) rfl (g := G) (t := 51) (k := .u8) (xs := nums (sha512 m)) rfl R5.out Tryd.underlying51 HI.out ?_)
        | (refine wpList_store_irow rfl 51 (.tmp 2) (.tmp 227) rfl (g := B0) (t := 51) (k := .u8) (xs := List.replicate 64 0) (ys := nums (sha512 m)) rfl rfl RA5.out HI.out HL.out ?_))
      refine bodyPost_ret (v := digV (sha512 m)) ?_ rfl ⟨rfl, by rw [← HB0.out]; exact HBF.out⟩
      obtain ⟨fr, hrw⟩ : ∃ fr, ((w5.setRow B0 ((nums (sha512 m)).map (Value.int .u8)).toArray)).heap[B0]? = some (.cells ((nums (sha512 m)).map (Value.int .u8)).toArray 51 fr) := ⟨_, HFIN.out⟩
      exact results_cell_row Tryd.results31 _ _ B0 51 ((nums (sha512 m)).map (Value.int .u8)).toArray fr _ rfl hrw Tryd.underlying51 rfl (by rw [List.size_toArray, List.length_map]; exact HI.out)
end Go.Proofs.YtfkpdbmgiefnfaaDoor.S5

/-
  The reference's Hmac512, walked. Conditions: sizes within the reach.
-/
namespace Go.Proofs.YtfkpdbmgiefnfaaDoor
open Go.RowKit

/-- Of two owned rows in different blocks, one grows: the other stays, and they stay apart. -/
theorem pair_step {w w' : World} {D : Nat} {o : Obj} {v u v' : Value} {ys : List UInt8} (h8 : OwnB w D u ys) (ap : ∀ g, v.ownBlock = some g → u.ownBlock ≠ some g) (hg : (w.alloc o).grownBy w' v.ownBlock)
    (hat : v'.ownBlock = v.ownBlock ∨ v'.ownBlock = some (w.alloc o).heap.size) : OwnB w' D u ys ∧ (∀ g, v'.ownBlock = some g → u.ownBlock ≠ some g) := by
  refine ⟨World.ownsRow.kept (World.ownsRow.alloc h8 o) hg ?_, fun g hg' hu => ?_⟩
  · cases hu : u.ownBlock with
    | none => exact .inl rfl
    | some k => exact .inr fun e => ap k e.symm hu
  · rcases hat with e | e
    · exact ap g (e ▸ hg') hu
    · have h := (World.ownsRow.lt h8 g hu).2
      rw [hg'] at e
      injection e with e
      rw [e] at h
      simp at h
      omega
theorem pair_keep {w w' : World} {D : Nat} {v u : Value} {ys : List UInt8} (h8 : OwnB w D u ys) (ap : ∀ g, v.ownBlock = some g → u.ownBlock ≠ some g) (hg : w.grownBy w' v.ownBlock) : OwnB w' D u ys := by
  refine World.ownsRow.kept h8 hg ?_
  cases hu : u.ownBlock with
  | none => exact .inl rfl
  | some k => exact .inr fun e => ap k e.symm hu
theorem ownb_below {w w' : World} {D : Nat} {v : Value} {ys : List UInt8} (h : OwnB w D v ys) (hb : Below w.heap.size w w') : OwnB w' D v ys := by
  refine World.ownsRow.kept (row := none) h ⟨hb.os, hb.tape, hb.output, hb.size, fun k hk _ => hb.block k hk⟩ ?_
  cases v.ownBlock with
  | none => exact .inl rfl
  | some k => exact .inr (by simp)
theorem own_app {w : World} {base n : Nat} {v : Value} {xs ys : List UInt8} (h : w.ownsRow base 5 1 v (n + ys.length) (xs.map bv ++ ys.map bv)) (hn : n = xs.length) : OwnB w base v (xs ++ ys) := by
  unfold OwnB
  rw [List.length_append, List.map_append, ← hn]
  exact h
theorem xor_made (w : World) (t : TypeId) (y p : UInt8) (k : Int) (hk : k = (p.toNat : Int)) : Byt (w.alloc (.cells #[.int .u8 (bits .xor .u8 (y.toNat : Int) k)] t)) (w.heap.size + 1) (.slice (some ⟨w.heap.size, 0, none⟩) 1 1) [xorB y p] := by
  subst hk
  exact Byt.made w t [_] [xorB y p] (by rw [← xorB_nat]; rfl) (by unfold maxLen; simp)
theorem zeroed_le {K : List UInt8} (k : Nat) (hk : k = 128 - K.length) : K ++ List.replicate k 0 = zeroed K := by rw [hk]; rfl

set_option maxRecDepth 100000 in
set_option maxHeartbeats 12800000 in
theorem rhmac_any (B : Nat) (x y : Value) (key data : List UInt8) (w : World) (hx : Byt w B x key) (hy : Byt w B y data) (hB : B ≤ w.heap.size) (hk : key.length ≤ 90000) (hd : data.length ≤ 90000) :
    Calls Tryd.prog 20 #[x, y] w fun e w' => e = .returned (digV (hmac key data)) ∧ Below w.heap.size w w' := by
  obtain ⟨i0, hi, hz0, hz1, hz2⟩ := info_parts info_u8
  obtain ⟨A, c, hxf⟩ := hx.form
  subst hxf
  obtain ⟨A', c', hyf⟩ := hy.form
  subst hyf
  have z64 := S5.zero_64
  have rA := IRow.new w 51 .u8 (List.replicate 64 0)
  have bA : Below w.heap.size w (w.alloc (.cells ((List.replicate 64 (0 : Int)).map (Value.int .u8)).toArray 51)) := (Below.refl _ w).alloc (Nat.le_refl _) _
  have sA : (w.alloc (.cells ((List.replicate 64 (0 : Int)).map (Value.int .u8)).toArray 51)).heap.size = w.heap.size + 1 := by simp
  have HX := Lib.hid hx
  have HY := Lib.hid hy
  clear hx hy
  go_enter Tryd.func20, Tryd.ntmps20
  go_upto_region 1 with fail
  change Code.wp _ _ _ _ (w.alloc (.cells ((List.replicate 64 (0 : Int)).map (Value.int .u8)).toArray 51))
  obtain ⟨wA, hwA⟩ : ∃ x, x = (w.alloc (.cells ((List.replicate 64 (0 : Int)).map (Value.int .u8)).toArray 51)) := ⟨_, rfl⟩
  rw [← hwA] at rA bA sA ⊢
  obtain ⟨GA, hGA⟩ : ∃ g, g = w.heap.size := ⟨_, rfl⟩
  rw [← hGA] at rA bA sA ⊢
  have hBG : B ≤ GA := by omega
  have KT := Lib.hid (HX.out.below (bA.mono hBG))
  have RA := Lib.hid rA
  have BE := Lib.hid bA
  have HGA := Lib.hid hGA
  have hr := (HX.out.below (bA.mono hBG)).below ((Below.refl _ wA).alloc (by omega : B ≤ wA.heap.size) (.cells #[] 5))
  have hown : (wA.alloc (.cells #[] 5)).ownsRow (GA + 1) 5 1 (.slice (some ⟨wA.heap.size, 0, none⟩) 0 0) 0 [] := World.ownsRow_made wA #[] 0 (by omega) (by unfold maxLen; omega) rfl
  rw [sA] at hown
  have HR1 := Lib.hid hr
  have HO1 := Lib.hid hown
  clear hwA rA bA hGA HX hr hown
  try dsimp only [Act.put]
  go_upto_region 2 with (at_builtin; refine wpList_append_bytes rfl (.tmp 11) (.tmp 12) 22 rfl (GA + 1) 5 i0 slice_u8 hi hz0 hz1 hz2 _ 0 [] rfl HO1.out B _ key rfl HR1.out (by omega) (by have := RA.out.lt; simp; omega) ?_; intro v1 w1 hown1 hg1 hat1; obtain ⟨A1, c1, rfl⟩ := own_form hown1)
  rw [Nat.zero_add] at *
  have hbD : Below (GA + 1) wA w1 := ((Below.refl (GA + 1) wA).alloc (by omega) _).grown hg1 (by simp; omega) (fun k hk => by cases hk; exact Nat.le_refl _)
  have how1 : OwnB w1 (GA + 1) (.slice A1 key.length c1) key := by unfold OwnB; simpa using hown1
  have ra := RA.out.below hbD (by omega)
  have be := BE.out.trans (hbD.mono (by omega))
  have H1 := Lib.hid how1
  have RA := Lib.hid ra
  have BE := Lib.hid be
  clear hbD how1 ra be hown1 hg1 hat1 HR1 HO1 sA KT
  go_upto_if 16 with fail
  go_cut [5] (fun v wx => OwnB wx (GA + 1) v (keyOf key) ∧ IRow wx GA 51 .u8 (List.replicate 64 0) ∧ Below GA w wx)
  case first =>
    by_cases hk : 128 < key.length
    · have hki : (128 : Int) < (key.length : Int) := by omega
      obtain ⟨D, hD⟩ : ∃ D, D = S5.sha512 key := ⟨_, rfl⟩
      have hko : keyOf key = D := by unfold keyOf; rw [if_pos hk, hD]
      have HD := Lib.hid (show D.length = 64 by rw [hD, S5.sha512_length])
      have c1 := S5.rsum256_any _ _ key w1 H1.out.byt (Nat.le_refl _) (by omega)
      rw [← hD] at c1
      have C1 := Lib.hid c1
      have HKO := Lib.hid hko
      clear c1 hD hko
      go_wp2_with fail
      refine C1.out.mono ?_
      rintro e w2 ⟨rfl, hb⟩
      have HI := Lib.hid (show (Tryd.prog.info? 51).map (·.size) = some (nums D).length by rw [nums_length, HD.out]; exact S5.info_64)
      have HL := Lib.hid (show (List.replicate 64 (0 : Int)).length = (nums D).length by rw [nums_length, HD.out]; rfl)
      have rC := IRow.new w2 51 .u8 (List.replicate 64 0)
      have rC2 := setRow_irow (ys := nums D) rC
      have bC : Below w2.heap.size w2 ((w2.alloc (.cells ((List.replicate 64 (0 : Int)).map (Value.int .u8)).toArray 51)).setRow w2.heap.size ((nums D).map (Value.int .u8)).toArray) := below_setRow ((Below.refl _ w2).alloc (Nat.le_refl _) _) (Nat.le_refl _) _
      have bS := hb.size
      have bB := hb.trans (bC.mono bS)
      have RC := Lib.hid rC
      have RC2 := Lib.hid rC2
      have BB := Lib.hid bB
      clear hb rC rC2 bC bB C1
      unfold digV
      go_upto_region 4 with (refine wpList_store_irow rfl 51 (.tmp 6) (.tmp 18) rfl (g := w2.heap.size) (t := 51) (k := .u8) (xs := List.replicate 64 0) (ys := nums D) rfl rfl RC.out HI.out HL.out ?_)
      change Code.wp _ _ _ _ ((w2.alloc (.cells ((List.replicate 64 (0 : Int)).map (Value.int .u8)).toArray 51)).setRow w2.heap.size ((nums D).map (Value.int .u8)).toArray)
      obtain ⟨w3, hw2⟩ : ∃ x, x = ((w2.alloc (.cells ((List.replicate 64 (0 : Int)).map (Value.int .u8)).toArray 51)).setRow w2.heap.size ((nums D).map (Value.int .u8)).toArray) := ⟨_, rfl⟩
      rw [← hw2]
      have rC3 : IRow w3 w2.heap.size 51 .u8 (nums D) := by rw [hw2]; exact RC2.out
      have bB3 := BB.out
      rw [← hw2] at bB3
      obtain ⟨G6, hG⟩ : ∃ g, g = w2.heap.size := ⟨_, rfl⟩
      rw [← hG] at rC3 ⊢
      have ra := RA.out.below bB3 RA.out.lt
      have be := BE.out.trans (bB3.mono (Nat.le_of_lt RA.out.lt))
      have RA := Lib.hid ra
      have BE := Lib.hid be
      have RG6 := Lib.hid rC3
      clear ra be rC3 bB3 hw2 hG RC RC2 BB HI HL bS
      try dsimp only [Act.put]
      have hr := (irow_byt RG6.out HD.out (by unfold maxLen; omega)).below ((Below.refl _ w3).alloc (by have := RG6.out.lt; omega) (.cells #[] 5))
      have hown : (w3.alloc (.cells #[] 5)).ownsRow (GA + 1) 5 1 (.slice (some ⟨w3.heap.size, 0, none⟩) 0 0) 0 [] := World.ownsRow_made w3 #[] 0 (by have := RA.out.lt; omega) (by unfold maxLen; omega) rfl
      have HR1 := Lib.hid hr
      have HO1 := Lib.hid hown
      clear hr hown
      go_wp2_with (at_builtin; refine wpList_append_bytes rfl (.tmp 19) (.tmp 20) 22 rfl (GA + 1) 5 i0 slice_u8 hi hz0 hz1 hz2 _ 0 [] rfl HO1.out (G6 + 1) _ D rfl HR1.out (by have := HD.out; omega) (by have := RA.out.lt; simp; omega) ?_; intro v4 w4 hown4 hg4 hat4; obtain ⟨A4, c4, rfl⟩ := own_form hown4)
      go_meet
      have hbD : Below (GA + 1) w3 w4 := ((Below.refl (GA + 1) w3).alloc (by have := RA.out.lt; omega) _).grown hg4 (by have := RA.out.lt; simp; omega) (fun k hk => by cases hk; exact RA.out.lt)
      rw [HKO.out]
      refine ⟨?_, RA.out.below hbD (by omega), BE.out.trans (hbD.mono (by omega))⟩
      unfold OwnB
      simpa using hown4
    · have hki : ¬ (128 : Int) < (key.length : Int) := by omega
      have HKO := Lib.hid (show keyOf key = key by unfold keyOf; rw [if_neg hk])
      go_wp2_with fail
      go_meet
      rw [HKO.out]
      exact ⟨H1.out, RA.out, BE.out⟩
  case rest =>
    obtain ⟨hown, ra, be⟩ := hcut
    clear RA BE H1
    obtain ⟨K, hK⟩ : ∃ K, K = keyOf key := ⟨_, rfl⟩
    have hKl := keyOf_length key
    rw [← hK] at hown hKl
    obtain ⟨A2, c2, rfl⟩ := hown.form
    have HKK := Lib.hid hK
    have HO := Lib.hid hown
    have RA := Lib.hid ra
    have BE := Lib.hid be
    clear hown ra be hK
    go_upto_block 0 with fail
    go_cut [5] (fun v wx => OwnB wx (GA + 1) v (zeroed K) ∧ IRow wx GA 51 .u8 (List.replicate 64 0) ∧ Below GA w wx)
    case first =>
      go_wp2_with fail
      go_loopw [5] (fun v wr => ∃ k : Nat, k ≤ 128 - K.length ∧ OwnB wr (GA + 1) v (K ++ List.replicate k 0) ∧ IRow wr GA 51 .u8 (List.replicate 64 0) ∧ Below GA w wr) (fun v _ => 129 - slen v)
      case atStart => exact ⟨0, by omega, by rw [List.replicate_zero, List.append_nil]; exact HO.out, RA.out, BE.out⟩
      case round =>
        clear RA BE HO
        obtain ⟨k, hk, hown, ra, be⟩ := hrel
        obtain ⟨ys, hys⟩ : ∃ ys, ys = K ++ List.replicate k 0 := ⟨_, rfl⟩
        have hyl : ys.length = K.length + k := by rw [hys]; simp
        rw [← hys] at hown
        obtain ⟨A3, c3, rfl⟩ := hown.form
        have HYS := Lib.hid hys
        have HYL := Lib.hid hyl
        have RA := Lib.hid ra
        have BE := Lib.hid be
        clear hys ra be
        by_cases hlt : k < 128 - K.length
        · have hli : (ys.length : Int) < 128 := by omega
          have hmade : Byt (wr.alloc (.cells #[.int .u8 0] 5)) (wr.heap.size + 1) (.slice (some ⟨wr.heap.size, 0, none⟩) 1 1) [0] := Byt.made wr _ [_] [0] rfl (by unfold maxLen; simp)
          have HM := Lib.hid hmade
          have HW := Lib.hid (show wr.ownsRow (GA + 1) 5 1 (.slice A3 ys.length c3) ys.length (ys.map bv) from hown)
          clear hmade hown hyl
          go_wp2_with (at_builtin; refine wpList_append_bytes rfl (.tmp 25) (.tmp 26) 22 rfl (GA + 1) 5 i0 slice_u8 hi hz0 hz1 hz2 _ ys.length (ys.map bv) rfl (HW.out.alloc _) (wr.heap.size + 1) _ [0] rfl HM.out (by have := HYL.out; simp; omega) (by have := RA.out.lt; simp; omega) ?_; intro v5 w5 hown5 hg5 hat5; obtain ⟨A5, c5, rfl⟩ := own_form hown5)
          have hbD : Below (GA + 1) wr w5 := ((Below.refl (GA + 1) wr).alloc (by have := RA.out.lt; omega) _).grown hg5 (by have := RA.out.lt; simp; omega) (fun j hj => (HW.out.lt j hj).1)
          refine ⟨⟨k + 1, by omega, ?_, RA.out.below hbD (by omega), BE.out.trans (hbD.mono (by omega))⟩, by have := HYL.out; simp only [slen]; omega⟩
          have e : K ++ List.replicate (k + 1) 0 = ys ++ [(0 : UInt8)] := by rw [HYS.out, List.replicate_succ', ← List.append_assoc]
          rw [e]
          exact own_app hown5 rfl
        · have hli : ¬ (ys.length : Int) < 128 := by omega
          have HZ := Lib.hid (show ys = zeroed K by rw [HYS.out]; exact zeroed_le k (by omega))
          have HO := Lib.hid hown
          clear hown hyl
          go_wp2_with fail
          go_meet
          rw [← HZ.out]
          exact ⟨HO.out, RA.out, BE.out⟩
    case rest =>
      clear RA BE HO
      obtain ⟨hown, ra, be⟩ := hcut
      have hzl := zeroed_length hKl
      obtain ⟨G5, c5, rfl, h5lo, h5hi, _⟩ := hown.block (by omega)
      obtain ⟨PI, hPI⟩ : ∃ l, l = padK K 54 := ⟨_, rfl⟩
      obtain ⟨PO, hPO⟩ : ∃ l, l = padK K 92 := ⟨_, rfl⟩
      have HPI := Lib.hid (show PI.length = 128 by rw [hPI, padK_length _ hKl])
      have HPO := Lib.hid (show PO.length = 128 by rw [hPO, padK_length _ hKl])
      obtain ⟨D1, hD1⟩ : ∃ l, l = S5.sha512 (PI ++ data) := ⟨_, rfl⟩
      obtain ⟨D2, hD2⟩ : ∃ l, l = S5.sha512 (PO ++ D1) := ⟨_, rfl⟩
      have HD1 := Lib.hid (show D1.length = 64 by rw [hD1, S5.sha512_length])
      have HD2 := Lib.hid (show D2.length = 64 by rw [hD2, S5.sha512_length])
      have HEND := Lib.hid (show hmac key data = D2 by unfold hmac; rw [hD2, hD1, hPO, hPI, HKK.out])
      obtain ⟨wZ, hwZ⟩ : ∃ z, z = wc := ⟨_, rfl⟩
      rw [← hwZ] at hown ra be h5hi ⊢
      clear hwZ
      obtain ⟨DD, hDD⟩ : ∃ d, d = wZ.heap.size := ⟨_, rfl⟩
      rw [← hDD] at h5hi
      have HO := Lib.hid hown
      have RA := Lib.hid ra
      have BE := Lib.hid be
      have HQ1 := Lib.hid hD1
      have HQ2 := Lib.hid hD2
      have HQI := Lib.hid hPI
      have HQO := Lib.hid hPO
      have HDD := Lib.hid hDD
      have HZL := Lib.hid hzl
      rw [hzl]
      clear hown ra be hPI hPO hD1 hD2 hDD hzl
      go_upto_block 2 with fail
      go_cut [7, 8] (fun v7 v8 wx => OwnB wx DD v7 PI ∧ OwnB wx DD v8 PO ∧ (∀ g, v7.ownBlock = some g → v8.ownBlock ≠ some g) ∧ Below DD wZ wx)
      case first =>
        go_wp2_with fail
        go_loopw [7, 8, 9] (fun v7 v8 s wr => ∃ i : Nat, i ≤ 128 ∧ s = .int .i64 (i : Int) ∧ OwnB wr DD v7 (PI.take i) ∧ OwnB wr DD v8 (PO.take i) ∧ (∀ g, v7.ownBlock = some g → v8.ownBlock ≠ some g) ∧ Below DD wZ wr) (fun _ _ s _ => 128 - (intOf s).toNat)
        case atStart => exact ⟨0, by omega, rfl, OwnB.nil _ _, OwnB.nil _ _, (by intro g h; cases h), by rw [HDD.out]; exact Below.refl _ _⟩
        case round =>
          obtain ⟨i, hile, rfl, h7, h8, hap, hbel⟩ := hrel
          have hsz : DD ≤ wr.heap.size := by have := hbel.size; have := HDD.out; omega
          have hl7 : (PI.take i).length = i := by rw [List.length_take, HPI.out]; omega
          have hl8 : (PO.take i).length = i := by rw [List.length_take, HPO.out]; omega
          obtain ⟨p7, hp7⟩ : ∃ l, l = PI.take i := ⟨_, rfl⟩
          obtain ⟨p8, hp8⟩ : ∃ l, l = PO.take i := ⟨_, rfl⟩
          rw [← hp7] at h7 hl7
          rw [← hp8] at h8 hl8
          have HL7 := Lib.hid hl7
          have HL8 := Lib.hid hl8
          clear hl7 hl8
          obtain ⟨A7, c7, rfl⟩ := h7.form
          obtain ⟨A8, c8, rfl⟩ := h8.form
          by_cases h128 : i < 128
          · obtain ⟨y, hy⟩ : ∃ y, (zeroed K)[i]? = some y := ⟨_, List.getElem?_eq_getElem (by rw [HZL.out]; exact h128)⟩
            have n7 : PI.take (i + 1) = p7 ++ [xorB y 54] := by rw [List.take_add_one, ← hp7, HQI.out]; unfold padK; rw [List.getElem?_map, hy]; rfl
            have n8 : PO.take (i + 1) = p8 ++ [xorB y 92] := by rw [List.take_add_one, ← hp8, HQO.out]; unfold padK; rw [List.getElem?_map, hy]; rfl
            have k0 : wr.cell? ⟨G5, i, none⟩ = some (.int .u8 (y.toNat : Int)) := (hbel.cell (p := ⟨G5, i, none⟩) h5hi).trans (HO.out.cell hy)
            have bi : (i : Int) < 128 := by omega
            have HM := Lib.hid (xor_made wr 5 y 54 54 rfl)
            have H7 := Lib.hid (show wr.ownsRow DD 5 1 (.slice A7 p7.length c7) p7.length (p7.map bv) from h7)
            have H8 := Lib.hid h8
            have HAP := Lib.hid hap
            have HBEL := Lib.hid hbel
            have N7 := Lib.hid n7
            have N8 := Lib.hid n8
            have HYY := Lib.hid hy
            clear h7 h8 hap hbel n7 n8 hy hp7 hp8
            go_upto_region 12 with (at_builtin; refine wpList_append_bytes rfl (.tmp 32) (.tmp 38) 22 rfl DD 5 i0 slice_u8 hi hz0 hz1 hz2 _ p7.length (p7.map bv) rfl (H7.out.alloc _) (wr.heap.size + 1) _ [xorB y 54] rfl HM.out (by have := HL7.out; simp; omega) (by simp; omega) ?_; intro v9 w9 hown9 hg9 hat9; obtain ⟨A9, c9, rfl⟩ := own_form hown9)
            have hb9 : Below DD wZ w9 := (HBEL.out.alloc hsz _).grown hg9 (by simp; omega) (fun j hj => (H7.out.lt j hj).1)
            obtain ⟨h8, hap⟩ := pair_step H8.out HAP.out hg9 hat9
            have o9 := own_app hown9 rfl
            rw [← N7.out] at o9
            have k1 : w9.cell? ⟨G5, i, none⟩ = some (.int .u8 (y.toNat : Int)) := (hb9.cell (p := ⟨G5, i, none⟩) h5hi).trans (HO.out.cell HYY.out)
            have hsz9 : DD ≤ w9.heap.size := by have := hb9.size; have := HDD.out; omega
            have HM := Lib.hid (xor_made w9 5 y 92 92 rfl)
            have H8 := Lib.hid (show w9.ownsRow DD 5 1 (.slice A8 p8.length c8) p8.length (p8.map bv) from h8)
            have O9 := Lib.hid o9
            have HAP := Lib.hid (show ∀ g, (Value.slice A8 p8.length c8).ownBlock = some g → (Value.slice A9 (p7.length + [xorB y 54].length) c9).ownBlock ≠ some g from fun g h e => hap g e h)
            have HB9 := Lib.hid hb9
            clear h8 hap o9 hown9 hg9 hat9 hb9 k0 H7
            go_wp2_with (at_builtin; refine wpList_append_bytes rfl (.tmp 40) (.tmp 46) 22 rfl DD 5 i0 slice_u8 hi hz0 hz1 hz2 _ p8.length (p8.map bv) rfl (H8.out.alloc _) (w9.heap.size + 1) _ [xorB y 92] rfl HM.out (by have := HL8.out; simp; omega) (by simp; omega) ?_; intro v10 w10 hown10 hg10 hat10; obtain ⟨A10, c10, rfl⟩ := own_form hown10)
            have hb10 : Below DD wZ w10 := (HB9.out.alloc hsz9 _).grown hg10 (by simp; omega) (fun j hj => (H8.out.lt j hj).1)
            obtain ⟨h9, hap⟩ := pair_step O9.out HAP.out hg10 hat10
            have o10 := own_app hown10 rfl
            rw [← N8.out] at o10
            exact ⟨⟨i + 1, by omega, by go_num, h9, o10, fun g h e => hap g e h, hb10⟩, by simp [intOf]; omega⟩
          · obtain rfl : i = 128 := by omega
            have e128 : ((128 : Nat) : Int) = 128 := rfl
            rw [e128]
            have e7 : p7 = PI := by rw [hp7]; exact List.take_of_length_le (by rw [HPI.out]; omega)
            have e8 : p8 = PO := by rw [hp8]; exact List.take_of_length_le (by rw [HPO.out]; omega)
            clear hp7 hp8
            subst e7 e8
            have H7 := Lib.hid h7
            have H8 := Lib.hid h8
            have HAP := Lib.hid hap
            have HBEL := Lib.hid hbel
            clear h7 h8 hap hbel e128
            go_wp2_with fail
            go_meet
            exact ⟨H7.out, H8.out, HAP.out, HBEL.out⟩
      case rest =>
        obtain ⟨h7, h8, hap, be2⟩ := hcut
        obtain ⟨A7, c7, rfl⟩ := h7.form
        obtain ⟨A8, c8, rfl⟩ := h8.form
        have hGD : GA < DD := by have := RA.out.lt; have := HDD.out; omega
        have hsz : DD ≤ wc.heap.size := by have := be2.size; have := HDD.out; omega
        have ra := RA.out.below be2 hGD
        have be := BE.out.trans (be2.mono (by omega))
        have DT := Lib.hid (HY.out.below (be.mono hBG))
        have H7 := Lib.hid (show wc.ownsRow DD 5 1 (.slice A7 PI.length c7) PI.length (PI.map bv) from h7)
        have RA := Lib.hid ra
        have BE := Lib.hid be
        have H8 := Lib.hid h8
        have HAP := Lib.hid hap
        clear ra be h7 h8 hap HO HY be2
        have hBs : B ≤ wc.heap.size := by omega
        go_wp2_with (at_builtin; refine wpList_append_bytes rfl (.tmp 48) (.tmp 49) 22 rfl DD 5 i0 slice_u8 hi hz0 hz1 hz2 _ PI.length (PI.map bv) rfl H7.out B _ data rfl DT.out (by have := HPI.out; omega) hsz ?_; intro v1 w1 hown1 hg1 hat1; obtain ⟨A1, c1, rfl⟩ := own_form hown1)
        have o1 := own_app hown1 rfl
        have ov := pair_keep H8.out HAP.out hg1
        have hbD : Below DD wc w1 := (Below.refl DD wc).grown hg1 hsz (fun j hj => (H7.out.lt j hj).1)
        have ra := RA.out.below hbD hGD
        have be := BE.out.trans (hbD.mono (by omega))
        have hsz1 : DD ≤ w1.heap.size := by have := hbD.size; omega
        have c1 := S5.rsum256_any _ _ (PI ++ data) w1 o1.byt (Nat.le_refl _) (by rw [List.length_append, HPI.out]; omega)
        rw [← HQ1.out] at c1
        have C1 := Lib.hid c1
        have RA := Lib.hid ra
        have BE := Lib.hid be
        have OV := Lib.hid ov
        clear c1 ra be ov o1 hown1 hg1 hat1 hbD H7 H8 HAP DT
        refine C1.out.mono ?_
        rintro e w2 ⟨rfl, hb⟩
        have HI := Lib.hid (show (Tryd.prog.info? 51).map (·.size) = some (nums D1).length by rw [nums_length, HD1.out]; exact S5.info_64)
        have HL := Lib.hid (show (List.replicate 64 (0 : Int)).length = (nums D1).length by rw [nums_length, HD1.out]; rfl)
        have rC := IRow.new w2 51 .u8 (List.replicate 64 0)
        have rC2 := setRow_irow (ys := nums D1) rC
        have bC : Below w2.heap.size w2 ((w2.alloc (.cells ((List.replicate 64 (0 : Int)).map (Value.int .u8)).toArray 51)).setRow w2.heap.size ((nums D1).map (Value.int .u8)).toArray) := below_setRow ((Below.refl _ w2).alloc (Nat.le_refl _) _) (Nat.le_refl _) _
        have bS := hb.size
        have bB := hb.trans (bC.mono bS)
        have RC := Lib.hid rC
        have RC2 := Lib.hid rC2
        have BB := Lib.hid bB
        clear hb rC rC2 bC bB C1
        unfold digV
        go_upto_region 14 with (refine wpList_store_irow rfl 51 (.tmp 10) (.tmp 51) rfl (g := w2.heap.size) (t := 51) (k := .u8) (xs := List.replicate 64 0) (ys := nums D1) rfl rfl RC.out HI.out HL.out ?_)
        change Code.wp _ _ _ _ ((w2.alloc (.cells ((List.replicate 64 (0 : Int)).map (Value.int .u8)).toArray 51)).setRow w2.heap.size ((nums D1).map (Value.int .u8)).toArray)
        obtain ⟨w3, hw2⟩ : ∃ x, x = ((w2.alloc (.cells ((List.replicate 64 (0 : Int)).map (Value.int .u8)).toArray 51)).setRow w2.heap.size ((nums D1).map (Value.int .u8)).toArray) := ⟨_, rfl⟩
        rw [← hw2]
        have rC3 : IRow w3 w2.heap.size 51 .u8 (nums D1) := by rw [hw2]; exact RC2.out
        have bB3 := BB.out
        rw [← hw2] at bB3
        obtain ⟨G10, hG⟩ : ∃ g, g = w2.heap.size := ⟨_, rfl⟩
        rw [← hG] at rC3 ⊢
        have ra := RA.out.below bB3 RA.out.lt
        have be := BE.out.trans (bB3.mono (Nat.le_of_lt RA.out.lt))
        have ov := ownb_below OV.out bB3
        have RA := Lib.hid ra
        have BE := Lib.hid be
        have OV := Lib.hid ov
        have RG10 := Lib.hid rC3
        clear ra be ov rC3 bB3 hw2 hG RC RC2 BB HI HL bS
        try dsimp only [Act.put]
        have hr := irow_byt RG10.out HD1.out (by unfold maxLen; omega)
        have hsz3 : DD ≤ w3.heap.size := by obtain ⟨_, _, _, h1, h2, _⟩ := OV.out.block (by rw [HPO.out]; omega); omega
        have HR1 := Lib.hid hr
        have HO1 := Lib.hid (show w3.ownsRow DD 5 1 (.slice A8 PO.length c8) PO.length (PO.map bv) from OV.out)
        clear hr
        go_wp2_with (at_builtin; refine wpList_append_bytes rfl (.tmp 52) (.tmp 53) 22 rfl DD 5 i0 slice_u8 hi hz0 hz1 hz2 _ PO.length (PO.map bv) rfl HO1.out (G10 + 1) _ D1 rfl HR1.out (by have := HPO.out; have := HD1.out; omega) hsz3 ?_; intro v4 w4 hown4 hg4 hat4; obtain ⟨A4, c4, rfl⟩ := own_form hown4)
        have o4 := own_app hown4 rfl
        have hbD : Below DD w3 w4 := (Below.refl DD w3).grown hg4 hsz3 (fun j hj => (HO1.out.lt j hj).1)
        have ra := RA.out.below hbD hGD
        have be := BE.out.trans (hbD.mono (by omega))
        have c1 := S5.rsum256_any _ _ (PO ++ D1) w4 o4.byt (Nat.le_refl _) (by rw [List.length_append, HPO.out, HD1.out]; omega)
        rw [← HQ2.out] at c1
        refine c1.mono ?_
        rintro e w10 ⟨rfl, hb⟩
        have HI := Lib.hid (show (Tryd.prog.info? 51).map (·.size) = some (nums D2).length by rw [nums_length, HD2.out]; exact S5.info_64)
        have HL := Lib.hid (show (List.replicate 64 (0 : Int)).length = (nums D2).length by rw [nums_length, HD2.out]; rfl)
        have ra2 := ra.below hb ra.lt
        have be2 := be.trans (hb.mono (Nat.le_of_lt ra.lt))
        have HFIN := Lib.hid (setRow_irow (ys := nums D2) ra2)
        have HBF := Lib.hid (below_setRow be2 (Nat.le_refl _) ((nums D2).map (Value.int .u8)).toArray)
        have RA := Lib.hid ra2
        clear ra be ra2 be2 hb c1 hbD o4 hown4 hg4 hat4
        unfold digV
        go_wp2_with (refine wpList_store_irow rfl 51 (.tmp 4) (.tmp 55) rfl (g := GA) (t := 51) (k := .u8) (xs := List.replicate 64 0) (ys := nums D2) rfl rfl RA.out HI.out HL.out ?_)
        refine bodyPost_ret (v := digV D2) ?_ rfl ⟨by rw [HEND.out], by rw [← HGA.out]; exact HBF.out⟩
        obtain ⟨fr, hrw⟩ : ∃ fr, ((w10.setRow GA ((nums D2).map (Value.int .u8)).toArray)).heap[GA]? = some (.cells ((nums D2).map (Value.int .u8)).toArray 51 fr) := ⟨_, HFIN.out⟩
        exact results_cell_row Tryd.results20 _ _ GA 51 ((nums D2).map (Value.int .u8)).toArray fr _ rfl hrw Tryd.underlying51 rfl (by rw [List.size_toArray, List.length_map]; exact HI.out)
end Go.Proofs.YtfkpdbmgiefnfaaDoor
