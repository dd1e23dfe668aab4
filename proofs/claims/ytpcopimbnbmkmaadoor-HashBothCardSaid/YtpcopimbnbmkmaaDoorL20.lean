/-
  Texts joined: Fill2, S5RSum, RmRB2. Conditions: those of each.
-/
import Derived.Test.YtpcopimbnbmkmaaDoorL17
import Derived.Test.YtpcopimbnbmkmaaDoorL19
import Derived.Deep.CutBlock
import Derived.Test.YtpcopimbnbmkmaaDoorL12
import Derived.Test.YtpcopimbnbmkmaaDoorL18
/-
  The reference's fill for the other two digests. Conditions: sizes within the reach.
-/
namespace Go.Proofs.YtpcopimbnbmkmaaDoor
open Go.RowKit

set_option maxRecDepth 100000 in
set_option maxHeartbeats 3200000 in
theorem fill512_any (B : Nat) (x : Value) (m : List UInt8) (w : World) (hx : Byt w B x m) (hB : B ≤ w.heap.size) (hl : m.length < 281474976710656) (hl2 : m.length + 400 ≤ 140737488355328) :
    Calls Tryd.prog 24 #[x, .int .i64 128, .int .i64 16, .bool false] w fun e w' => ∃ v, e = .returned v ∧ OwnB w' w.heap.size v (fillG m 128 16 false) ∧ Below w.heap.size w w' := by
  obtain ⟨i0, hi, hz0, hz1, hz2⟩ := info_parts info_u8
  obtain ⟨A, c, rfl⟩ := hx.form
  have hr1 : Byt (w.alloc (.cells #[] 5)) B (.slice A m.length c) m := hx.below ((Below.refl _ w).alloc hB _)
  have hown : (w.alloc (.cells #[] 5)).ownsRow w.heap.size 5 1 (.slice (some ⟨w.heap.size, 0, none⟩) 0 0) 0 [] :=
    World.ownsRow_made w #[] 0 (Nat.le_refl _) (by unfold maxLen; omega) rfl
  obtain ⟨Z, hZ⟩ : ∃ Z, Z = zeroG m.length 128 16 := ⟨_, rfl⟩
  have hz64 : Z < 128 := by rw [hZ]; unfold zeroG; omega
  have hzz : (m.length + 1 + Z) % 128 = 112 := by rw [hZ]; unfold zeroG; omega
  have hzn : ∀ k, k < Z → (m.length + 1 + k) % 128 ≠ 112 := fun k hk => by rw [hZ] at hk; unfold zeroG at hk; omega
  have HZ := Lib.hid hZ
  have HZZ := Lib.hid hzz
  have HZN := Lib.hid hzn
  have HX := Lib.hid hx
  clear hZ hzz hzn hx
  go_enter Tryd.func24, Tryd.ntmps24
  go_upto_region 2 with (at_builtin; refine wpList_append_bytes rfl (.tmp 14) (.tmp 15) 22 rfl w.heap.size 5 i0 slice_u8 hi hz0 hz1 hz2 _ 0 [] rfl hown B _ m rfl hr1 (by omega) (by simp) ?_; intro v1 w1 hown1 hg1 hat1; obtain ⟨A1, c1, rfl⟩ := own_form hown1)
  rw [Nat.zero_add] at *
  have hb1 : Below w.heap.size w w1 := ((Below.refl _ w).alloc (Nat.le_refl _) _).grown hg1 (by simp) (fun k hk => by cases hk; exact Nat.le_refl _)
  have how1 : w1.ownsRow w.heap.size 5 1 (.slice A1 m.length c1) m.length (m.map bv) := by simpa using hown1
  have H1 := Lib.hid how1
  have HB1 := Lib.hid hb1
  clear hown1 hg1 hat1 hb1 hown hr1 how1
  have hmade : Byt (w1.alloc (.cells #[.int .u8 128] 5)) (w1.heap.size + 1) (.slice (some ⟨w1.heap.size, 0, none⟩) 1 1) [128] := Byt.made w1 _ [_] [128] rfl (by unfold maxLen; simp)
  have HM := Lib.hid hmade
  clear hmade
  go_upto_block 0 with (at_builtin; refine wpList_append_bytes rfl (.tmp 17) (.tmp 18) 22 rfl w.heap.size 5 i0 slice_u8 hi hz0 hz1 hz2 _ m.length (m.map bv) rfl (H1.out.alloc _) (w1.heap.size + 1) _ [128] rfl HM.out (by simp; omega) (by have := HB1.out.size; simp; omega) ?_; intro v2 w2 hown2 hg2 hat2; obtain ⟨A2, c2, rfl⟩ := own_form hown2)
  have hb2 : Below w.heap.size w w2 := (HB1.out.alloc HB1.out.size _).grown hg2 (by have := HB1.out.size; simp; omega) (fun j hj => (H1.out.lt j hj).1)
  have how2 : OwnB w2 w.heap.size (.slice A2 (m.length + [(128 : UInt8)].length) c2) (m ++ [128] ++ List.replicate 0 0) := by
    unfold OwnB
    simpa using hown2
  have H2 := Lib.hid how2
  have HB2 := Lib.hid hb2
  clear hown2 hg2 hat2 hb2 how2 HM H1
  go_cut [9] (fun v wx => OwnB wx w.heap.size v (m ++ [128] ++ List.replicate Z 0) ∧ Below w.heap.size w wx)
  case first =>
    go_wp2_with fail
    go_loopw [9] (fun v wr => ∃ k : Nat, k ≤ Z ∧ OwnB wr w.heap.size v (m ++ [128] ++ List.replicate k 0) ∧ Below w.heap.size w wr) (fun v _ => Z + m.length + 2 - slen v)
    case atStart => exact ⟨0, by omega, H2.out, HB2.out⟩
    case round =>
      obtain ⟨k, hk, hown, hbel⟩ := hrel
      obtain ⟨ys, hys⟩ : ∃ ys, ys = m ++ [128] ++ List.replicate k 0 := ⟨_, rfl⟩
      have hyl : ys.length = m.length + 1 + k := by rw [hys]; simp; omega
      rw [← hys] at hown
      obtain ⟨A3, c3, rfl⟩ := hown.form
      obtain ⟨r, hr⟩ : ∃ r, r = ys.length % 128 := ⟨_, rfl⟩
      have er : (ys.length : Int) % 128 = (r : Int) := by omega
      have HR := Lib.hid hr
      have HY := Lib.hid hys
      have HYL := Lib.hid hyl
      clear hr hys hyl
      by_cases hlt : k < Z
      · have hrn : ((r : Int) != 112) = true := by have := HZN.out k hlt; have := HR.out; have := HYL.out; simp; omega
        have hmade : Byt (wr.alloc (.cells #[.int .u8 0] 5)) (wr.heap.size + 1) (.slice (some ⟨wr.heap.size, 0, none⟩) 1 1) [0] := Byt.made wr _ [_] [0] rfl (by unfold maxLen; simp)
        have HM := Lib.hid hmade
        have HO := Lib.hid (show wr.ownsRow w.heap.size 5 1 (.slice A3 ys.length c3) ys.length (ys.map bv) from hown)
        clear hmade hown
        go_wp2_with (at_builtin; refine wpList_append_bytes rfl (.tmp 28) (.tmp 29) 22 rfl w.heap.size 5 i0 slice_u8 hi hz0 hz1 hz2 _ ys.length (ys.map bv) rfl (HO.out.alloc _) (wr.heap.size + 1) _ [0] rfl HM.out (by have := HYL.out; simp; omega) (by have := hbel.size; simp; omega) ?_; intro v4 w4 hown4 hg4 hat4; obtain ⟨A4, c4, rfl⟩ := own_form hown4)
        have hb4 : Below w.heap.size w w4 := (hbel.alloc hbel.size _).grown hg4 (by have := hbel.size; simp; omega) (fun j hj => (HO.out.lt j hj).1)
        refine ⟨⟨k + 1, by omega, ?_, hb4⟩, by have := HYL.out; simp only [slen]; omega⟩
        have e : m ++ [128] ++ List.replicate (k + 1) 0 = ys ++ [(0 : UInt8)] := by rw [HY.out, List.replicate_succ', ← List.append_assoc]
        rw [e]
        unfold OwnB
        rw [List.length_append, List.map_append]
        exact hown4
      · obtain rfl : k = Z := by omega
        have hrn : ((r : Int) != 112) = false := by have := HZZ.out; have := HR.out; have := HYL.out; simp; omega
        rw [HY.out] at hown
        have hown' : OwnB wr w.heap.size (.slice A3 ys.length c3) (m ++ [128] ++ List.replicate k 0) := by rw [HY.out]; exact hown
        have HO := Lib.hid hown'
        have HBE := Lib.hid hbel
        clear hown hown' hbel
        go_wp2_with fail
        go_meet
        exact ⟨HO.out, HBE.out⟩
  case rest =>
    obtain ⟨hown, hbel⟩ := hcut
    obtain ⟨pre, hpre⟩ : ∃ pre, pre = m ++ [128] ++ List.replicate Z 0 := ⟨_, rfl⟩
    have hpl : pre.length = m.length + 1 + Z := by rw [hpre]; simp; omega
    rw [← hpre] at hown
    obtain ⟨A3, c3, rfl⟩ := hown.form
    obtain ⟨N, hN⟩ : ∃ N : Nat, N = 8 * m.length := ⟨_, rfl⟩
    have eN : (m.length : Int) * 8 = (N : Int) := by omega
    have HO := Lib.hid hown
    have HBE := Lib.hid hbel
    have HPL := Lib.hid hpl
    have HPRE := Lib.hid hpre
    have HN := Lib.hid hN
    obtain ⟨D, hD⟩ : ∃ D, D = wc.heap.size := ⟨_, rfl⟩
    have HD := Lib.hid hD
    have HZV := HZ
    clear hown hbel hpl hpre hN hD HZ HZZ HZN H2 HB2 HB1
    go_upto_block 2 with fail
    go_cut [9, 11] (fun v9 v11 wx => v9 = .slice A3 pre.length c3 ∧ OwnB wx D v11 (low (N : Int) 16) ∧ Below D wc wx)
    case first =>
      go_wp2_with fail
      go_loopw [10, 11, 12] (fun xv v iv wr => ∃ (q : Int) (zs : List UInt8), zs.length ≤ 16 ∧ iv = .int .i64 (zs.length : Int) ∧ xv = .int .u64 q ∧ 0 ≤ q ∧ q < 18446744073709551616 ∧ Hid (low (N : Int) 16 = zs ++ low q (16 - zs.length)) ∧
          OwnB wr D v zs ∧ Below D wc wr) (fun _ _ iv _ => 16 - (intOf iv).toNat)
      case atStart => exact ⟨N, [], by simp, rfl, rfl, by omega, by have := HN.out; omega, Lib.hid rfl, OwnB.nil _ _, by rw [HD.out]; exact Below.refl _ _⟩
      case round =>
        obtain ⟨q, zs, hz, rfl, rfl, hm0, hm1, hlow, hown, hbel⟩ := hrel
        obtain ⟨A4, c4, rfl⟩ := hown.form
        by_cases hlt : zs.length < 16
        · have hmade : Byt (wr.alloc (.cells #[.int .u8 (q % 256)] 5)) (wr.heap.size + 1) (.slice (some ⟨wr.heap.size, 0, none⟩) 1 1) [b8 q] := Byt.made wr _ [_] [b8 q] (by simp [bv_b8]) (by unfold maxLen; simp)
          have hsz : D ≤ wr.heap.size := by have := hbel.size; have := HD.out; omega
          have HO2 := Lib.hid (show wr.ownsRow D 5 1 (.slice A4 zs.length c4) zs.length (zs.map bv) from hown)
          have HM := Lib.hid hmade
          clear hmade hown
          go_wp2_with (at_builtin; refine wpList_append_bytes rfl (.tmp 40) (.tmp 44) 22 rfl D 5 i0 slice_u8 hi hz0 hz1 hz2 _ zs.length (zs.map bv) rfl (HO2.out.alloc _) (wr.heap.size + 1) _ [b8 q] rfl HM.out (by simp; omega) (by simp; omega) ?_; intro v5 w5 hown5 hg5 hat5; obtain ⟨A5, c5, rfl⟩ := own_form hown5)
          have hb5 : Below D wc w5 := (hbel.alloc hsz _).grown hg5 (by simp; omega) (fun j hj => (HO2.out.lt j hj).1)
          have hstep := low_step hlt hlow.out
          refine ⟨⟨q / 256, zs ++ [b8 q], by simp; omega, by simp, rfl, by omega, by omega, Lib.hid hstep, ?_, hb5⟩, by simp [intOf]; omega⟩
          unfold OwnB
          rw [List.length_append, List.map_append]
          exact hown5
        · have hzk : zs.length = 16 := by omega
          have hlz : low (N : Int) 16 = zs := by
            have h := hlow.out
            rw [hzk, Nat.sub_self] at h
            simpa [low] using h
          have HO2 := Lib.hid hown
          have HLZ := Lib.hid hlz
          have HBE2 := Lib.hid hbel
          clear hown hlz hbel hlow hzk
          go_wp2_with fail
          go_meet
          exact ⟨rfl, by rw [HLZ.out]; exact HO2.out, HBE2.out⟩
    case rest =>
      obtain ⟨rfl, hownL, hbelL⟩ := hcut
      obtain ⟨lb, hlb⟩ : ∃ lb, lb = low (N : Int) 16 := ⟨_, rfl⟩
      have hlbl : lb.length = 16 := by rw [hlb, low_length]
      rw [← hlb] at hownL
      obtain ⟨gl, cl, rfl, hgD, hgs, hcl⟩ := hownL.block (by omega)
      have hcap : cl ≤ 9223372036854775807 := by
        have h := hownL.byt
        obtain ⟨_, c', e, _, h2, _⟩ := h
        injection e with _ _ e3
        subst e3
        unfold maxLen at h2
        exact h2
      have hcell : ∀ (j : Nat) (u : UInt8), lb[j]? = some u → wc.cell? ⟨gl, j, none⟩ = some (bv u) := fun j u hu => hownL.cell hu
      have hpre0 : OwnB wc w.heap.size (.slice A3 pre.length c3) (pre ++ (lb.reverse).take 0) := by
        rw [List.take_zero, List.append_nil]
        exact own_turns (S := fun k => D ≤ k) HO.out ⟨hbelL.os, hbelL.tape, hbelL.output, hbelL.size, fun k hk hn => hbelL.block k (by omega)⟩ (fun k hk => by have := (HO.out.lt k hk).2; have := HD.out; omega)
      have hneq : (Value.slice A3 pre.length c3).ownBlock ≠ some gl := fun h => by have := (HO.out.lt gl h).2; have := HD.out; omega
      have hbelW : Below w.heap.size w wc := HBE.out.trans (hbelL.mono (by have := HBE.out.size; have := HD.out; omega))
      have HLB := Lib.hid hlb
      have HLBL := Lib.hid hlbl
      rw [hlbl]
      have HP0 := Lib.hid hpre0
      have HNQ := Lib.hid hneq
      have HC0 := Lib.hid hcell
      have HBW := Lib.hid hbelW
      obtain ⟨wL, hwL⟩ : ∃ wL : World, wL = wc := ⟨_, rfl⟩
      clear hlb hlbl hownL hbelL hpre0 hneq hcell hbelW HO HBE
      go_wp2_with fail
      go_loopw [9, 13] (fun v iv wr => ∃ i : Nat, i ≤ 16 ∧ iv = .int .i64 (i : Int) ∧ OwnB wr w.heap.size v (pre ++ (lb.reverse).take i) ∧ v.ownBlock ≠ some gl ∧ gl < wr.heap.size ∧ Hid (∀ (j : Nat) (u : UInt8), lb[j]? = some u → wr.cell? ⟨gl, j, none⟩ = some (bv u)) ∧ Below w.heap.size w wr) (fun _ iv _ => 16 - (intOf iv).toNat)
      case atStart => exact ⟨0, by omega, rfl, HP0.out, HNQ.out, hgs, HC0, HBW.out⟩
      case round =>
        obtain ⟨i, hi2, rfl, hown, hne, hgr, hcr, hbel⟩ := hrel
        obtain ⟨ys, hys⟩ : ∃ ys, ys = pre ++ (lb.reverse).take i := ⟨_, rfl⟩
        have hyl : ys.length = pre.length + i := by rw [hys, List.length_append, List.length_take]; have := HLBL.out; simp; omega
        rw [← hys] at hown
        obtain ⟨A4, c4, rfl⟩ := hown.form
        by_cases hlt : i < 16
        · obtain ⟨p, hp⟩ : ∃ p, p = 16 - 1 - i := ⟨_, rfl⟩
          have ep : 16 - 1 - (i : Int) = (p : Int) := by omega
          have hpl2 : (p : Int) < 16 := by omega
          obtain ⟨u, hu⟩ : ∃ u, lb[p]? = some u := ⟨_, List.getElem?_eq_getElem (by have := HLBL.out; omega)⟩
          have hcu : wr.cell? ⟨gl, p, none⟩ = some (.int .u8 (u.toNat : Int)) := hcr.out p u hu
          have hfu : (lb.reverse)[i]? = some u := by
            rw [List.getElem?_reverse (by have := HLBL.out; omega), HLBL.out, ← hp]; exact hu
          have hmade : Byt (wr.alloc (.cells #[.int .u8 (u.toNat : Int)] 5)) (wr.heap.size + 1) (.slice (some ⟨wr.heap.size, 0, none⟩) 1 1) [u] := Byt.made wr _ [_] [u] rfl (by unfold maxLen; simp)
          have HO2 := Lib.hid (show wr.ownsRow w.heap.size 5 1 (.slice A4 ys.length c4) ys.length (ys.map bv) from hown)
          have HM := Lib.hid hmade
          have HY := Lib.hid hys
          have HYL := Lib.hid hyl
          have HFU := Lib.hid hfu
          
          
          rw [show p = 15 - i from hp] at hcu
          clear hmade hown hys hyl hfu hu ep hpl2 hp
          go_wp2_with (at_builtin; refine wpList_append_bytes rfl (.tmp 61) (.tmp 69) 22 rfl w.heap.size 5 i0 slice_u8 hi hz0 hz1 hz2 _ ys.length (ys.map bv) rfl (HO2.out.alloc _) (wr.heap.size + 1) _ [u] rfl HM.out (by have := HYL.out; have := HPL.out; simp; omega) (by have := hbel.size; simp; omega) ?_; intro v5 w5 hown5 hg5 hat5; obtain ⟨A5, c5, rfl⟩ := own_form hown5)
          have hb5 : Below w.heap.size w w5 := (hbel.alloc hbel.size _).grown hg5 (by have := hbel.size; simp; omega) (fun j hj => (HO2.out.lt j hj).1)
          refine ⟨⟨i + 1, by omega, by go_num, ?_, ?_, ?_, Lib.hid ?_, hb5⟩, by simp [intOf]; omega⟩
          · have e : pre ++ (lb.reverse).take (i + 1) = ys ++ [u] := by rw [HY.out, List.take_add_one, HFU.out, List.append_assoc]; rfl
            rw [e]
            unfold OwnB
            rw [List.length_append, List.map_append]
            exact hown5
          · show (Value.slice A5 (ys.length + [u].length) c5).ownBlock ≠ some gl
            rcases hat5 with h | h
            · rw [h]; exact hne
            · rw [h]; intro h2; injection h2 with h2; simp at h2; omega
          · have := hg5.size; simp at this; omega
          · intro j u2 hu2
            refine (World.cell?_of_block (w := wr) (a := ⟨gl, j, none⟩) ?_).trans (hcr.out j u2 hu2)
            have h1 := hg5.block gl (by simp; omega) (fun h => hne h.symm)
            exact h1.trans (Below.heap_alloc _ _ _ hgr)
        · have hin : (lb.reverse).take i = lb.reverse := List.take_of_length_le (by have := HLBL.out; simp; omega)
          have e : ys = fillG m 128 16 false := by
            rw [hys, hin, HPRE.out, HLB.out, HN.out, HZV.out]
            unfold fillG
            simp
          have HE := Lib.hid e
          have HO2 := Lib.hid hown
          have HBE2 := Lib.hid hbel
          clear e hown hbel hys hin
          go_wp2_with fail
          go_ret
          exact ⟨_, rfl, by rw [← HE.out]; exact HO2.out, HBE2.out⟩

set_option maxRecDepth 100000 in
set_option maxHeartbeats 3200000 in
theorem fillR_any (B : Nat) (x : Value) (m : List UInt8) (w : World) (hx : Byt w B x m) (hB : B ≤ w.heap.size) (hl : m.length < 281474976710656) (hl2 : m.length + 400 ≤ 140737488355328) :
    Calls Tryd.prog 24 #[x, .int .i64 64, .int .i64 8, .bool true] w fun e w' => ∃ v, e = .returned v ∧ OwnB w' w.heap.size v (fillG m 64 8 true) ∧ Below w.heap.size w w' := by
  obtain ⟨i0, hi, hz0, hz1, hz2⟩ := info_parts info_u8
  obtain ⟨A, c, rfl⟩ := hx.form
  have hr1 : Byt (w.alloc (.cells #[] 5)) B (.slice A m.length c) m := hx.below ((Below.refl _ w).alloc hB _)
  have hown : (w.alloc (.cells #[] 5)).ownsRow w.heap.size 5 1 (.slice (some ⟨w.heap.size, 0, none⟩) 0 0) 0 [] :=
    World.ownsRow_made w #[] 0 (Nat.le_refl _) (by unfold maxLen; omega) rfl
  obtain ⟨Z, hZ⟩ : ∃ Z, Z = zeroG m.length 64 8 := ⟨_, rfl⟩
  have hz64 : Z < 64 := by rw [hZ]; unfold zeroG; omega
  have hzz : (m.length + 1 + Z) % 64 = 56 := by rw [hZ]; unfold zeroG; omega
  have hzn : ∀ k, k < Z → (m.length + 1 + k) % 64 ≠ 56 := fun k hk => by rw [hZ] at hk; unfold zeroG at hk; omega
  have HZ := Lib.hid hZ
  have HZZ := Lib.hid hzz
  have HZN := Lib.hid hzn
  have HX := Lib.hid hx
  clear hZ hzz hzn hx
  go_enter Tryd.func24, Tryd.ntmps24
  go_upto_region 2 with (at_builtin; refine wpList_append_bytes rfl (.tmp 14) (.tmp 15) 22 rfl w.heap.size 5 i0 slice_u8 hi hz0 hz1 hz2 _ 0 [] rfl hown B _ m rfl hr1 (by omega) (by simp) ?_; intro v1 w1 hown1 hg1 hat1; obtain ⟨A1, c1, rfl⟩ := own_form hown1)
  rw [Nat.zero_add] at *
  have hb1 : Below w.heap.size w w1 := ((Below.refl _ w).alloc (Nat.le_refl _) _).grown hg1 (by simp) (fun k hk => by cases hk; exact Nat.le_refl _)
  have how1 : w1.ownsRow w.heap.size 5 1 (.slice A1 m.length c1) m.length (m.map bv) := by simpa using hown1
  have H1 := Lib.hid how1
  have HB1 := Lib.hid hb1
  clear hown1 hg1 hat1 hb1 hown hr1 how1
  have hmade : Byt (w1.alloc (.cells #[.int .u8 128] 5)) (w1.heap.size + 1) (.slice (some ⟨w1.heap.size, 0, none⟩) 1 1) [128] := Byt.made w1 _ [_] [128] rfl (by unfold maxLen; simp)
  have HM := Lib.hid hmade
  clear hmade
  go_upto_block 0 with (at_builtin; refine wpList_append_bytes rfl (.tmp 17) (.tmp 18) 22 rfl w.heap.size 5 i0 slice_u8 hi hz0 hz1 hz2 _ m.length (m.map bv) rfl (H1.out.alloc _) (w1.heap.size + 1) _ [128] rfl HM.out (by simp; omega) (by have := HB1.out.size; simp; omega) ?_; intro v2 w2 hown2 hg2 hat2; obtain ⟨A2, c2, rfl⟩ := own_form hown2)
  have hb2 : Below w.heap.size w w2 := (HB1.out.alloc HB1.out.size _).grown hg2 (by have := HB1.out.size; simp; omega) (fun j hj => (H1.out.lt j hj).1)
  have how2 : OwnB w2 w.heap.size (.slice A2 (m.length + [(128 : UInt8)].length) c2) (m ++ [128] ++ List.replicate 0 0) := by
    unfold OwnB
    simpa using hown2
  have H2 := Lib.hid how2
  have HB2 := Lib.hid hb2
  clear hown2 hg2 hat2 hb2 how2 HM H1
  go_cut [9] (fun v wx => OwnB wx w.heap.size v (m ++ [128] ++ List.replicate Z 0) ∧ Below w.heap.size w wx)
  case first =>
    go_wp2_with fail
    go_loopw [9] (fun v wr => ∃ k : Nat, k ≤ Z ∧ OwnB wr w.heap.size v (m ++ [128] ++ List.replicate k 0) ∧ Below w.heap.size w wr) (fun v _ => Z + m.length + 2 - slen v)
    case atStart => exact ⟨0, by omega, H2.out, HB2.out⟩
    case round =>
      obtain ⟨k, hk, hown, hbel⟩ := hrel
      obtain ⟨ys, hys⟩ : ∃ ys, ys = m ++ [128] ++ List.replicate k 0 := ⟨_, rfl⟩
      have hyl : ys.length = m.length + 1 + k := by rw [hys]; simp; omega
      rw [← hys] at hown
      obtain ⟨A3, c3, rfl⟩ := hown.form
      obtain ⟨r, hr⟩ : ∃ r, r = ys.length % 64 := ⟨_, rfl⟩
      have er : (ys.length : Int) % 64 = (r : Int) := by omega
      have HR := Lib.hid hr
      have HY := Lib.hid hys
      have HYL := Lib.hid hyl
      clear hr hys hyl
      by_cases hlt : k < Z
      · have hrn : ((r : Int) != 56) = true := by have := HZN.out k hlt; have := HR.out; have := HYL.out; simp; omega
        have hmade : Byt (wr.alloc (.cells #[.int .u8 0] 5)) (wr.heap.size + 1) (.slice (some ⟨wr.heap.size, 0, none⟩) 1 1) [0] := Byt.made wr _ [_] [0] rfl (by unfold maxLen; simp)
        have HM := Lib.hid hmade
        have HO := Lib.hid (show wr.ownsRow w.heap.size 5 1 (.slice A3 ys.length c3) ys.length (ys.map bv) from hown)
        clear hmade hown
        go_wp2_with (at_builtin; refine wpList_append_bytes rfl (.tmp 28) (.tmp 29) 22 rfl w.heap.size 5 i0 slice_u8 hi hz0 hz1 hz2 _ ys.length (ys.map bv) rfl (HO.out.alloc _) (wr.heap.size + 1) _ [0] rfl HM.out (by have := HYL.out; simp; omega) (by have := hbel.size; simp; omega) ?_; intro v4 w4 hown4 hg4 hat4; obtain ⟨A4, c4, rfl⟩ := own_form hown4)
        have hb4 : Below w.heap.size w w4 := (hbel.alloc hbel.size _).grown hg4 (by have := hbel.size; simp; omega) (fun j hj => (HO.out.lt j hj).1)
        refine ⟨⟨k + 1, by omega, ?_, hb4⟩, by have := HYL.out; simp only [slen]; omega⟩
        have e : m ++ [128] ++ List.replicate (k + 1) 0 = ys ++ [(0 : UInt8)] := by rw [HY.out, List.replicate_succ', ← List.append_assoc]
        rw [e]
        unfold OwnB
        rw [List.length_append, List.map_append]
        exact hown4
      · obtain rfl : k = Z := by omega
        have hrn : ((r : Int) != 56) = false := by have := HZZ.out; have := HR.out; have := HYL.out; simp; omega
        rw [HY.out] at hown
        have hown' : OwnB wr w.heap.size (.slice A3 ys.length c3) (m ++ [128] ++ List.replicate k 0) := by rw [HY.out]; exact hown
        have HO := Lib.hid hown'
        have HBE := Lib.hid hbel
        clear hown hown' hbel
        go_wp2_with fail
        go_meet
        exact ⟨HO.out, HBE.out⟩
  case rest =>
    obtain ⟨hown, hbel⟩ := hcut
    obtain ⟨pre, hpre⟩ : ∃ pre, pre = m ++ [128] ++ List.replicate Z 0 := ⟨_, rfl⟩
    have hpl : pre.length = m.length + 1 + Z := by rw [hpre]; simp; omega
    rw [← hpre] at hown
    obtain ⟨A3, c3, rfl⟩ := hown.form
    obtain ⟨N, hN⟩ : ∃ N : Nat, N = 8 * m.length := ⟨_, rfl⟩
    have eN : (m.length : Int) * 8 = (N : Int) := by omega
    have HO := Lib.hid hown
    have HBE := Lib.hid hbel
    have HPL := Lib.hid hpl
    have HPRE := Lib.hid hpre
    have HN := Lib.hid hN
    obtain ⟨D, hD⟩ : ∃ D, D = wc.heap.size := ⟨_, rfl⟩
    have HD := Lib.hid hD
    have HZV := HZ
    clear hown hbel hpl hpre hN hD HZ HZZ HZN H2 HB2 HB1
    go_upto_block 2 with fail
    go_cut [9, 11] (fun v9 v11 wx => v9 = .slice A3 pre.length c3 ∧ OwnB wx D v11 (low (N : Int) 8) ∧ Below D wc wx)
    case first =>
      go_wp2_with fail
      go_loopw [10, 11, 12] (fun xv v iv wr => ∃ (q : Int) (zs : List UInt8), zs.length ≤ 8 ∧ iv = .int .i64 (zs.length : Int) ∧ xv = .int .u64 q ∧ 0 ≤ q ∧ q < 18446744073709551616 ∧ Hid (low (N : Int) 8 = zs ++ low q (8 - zs.length)) ∧
          OwnB wr D v zs ∧ Below D wc wr) (fun _ _ iv _ => 8 - (intOf iv).toNat)
      case atStart => exact ⟨N, [], by simp, rfl, rfl, by omega, by have := HN.out; omega, Lib.hid rfl, OwnB.nil _ _, by rw [HD.out]; exact Below.refl _ _⟩
      case round =>
        obtain ⟨q, zs, hz, rfl, rfl, hm0, hm1, hlow, hown, hbel⟩ := hrel
        obtain ⟨A4, c4, rfl⟩ := hown.form
        by_cases hlt : zs.length < 8
        · have hmade : Byt (wr.alloc (.cells #[.int .u8 (q % 256)] 5)) (wr.heap.size + 1) (.slice (some ⟨wr.heap.size, 0, none⟩) 1 1) [b8 q] := Byt.made wr _ [_] [b8 q] (by simp [bv_b8]) (by unfold maxLen; simp)
          have hsz : D ≤ wr.heap.size := by have := hbel.size; have := HD.out; omega
          have HO2 := Lib.hid (show wr.ownsRow D 5 1 (.slice A4 zs.length c4) zs.length (zs.map bv) from hown)
          have HM := Lib.hid hmade
          clear hmade hown
          go_wp2_with (at_builtin; refine wpList_append_bytes rfl (.tmp 40) (.tmp 44) 22 rfl D 5 i0 slice_u8 hi hz0 hz1 hz2 _ zs.length (zs.map bv) rfl (HO2.out.alloc _) (wr.heap.size + 1) _ [b8 q] rfl HM.out (by simp; omega) (by simp; omega) ?_; intro v5 w5 hown5 hg5 hat5; obtain ⟨A5, c5, rfl⟩ := own_form hown5)
          have hb5 : Below D wc w5 := (hbel.alloc hsz _).grown hg5 (by simp; omega) (fun j hj => (HO2.out.lt j hj).1)
          have hstep := low_step hlt hlow.out
          refine ⟨⟨q / 256, zs ++ [b8 q], by simp; omega, by simp, rfl, by omega, by omega, Lib.hid hstep, ?_, hb5⟩, by simp [intOf]; omega⟩
          unfold OwnB
          rw [List.length_append, List.map_append]
          exact hown5
        · have hzk : zs.length = 8 := by omega
          have hlz : low (N : Int) 8 = zs := by
            have h := hlow.out
            rw [hzk, Nat.sub_self] at h
            simpa [low] using h
          have HO2 := Lib.hid hown
          have HLZ := Lib.hid hlz
          have HBE2 := Lib.hid hbel
          clear hown hlz hbel hlow hzk
          go_wp2_with fail
          go_meet
          exact ⟨rfl, by rw [HLZ.out]; exact HO2.out, HBE2.out⟩
    case rest =>
      obtain ⟨rfl, hownL, hbelL⟩ := hcut
      obtain ⟨lb, hlb⟩ : ∃ lb, lb = low (N : Int) 8 := ⟨_, rfl⟩
      have hlbl : lb.length = 8 := by rw [hlb, low_length]
      rw [← hlb] at hownL
      obtain ⟨gl, cl, rfl, hgD, hgs, hcl⟩ := hownL.block (by omega)
      have hcap : cl ≤ 9223372036854775807 := by
        have h := hownL.byt
        obtain ⟨_, c', e, _, h2, _⟩ := h
        injection e with _ _ e3
        subst e3
        unfold maxLen at h2
        exact h2
      have hcell : ∀ (j : Nat) (u : UInt8), lb[j]? = some u → wc.cell? ⟨gl, j, none⟩ = some (bv u) := fun j u hu => hownL.cell hu
      have hpre0 : OwnB wc w.heap.size (.slice A3 pre.length c3) (pre ++ (lb).take 0) := by
        rw [List.take_zero, List.append_nil]
        exact own_turns (S := fun k => D ≤ k) HO.out ⟨hbelL.os, hbelL.tape, hbelL.output, hbelL.size, fun k hk hn => hbelL.block k (by omega)⟩ (fun k hk => by have := (HO.out.lt k hk).2; have := HD.out; omega)
      have hneq : (Value.slice A3 pre.length c3).ownBlock ≠ some gl := fun h => by have := (HO.out.lt gl h).2; have := HD.out; omega
      have hbelW : Below w.heap.size w wc := HBE.out.trans (hbelL.mono (by have := HBE.out.size; have := HD.out; omega))
      have HLB := Lib.hid hlb
      have HLBL := Lib.hid hlbl
      rw [hlbl]
      have HP0 := Lib.hid hpre0
      have HNQ := Lib.hid hneq
      have HC0 := Lib.hid hcell
      have HBW := Lib.hid hbelW
      obtain ⟨wL, hwL⟩ : ∃ wL : World, wL = wc := ⟨_, rfl⟩
      clear hlb hlbl hownL hbelL hpre0 hneq hcell hbelW HO HBE
      go_wp2_with fail
      go_loopw [9, 13] (fun v iv wr => ∃ i : Nat, i ≤ 8 ∧ iv = .int .i64 (i : Int) ∧ OwnB wr w.heap.size v (pre ++ (lb).take i) ∧ v.ownBlock ≠ some gl ∧ gl < wr.heap.size ∧ Hid (∀ (j : Nat) (u : UInt8), lb[j]? = some u → wr.cell? ⟨gl, j, none⟩ = some (bv u)) ∧ Below w.heap.size w wr) (fun _ iv _ => 8 - (intOf iv).toNat)
      case atStart => exact ⟨0, by omega, rfl, HP0.out, HNQ.out, hgs, HC0, HBW.out⟩
      case round =>
        obtain ⟨i, hi2, rfl, hown, hne, hgr, hcr, hbel⟩ := hrel
        obtain ⟨ys, hys⟩ : ∃ ys, ys = pre ++ (lb).take i := ⟨_, rfl⟩
        have hyl : ys.length = pre.length + i := by rw [hys, List.length_append, List.length_take]; have := HLBL.out; simp; omega
        rw [← hys] at hown
        obtain ⟨A4, c4, rfl⟩ := hown.form
        by_cases hlt : i < 8
        · obtain ⟨p, hp⟩ : ∃ p, p = i := ⟨_, rfl⟩
          have ep : (i : Int) = (p : Int) := by omega
          have hpl2 : (p : Int) < 8 := by omega
          obtain ⟨u, hu⟩ : ∃ u, lb[p]? = some u := ⟨_, List.getElem?_eq_getElem (by have := HLBL.out; omega)⟩
          have hcu : wr.cell? ⟨gl, p, none⟩ = some (.int .u8 (u.toNat : Int)) := hcr.out p u hu
          have hfu : (lb)[i]? = some u := by
            rw [hp] at hu; exact hu
          have hmade : Byt (wr.alloc (.cells #[.int .u8 (u.toNat : Int)] 5)) (wr.heap.size + 1) (.slice (some ⟨wr.heap.size, 0, none⟩) 1 1) [u] := Byt.made wr _ [_] [u] rfl (by unfold maxLen; simp)
          have HO2 := Lib.hid (show wr.ownsRow w.heap.size 5 1 (.slice A4 ys.length c4) ys.length (ys.map bv) from hown)
          have HM := Lib.hid hmade
          have HY := Lib.hid hys
          have HYL := Lib.hid hyl
          have HFU := Lib.hid hfu
          obtain rfl : p = i := hp
          have HEP := Lib.hid ep
          
          clear hmade hown hys hyl hfu hu ep
          go_wp2_with (at_builtin; refine wpList_append_bytes rfl (.tmp 54) (.tmp 59) 22 rfl w.heap.size 5 i0 slice_u8 hi hz0 hz1 hz2 _ ys.length (ys.map bv) rfl (HO2.out.alloc _) (wr.heap.size + 1) _ [u] rfl HM.out (by have := HYL.out; have := HPL.out; simp; omega) (by have := hbel.size; simp; omega) ?_; intro v5 w5 hown5 hg5 hat5; obtain ⟨A5, c5, rfl⟩ := own_form hown5)
          have hb5 : Below w.heap.size w w5 := (hbel.alloc hbel.size _).grown hg5 (by have := hbel.size; simp; omega) (fun j hj => (HO2.out.lt j hj).1)
          refine ⟨⟨p + 1, by omega, by go_num, ?_, ?_, ?_, Lib.hid ?_, hb5⟩, by simp [intOf]; omega⟩
          · have e : pre ++ (lb).take (p + 1) = ys ++ [u] := by rw [HY.out, List.take_add_one, HFU.out, List.append_assoc]; rfl
            rw [e]
            unfold OwnB
            rw [List.length_append, List.map_append]
            exact hown5
          · show (Value.slice A5 (ys.length + [u].length) c5).ownBlock ≠ some gl
            rcases hat5 with h | h
            · rw [h]; exact hne
            · rw [h]; intro h2; injection h2 with h2; simp at h2; omega
          · have := hg5.size; simp at this; omega
          · intro j u2 hu2
            refine (World.cell?_of_block (w := wr) (a := ⟨gl, j, none⟩) ?_).trans (hcr.out j u2 hu2)
            have h1 := hg5.block gl (by simp; omega) (fun h => hne h.symm)
            exact h1.trans (Below.heap_alloc _ _ _ hgr)
        · have hin : (lb).take i = lb := List.take_of_length_le (by have := HLBL.out; simp; omega)
          have e : ys = fillG m 64 8 true := by
            rw [hys, hin, HPRE.out, HLB.out, HN.out, HZV.out]
            unfold fillG
            simp
          have HE := Lib.hid e
          have HO2 := Lib.hid hown
          have HBE2 := Lib.hid hbel
          clear e hown hbel hys hin
          go_wp2_with fail
          go_ret
          exact ⟨_, rfl, by rw [← HE.out]; exact HO2.out, HBE2.out⟩
end Go.Proofs.YtpcopimbnbmkmaaDoor

/-
  The reference's Sum512, walked. Conditions: sizes within the reach.
-/
namespace Go.Proofs.YtpcopimbnbmkmaaDoor.S5
open Go.RowKit

theorem info_h64 : (Tryd.prog.info? 31).map (·.size) = some 64 := by kernel_rfl

set_option maxRecDepth 100000 in
set_option maxHeartbeats 25600000 in
theorem rsum256_any (B : Nat) (x : Value) (m : List UInt8) (W0 : World) (hb : Byt W0 B x m) (hB : B ≤ W0.heap.size) (hl : m.length ≤ 100000) :
    Calls Tryd.prog 11 #[x] W0 fun e w' => e = .returned (digV (sha512 m)) ∧ Below W0.heap.size W0 w' := by
  obtain ⟨A, c, rfl⟩ := hb.form
  have rA := IRow.new W0 31 .u8 (List.replicate 64 0)
  have bA : Below W0.heap.size W0 (W0.alloc (.cells ((List.replicate 64 (0 : Int)).map (Value.int .u8)).toArray 31)) := (Below.refl _ W0).alloc (Nat.le_refl _) _
  have sA : (W0.alloc (.cells ((List.replicate 64 (0 : Int)).map (Value.int .u8)).toArray 31)).heap.size = W0.heap.size + 1 := by simp
  have HB := Lib.hid hb
  clear hb
  have hz80 := zero_80
  go_enter Tryd.func11, Tryd.ntmps11
  go_upto_region 1 with fail
  change Code.wp _ _ _ _ (W0.alloc (.cells ((List.replicate 64 (0 : Int)).map (Value.int .u8)).toArray 31))
  obtain ⟨wA, hwA⟩ : ∃ x, x = W0.alloc (.cells ((List.replicate 64 (0 : Int)).map (Value.int .u8)).toArray 31) := ⟨_, rfl⟩
  rw [← hwA] at rA bA sA ⊢
  obtain ⟨B0, hB0⟩ : ∃ B0, B0 = W0.heap.size := ⟨_, rfl⟩
  rw [← hB0] at rA bA sA ⊢
  have RA := Lib.hid rA
  have BA := Lib.hid bA
  have SA := Lib.hid sA
  have HB0 := Lib.hid hB0
  have RZ := Lib.hid (IRow.new wA 54 .u64 (List.replicate 80 0))
  have HI64 := Lib.hid (show (Tryd.prog.info? 54).map (·.size) = some k512.length from info_80)
  clear hwA rA bA sA hB0
  go_upto_region 2 with (first | (refine wpList_build_lit rfl 54 _ (.agg (k512.map (Value.int .u64)).toArray) rfl (fun _ => by kernel_rfl) ?_) | refine wpList_store_irow rfl 54 (.tmp 3) (.tmp 20) rfl (g := wA.heap.size) (t := 54) (k := .u64) (xs := List.replicate 80 0) (ys := k512) rfl rfl RZ.out HI64.out rfl ?_)
  change Code.wp _ _ _ _ ((wA.alloc (.cells ((List.replicate 80 (0 : Int)).map (Value.int .u64)).toArray 54)).setRow wA.heap.size (k512.map (Value.int .u64)).toArray)
  obtain ⟨wB, hwB⟩ : ∃ x, x = (wA.alloc (.cells ((List.replicate 80 (0 : Int)).map (Value.int .u64)).toArray 54)).setRow wA.heap.size (k512.map (Value.int .u64)).toArray := ⟨_, rfl⟩
  rw [← hwB]
  obtain ⟨BK, hBK⟩ : ∃ BK, BK = wA.heap.size := ⟨_, rfl⟩
  have rK : IRow wB BK 54 .u64 k512 := by rw [hwB, hBK]; exact setRow_irow RZ.out
  have bB : Below BK wA wB := by rw [hwB, hBK]; exact below_setRow ((Below.refl _ wA).alloc (Nat.le_refl _) _) (Nat.le_refl _) _
  have sB : wB.heap.size = BK + 1 := by rw [hwB, hBK]; simp [World.setRow]
  rw [← hBK]
  have hk0 : BK = B0 + 1 := by rw [hBK, SA.out]
  have RK := Lib.hid rK
  have SB := Lib.hid sB
  have HK0 := Lib.hid hk0
  have RA2 := Lib.hid (RA.out.below bB (by omega))
  have BB := Lib.hid (BA.out.trans (bB.mono (by omega : B0 ≤ BK)))
  have RZ2 := Lib.hid (IRow.new wB 55 .u64 (List.replicate 8 0))
  have HI8 := Lib.hid (show (Tryd.prog.info? 55).map (·.size) = some start512.list.length from info_8)
  clear hwB hBK rK bB sB hk0 RZ
  try dsimp only [Act.put]
  go_upto_region 3 with (refine wpList_store_irow rfl 55 (.tmp 4) (.tmp 21) rfl (g := wB.heap.size) (t := 55) (k := .u64) (xs := List.replicate 8 0) (ys := start512.list) rfl rfl RZ2.out HI8.out rfl ?_)
  change Code.wp _ _ _ _ ((wB.alloc (.cells ((List.replicate 8 (0 : Int)).map (Value.int .u64)).toArray 55)).setRow wB.heap.size (start512.list.map (Value.int .u64)).toArray)
  obtain ⟨w1, hw1⟩ : ∃ x, x = (wB.alloc (.cells ((List.replicate 8 (0 : Int)).map (Value.int .u64)).toArray 55)).setRow wB.heap.size (start512.list.map (Value.int .u64)).toArray := ⟨_, rfl⟩
  rw [← hw1]
  obtain ⟨BH, hBH⟩ : ∃ BH, BH = wB.heap.size := ⟨_, rfl⟩
  have rH : IRow w1 BH 55 .u64 start512.list := by rw [hw1, hBH]; exact setRow_irow RZ2.out
  have bH : Below BH wB w1 := by rw [hw1, hBH]; exact below_setRow ((Below.refl _ wB).alloc (Nat.le_refl _) _) (Nat.le_refl _) _
  have s1 : w1.heap.size = BH + 1 := by rw [hw1, hBH]; simp [World.setRow]
  rw [← hBH]
  have hh0 : BH = BK + 1 := by rw [hBH, SB.out]
  have hk0 := HK0.out
  have rK := RK.out.below bH (by omega)
  have rA := RA2.out.below bH (by omega)
  have b1 := BB.out.trans (bH.mono (by omega : B0 ≤ BH))
  have C := Lib.hid (fill512_any B _ m w1 (HB.out.below (b1.mono (by rw [HB0.out]; exact hB))) (by have := b1.size; omega) (by omega) (by omega))
  have HH0 := Lib.hid hh0
  have S1 := Lib.hid s1
  have RH := Lib.hid rH
  have RK1 := Lib.hid rK
  have RA1 := Lib.hid rA
  have B1 := Lib.hid b1
  clear hw1 hBH rH bH s1 hh0 hk0 rK rA b1 RZ2 RA2 BB RK
  try dsimp only [Act.put]
  go_wp2_with fail
  refine C.out.mono ?_
  rintro e w2 ⟨v, rfl, hown, hb2⟩
  rw [fillG_512 (by omega)] at hown
  obtain ⟨FM, hF⟩ : ∃ FM, FM = full m := ⟨_, rfl⟩
  rw [← hF] at hown
  obtain ⟨M, hM⟩ : ∃ M, M = FM.length := ⟨_, rfl⟩
  have hMb : M ≤ 100200 := by rw [hM, hF]; unfold full padB lenB; simp; omega
  have hM128 : M % 128 = 0 := by rw [hM, hF]; exact full_blocks m
  have hMp : 0 < M := by rw [hM, hF]; unfold full padB; simp; omega
  obtain ⟨gm, cm, rfl, hgm, hgs, hcm⟩ := hown.block (by omega)
  have hcap : cm ≤ 9223372036854775807 := by
    obtain ⟨_, c', e, _, h2, _⟩ := hown.byt
    injection e with _ _ e3
    subst e3
    unfold maxLen at h2
    exact h2
  have hcell : ∀ (j : Nat) (u : UInt8), FM[j]? = some u → w2.cell? ⟨gm, j, none⟩ = some (bv u) := fun j u hu => hown.cell hu
  have rH := RH.out.below hb2 RH.out.lt
  have rK := RK1.out.below hb2 RK1.out.lt
  have rA := RA1.out.below hb2 RA1.out.lt
  have b2 := B1.out.trans (hb2.mono B1.out.size |>.mono (by have := HB0.out; omega))
  have hgH : BH < gm := by have := S1.out; omega
  rw [← hM] at hcm ⊢
  have HF := Lib.hid hF
  have HM := Lib.hid hM
  have HC := Lib.hid hcell
  have RH2 := Lib.hid rH
  have RK2 := Lib.hid rK
  have RA2 := Lib.hid rA
  have B2 := Lib.hid b2
  have G2 := Lib.hid hgs
  clear hown hb2 hF hM hcell rH rK rA b2 hgs RH RK1 RA1 B1 C
  go_wp2_with fail
  go_loopw [6] (fun v6 wr => ∃ q : Nat, 128 * q ≤ M ∧ v6 = .int .i64 ((128 * q : Nat) : Int) ∧ IRow wr BH 55 .u64 (blocks512 FM q).list ∧ Turns (· = BH) w2 wr) (fun v6 _ => M - (intOf v6).toNat)
  case atStart => exact ⟨0, by omega, rfl, RH2.out, Turns.refl _ _⟩
  case round =>
    obtain ⟨q, hq, rfl, rH, tH⟩ := hrel
    obtain ⟨p, hp⟩ : ∃ p, p = 128 * q := ⟨_, rfl⟩
    rw [← hp]
    obtain ⟨w3, hw3⟩ : ∃ w3 : World, w3 = wr := ⟨_, rfl⟩
    rw [← hw3] at rH tH ⊢
    clear hw3
    have R3 := Lib.hid rH
    have T3 := Lib.hid tH
    have HP := Lib.hid hp
    clear rH tH hp
    by_cases hlt : p < M
    · obtain ⟨bs, hbs⟩ : ∃ bs, bs = (FM.drop (128 * q)).take 128 := ⟨_, rfl⟩
      have hbl : bs.length = 128 := by rw [hbs, List.length_take, List.length_drop, ← HM.out]; have := HP.out; omega
      have hbc : ∀ wx, Turns (· = BH) w2 wx → ∀ (j : Nat) (u : UInt8), bs[j]? = some u → wx.cell? ⟨gm, p + j, none⟩ = some (bv u) := fun wx ht j u hu => by
        refine (ht.cell (p := ⟨gm, p + j, none⟩) G2.out (by show gm ≠ BH; omega)).trans (HC.out _ _ ?_)
        rw [hbs, List.getElem?_take] at hu
        split at hu
        · rw [List.getElem?_drop] at hu; rw [HP.out]; exact hu
        · exact absurd hu (by simp)
      have HBS := Lib.hid hbs
      have HBL := Lib.hid hbl
      have HBC := Lib.hid hbc
      clear hbs hbl hbc
      have rW := IRow.new w3 54 .u64 (List.replicate 80 0)
      have bW : Below w3.heap.size w3 (w3.alloc (.cells ((List.replicate 80 (0 : Int)).map (Value.int .u64)).toArray 54)) := (Below.refl _ w3).alloc (Nat.le_refl _) _
      have RW0 := Lib.hid rW
      have BW0 := Lib.hid bW
      clear rW bW
      go_upto_block 2 with fail
      change Code.wp _ _ _ _ (w3.alloc (.cells ((List.replicate 80 (0 : Int)).map (Value.int .u64)).toArray 54))
      obtain ⟨w4, hw4⟩ : ∃ x, x = w3.alloc (.cells ((List.replicate 80 (0 : Int)).map (Value.int .u64)).toArray 54) := ⟨_, rfl⟩
      rw [← hw4] at RW0 BW0 ⊢
      obtain ⟨W, hW⟩ : ∃ W, W = w3.heap.size := ⟨_, rfl⟩
      rw [← hW] at RW0 BW0 ⊢
      have hWH : BH < W := by have := T3.out.size; have := G2.out; omega
      have hWm : gm < W := by have := T3.out.size; have := G2.out; omega
      have HW := Lib.hid hW
      clear hw4 hW
      try dsimp only [Act.put]
      have hbc4 : ∀ (j : Nat) (u : UInt8), bs[j]? = some u → w4.cell? ⟨gm, p + j, none⟩ = some (bv u) := fun j u hu => (BW0.out.cell (p := ⟨gm, p + j, none⟩) hWm).trans (HBC.out w3 T3.out j u hu)
      refine rb2_any W gm p M cm bs w4 HBL.out (by have := HP.out; omega) hMb hWm RW0.out hbc4 _ _ _ _ _ _ _ _ _ _ _ _ _ _ _ _ _ _ _ _ _ _ _ _ _ _ _ _ _ _ _ _ _ _ _ _ _ _ _ _ _ _ _ _ _ _ _ _ _ _ _ _ _ _ _ _ _ _ _ _ _ _ _ _ _ _ _ _ _ _ _ _ _ _ _ _ _ _ _ _ _ _ _ _ _ _ _ _ _ _ _ _ _ _ _ _ _ _ _ _ _ _ _ _ _ _ _ _ _ _ _ _ _ _ _ _ _ _ _ _ _ _ _ _ _ _ _ _ _ _ _ _ _ _ _ _ _ _ _ _ _ _ _ _ _ _ _ _ _ _ _ _ _ _ _ _ _ _ _ _ _ _ _ _ _ _ _ _ _ _ _ _ _ _ _ _ _ _ _ _ _ _ _ _ _ _ _ _ _ _ _ _ _ _ _ _ _ _ _ _ _ _ _ _ _ _ _ _ _ _ _ _ _ _ _ _ _ _ _ _ _ _ _ _ (fun _ _ _ _ _ h => h) (fun v2_8 v2_9 v2_30 v2_31 v2_32 v2_33 v2_34 v2_35 v2_36 v2_37 v2_38 v2_39 v2_40 v2_41 v2_42 v2_43 v2_44 v2_45 v2_46 v2_47 v2_48 v2_49 v2_50 v2_51 v2_52 v2_53 v2_54 w5 r5 b5 => ?_)
      have R5 := Lib.hid r5
      have B5 := Lib.hid b5
      clear r5 b5 hbc4
      go_upto_block 6 with fail
      refine rb6_any W bs w5 R5.out _ _ _ _ _ _ _ _ _ _ _ _ _ _ _ _ _ _ _ _ _ _ _ _ _ _ _ _ _ _ _ _ _ _ _ _ _ _ _ _ _ _ _ _ _ _ _ _ _ _ _ _ _ _ _ _ _ _ _ _ _ _ _ _ _ _ _ _ _ _ _ _ _ _ _ _ _ _ _ _ _ _ _ _ _ _ _ _ _ _ _ _ _ _ _ _ _ _ _ _ _ _ _ _ _ _ _ _ _ _ _ _ _ _ _ _ _ _ _ _ _ _ _ _ _ _ _ _ _ _ _ _ _ _ _ _ _ _ _ _ _ _ _ _ _ _ _ _ _ _ _ _ _ _ _ _ _ _ _ _ _ _ _ _ _ _ _ _ _ _ _ _ _ _ _ _ _ _ _ _ _ _ _ _ _ _ _ _ _ _ _ _ _ _ _ _ _ _ _ _ _ _ _ _ _ _ _ _ _ _ _ _ _ _ _ _ _ _ _ _ _ _ _ _ _ _ (fun _ _ _ _ _ h => h) (fun v6_10 v6_11 v6_12 v6_55 v6_56 v6_57 v6_58 v6_59 v6_60 v6_61 v6_62 v6_63 v6_64 v6_65 v6_66 v6_67 v6_68 v6_69 v6_70 v6_71 v6_72 v6_73 v6_74 v6_75 v6_76 v6_77 v6_78 v6_79 v6_80 v6_81 v6_82 v6_83 v6_84 v6_85 v6_86 v6_87 v6_88 v6_89 v6_90 v6_91 v6_92 v6_93 v6_94 v6_95 v6_96 v6_97 v6_98 v6_99 v6_100 v6_101 v6_102 v6_103 v6_104 v6_105 v6_106 v6_107 w6 r6 b6 => ?_)
      have hb36 := BW0.out.trans (B5.out.trans b6)
      have t36 : Turns (· = BH) w2 w6 := T3.out.trans (Turns.of_below (S := (· = BH)) (by rw [← HW.out]; exact hb36)) (fun _ _ h => h)
      have R6 := Lib.hid r6
      have RH6 := Lib.hid (R3.out.below hb36 hWH)
      have T6 := Lib.hid t36
      have W6 := Lib.hid (show W < w6.heap.size from r6.lt)
      obtain ⟨sq, hsq⟩ : ∃ sq, sq = blocks512 FM q := ⟨_, rfl⟩
      rw [← hsq] at RH6
      have HSQ := Lib.hid hsq
      have RZ6 := Lib.hid (IRow.new w6 55 .u64 (List.replicate 8 0))
      have HI8q := Lib.hid (show (Tryd.prog.info? 55).map (·.size) = some sq.list.length from info_8)
      clear r6 b6 hb36 t36 hsq
      go_upto_block 8 with (first
        | (refine wpList_load_irow rfl 55 (.tmp 4) rfl (g := BH) (t := 55) (k := .u64) (xs := sq.list) rfl RH6.out Tryd.underlying55 HI8q.out ?_)
        | (refine wpList_store_irow rfl 55 (.tmp 13) (.tmp 108) rfl (g := w6.heap.size) (t := 55) (k := .u64) (xs := List.replicate 8 0) (ys := sq.list) rfl rfl RZ6.out HI8q.out rfl ?_))
      change Code.wp _ _ _ _ ((w6.alloc (.cells ((List.replicate 8 (0 : Int)).map (Value.int .u64)).toArray 55)).setRow w6.heap.size (sq.list.map (Value.int .u64)).toArray)
      obtain ⟨w7, hw7⟩ : ∃ x, x = (w6.alloc (.cells ((List.replicate 8 (0 : Int)).map (Value.int .u64)).toArray 55)).setRow w6.heap.size (sq.list.map (Value.int .u64)).toArray := ⟨_, rfl⟩
      rw [← hw7]
      have r7 : IRow w7 w6.heap.size 55 .u64 sq.list := by rw [hw7]; exact setRow_irow RZ6.out
      have b7 : Below w6.heap.size w6 w7 := by rw [hw7]; exact below_setRow ((Below.refl _ w6).alloc (Nat.le_refl _) _) (Nat.le_refl _) _
      obtain ⟨V, hV⟩ : ∃ V, V = w6.heap.size := ⟨_, rfl⟩
      rw [← hV] at r7 b7 ⊢
      have hVW : W < V := by have := W6.out; omega
      have t7 : Turns (· = BH) w2 w7 := T6.out.trans (Turns.of_below (S := (· = BH)) (by rw [← hV]; exact b7)) (fun _ _ h => h)
      have hBKH : BK < BH := by have := HH0.out; omega
      have rK7 : IRow w7 BK 54 .u64 k512 := RK2.out.turns t7 (by omega)
      have rW7 := R6.out.below b7 hVW
      have rH7 := RH6.out.below b7 (by omega)
      have hoks : sq.Ok := by rw [HSQ.out]; exact blocks512_ok _ _
      have RH7 := Lib.hid rH7
      have T7 := Lib.hid t7
      have V7 := Lib.hid (show V < w7.heap.size from r7.lt)
      try dsimp only [Act.put]
      refine rb8_any BK W V bs sq w7 hoks (by omega) hVW rK7 rW7 r7 _ _ _ _ _ _ _ _ _ _ _ _ _ _ _ _ _ _ _ _ _ _ _ _ _ _ _ _ _ _ _ _ _ _ _ _ _ _ _ _ _ _ _ _ _ _ _ _ _ _ _ _ _ _ _ _ _ _ _ _ _ _ _ _ _ _ _ _ _ _ _ _ _ _ _ _ _ _ _ _ _ _ _ _ _ _ _ _ _ _ _ _ _ _ _ _ _ _ _ _ _ _ _ _ _ _ _ _ _ _ _ _ _ _ _ _ _ _ _ _ _ _ _ _ _ _ _ _ _ _ _ _ _ _ _ _ _ _ _ _ _ _ _ _ _ _ _ _ _ _ _ _ _ _ _ _ _ _ _ _ _ _ _ _ _ _ _ _ _ _ _ _ _ _ _ _ _ _ _ _ _ _ _ _ _ _ _ _ _ _ _ _ _ _ _ _ _ _ _ _ _ _ _ _ _ _ _ _ _ _ _ _ _ _ _ _ _ _ _ _ _ _ _ _ (fun _ _ _ _ _ h => h) (fun v8_14 v8_15 v8_16 v8_109 v8_110 v8_111 v8_112 v8_113 v8_114 v8_115 v8_116 v8_117 v8_118 v8_119 v8_120 v8_121 v8_122 v8_123 v8_124 v8_125 v8_126 v8_127 v8_128 v8_129 v8_130 v8_131 v8_132 v8_133 v8_134 v8_135 v8_136 v8_137 v8_138 v8_139 v8_140 v8_141 v8_142 v8_143 v8_144 v8_145 v8_146 v8_147 v8_148 v8_149 v8_150 v8_151 v8_152 v8_153 v8_154 v8_155 v8_156 v8_157 v8_158 v8_159 v8_160 v8_161 v8_162 v8_163 v8_164 v8_165 v8_166 v8_167 v8_168 v8_169 v8_170 v8_171 v8_172 v8_173 v8_174 v8_175 v8_176 v8_177 v8_178 v8_179 v8_180 v8_181 v8_182 v8_183 v8_184 v8_185 v8_186 v8_187 v8_188 v8_189 v8_190 v8_191 v8_192 v8_193 v8_194 v8_195 v8_196 w8 r8 b8 => ?_)
      have rH8 := RH7.out.below b8 (by omega)
      have h2W : w2.heap.size ≤ W := by rw [HW.out]; exact T3.out.size
      have t8 : Turns (· = BH) w2 w8 := ⟨b8.os.trans T7.out.os, b8.tape.trans T7.out.tape, b8.output.trans T7.out.output, Nat.le_trans T7.out.size b8.size, fun k hk hn => (b8.block k (by omega)).trans (T7.out.block k hk hn)⟩
      obtain ⟨sv, hsv⟩ : ∃ sv, sv = rounds k512 (W80 bs) 80 sq := ⟨_, rfl⟩
      rw [← hsv] at r8
      have R8 := Lib.hid r8
      have RH8 := Lib.hid rH8
      have T8 := Lib.hid t8
      have HSV := Lib.hid hsv
      clear r8 b8 rH8 t8 hsv rK7 rW7 r7 b7 t7 rH7
      go_upto_block 10 with fail
      refine rb10_any BH V sq sv w8 (by omega) RH8.out R8.out _ _ _ _ _ _ _ _ _ _ _ _ _ _ _ _ _ _ _ _ _ _ _ _ _ _ _ _ _ _ _ _ _ _ _ _ _ _ _ _ _ _ _ _ _ _ _ _ _ _ _ _ _ _ _ _ _ _ _ _ _ _ _ _ _ _ _ _ _ _ _ _ _ _ _ _ _ _ _ _ _ _ _ _ _ _ _ _ _ _ _ _ _ _ _ _ _ _ _ _ _ _ _ _ _ _ _ _ _ _ _ _ _ _ _ _ _ _ _ _ _ _ _ _ _ _ _ _ _ _ _ _ _ _ _ _ _ _ _ _ _ _ _ _ _ _ _ _ _ _ _ _ _ _ _ _ _ _ _ _ _ _ _ _ _ _ _ _ _ _ _ _ _ _ _ _ _ _ _ _ _ _ _ _ _ _ _ _ _ _ _ _ _ _ _ _ _ _ _ _ _ _ _ _ _ _ _ _ _ _ _ _ _ _ _ _ _ _ _ _ _ _ _ _ _ (fun _ _ _ _ _ h => h) (fun v10_17 v10_197 v10_198 v10_199 v10_200 v10_201 v10_202 v10_203 v10_204 v10_205 v10_206 v10_207 v10_208 v10_209 w9 r9 t9 => ?_)
      have e9 : mix sq.list sv.list 8 = (blocks512 FM (q + 1)).list := by rw [blocks512, ← HSQ.out, ← HBS.out, HSV.out]; rfl
      rw [e9] at r9
      have R9 := Lib.hid r9
      have T9 := Lib.hid (T8.out.trans t9 (fun _ _ h => h))
      clear r9 t9 e9
      have ep : IntKind.i64.wrap ((p : Int) + 128) = (p : Int) + 128 := by rw [IntWalk.i64_in _ (by omega)]
      go_wp2_with fail
      exact ⟨⟨q + 1, by have := HP.out; omega, by have := HP.out; exact congrArg (Value.int .i64) (by omega), R9.out, T9.out⟩, by simp [intOf]; omega⟩
    · have hpM : p = M := by have := HP.out; omega
      have hd : ¬ (p : Int) < (M : Int) := by omega
      have hqM : q = FM.length / 128 := by rw [← HM.out]; have := HP.out; omega
      have hsha : sha512 m = outW (blocks512 FM q).list := by rw [hqM, HF.out]; rfl
      have hoks : (blocks512 FM q).Ok := blocks512_ok _ _
      obtain ⟨sq, hsq⟩ : ∃ sq, sq = blocks512 FM q := ⟨_, rfl⟩
      rw [← hsq] at R3 hsha hoks
      have rG := IRow.new w3 31 .u8 (List.replicate 64 0)
      have bG : Below w3.heap.size w3 (w3.alloc (.cells ((List.replicate 64 (0 : Int)).map (Value.int .u8)).toArray 31)) := (Below.refl _ w3).alloc (Nat.le_refl _) _
      have RG := Lib.hid rG
      have BG := Lib.hid bG
      have HSHA := Lib.hid hsha
      have HOKS := Lib.hid hoks
      clear rG bG hqM hsha hoks hsq
      go_upto_block 12 with fail
      change Code.wp _ _ _ _ (w3.alloc (.cells ((List.replicate 64 (0 : Int)).map (Value.int .u8)).toArray 31))
      obtain ⟨w4, hw4⟩ : ∃ x, x = w3.alloc (.cells ((List.replicate 64 (0 : Int)).map (Value.int .u8)).toArray 31) := ⟨_, rfl⟩
      rw [← hw4] at RG BG ⊢
      obtain ⟨G, hG⟩ : ∃ G, G = w3.heap.size := ⟨_, rfl⟩
      rw [← hG] at RG BG ⊢
      have hHG : BH < G := by have := T3.out.size; have := G2.out; omega
      have hb23 : Below B0 w2 w3 := T3.out.below_of (by have := HK0.out; have := HH0.out; have := G2.out; omega) (by intro i hi h; have := HK0.out; have := HH0.out; omega)
      have hb4 := B2.out.trans (hb23.trans (BG.out.mono (by have := HK0.out; have := HH0.out; omega)))
      have rA4 := ((RA2.out.below (B := B0 + 1) (T3.out.below_of (by have := HK0.out; have := HH0.out; have := G2.out; omega) (by intro i hi h; have := HK0.out; have := HH0.out; omega)) (by omega)).below BG.out (by have := HK0.out; have := HH0.out; omega))
      have RA4 := Lib.hid rA4
      have B4 := Lib.hid hb4
      clear hw4 hG hb23 hb4 rA4
      try dsimp only [Act.put]
      refine rb12_any BH G sq w4 HOKS.out hHG (R3.out.below BG.out hHG) RG.out _ _ _ _ _ _ _ _ _ _ _ _ _ _ _ _ _ _ _ _ _ _ _ _ _ _ _ _ _ _ _ _ _ _ _ _ _ _ _ _ _ _ _ _ _ _ _ _ _ _ _ _ _ _ _ _ _ _ _ _ _ _ _ _ _ _ _ _ _ _ _ _ _ _ _ _ _ _ _ _ _ _ _ _ _ _ _ _ _ _ _ _ _ _ _ _ _ _ _ _ _ _ _ _ _ _ _ _ _ _ _ _ _ _ _ _ _ _ _ _ _ _ _ _ _ _ _ _ _ _ _ _ _ _ _ _ _ _ _ _ _ _ _ _ _ _ _ _ _ _ _ _ _ _ _ _ _ _ _ _ _ _ _ _ _ _ _ _ _ _ _ _ _ _ _ _ _ _ _ _ _ _ _ _ _ _ _ _ _ _ _ _ _ _ _ _ _ _ _ _ _ _ _ _ _ _ _ _ _ _ _ _ _ _ _ _ _ _ _ _ _ _ _ _ _ (fun _ _ _ _ _ h => h) (fun v12_19 v12_210 v12_211 v12_212 v12_213 v12_214 v12_215 v12_216 v12_217 v12_218 v12_219 v12_220 v12_221 v12_222 v12_223 v12_224 v12_225 v12_226 w5 r5 b5 => ?_)
      rw [← HSHA.out] at r5
      have hB0G : B0 < G := by have := HK0.out; have := HH0.out; omega
      have hsz : (nums (sha512 m)).length = 64 := by rw [nums_length, sha512_length]
      have HI := Lib.hid (show (Tryd.prog.info? 31).map (·.size) = some (nums (sha512 m)).length by rw [hsz]; exact info_h64)
      have HL := Lib.hid (show (List.replicate 64 (0 : Int)).length = (nums (sha512 m)).length by rw [hsz]; rfl)
      have rA5 := RA4.out.below b5 hB0G
      have hb5 := B4.out.trans (b5.mono (by omega : B0 ≤ G))
      have R5 := Lib.hid r5
      have RA5 := Lib.hid rA5
      have HFIN := Lib.hid (setRow_irow (ys := nums (sha512 m)) rA5)
      have HBF := Lib.hid (below_setRow hb5 (Nat.le_refl _) ((nums (sha512 m)).map (Value.int .u8)).toArray)
      clear r5 b5 rA5 hb5 hsz
      go_wp2_with (first
        | (refine wpList_load_irow rfl 31 (.tmp 18) rfl (g := G) (t := 31) (k := .u8) (xs := nums (sha512 m)) rfl R5.out Tryd.underlying31 HI.out ?_)
        | (refine wpList_store_irow rfl 31 (.tmp 2) (.tmp 227) rfl (g := B0) (t := 31) (k := .u8) (xs := List.replicate 64 0) (ys := nums (sha512 m)) rfl rfl RA5.out HI.out HL.out ?_))
      refine bodyPost_ret (v := digV (sha512 m)) ?_ rfl ⟨rfl, by rw [← HB0.out]; exact HBF.out⟩
      obtain ⟨fr, hrw⟩ : ∃ fr, ((w5.setRow B0 ((nums (sha512 m)).map (Value.int .u8)).toArray)).heap[B0]? = some (.cells ((nums (sha512 m)).map (Value.int .u8)).toArray 31 fr) := ⟨_, HFIN.out⟩
      exact results_cell_row Tryd.results11 _ _ B0 31 ((nums (sha512 m)).map (Value.int .u8)).toArray fr _ rfl hrw Tryd.underlying31 rfl (by rw [List.size_toArray, List.length_map]; exact HI.out)
end Go.Proofs.YtpcopimbnbmkmaaDoor.S5

/-
  The reference's Ripemd: a block's sixteen words. Conditions: the block has 64 bytes.
-/
namespace Go.Proofs.YtpcopimbnbmkmaaDoor.Rm
open Go.RowKit

/-- A word's last bytes, the last first. -/
def accR (bs : List UInt8) (t : Nat) : Nat → Int
  | 0 => 0
  | k + 1 => accR bs t k * 256 + ((bs.getD (4 * t + (3 - k)) 0).toNat : Int)
theorem accR_four (bs : List UInt8) (t : Nat) : accR bs t 4 = wordR bs t := by
  unfold wordR be32
  simp only [accR, Nat.sub_self, Nat.add_zero, Nat.reduceSub]
  omega
theorem accR_bd (bs : List UInt8) (t : Nat) : ∀ k, k ≤ 3 → 0 ≤ accR bs t k ∧ accR bs t k < 16777216
  | 0, _ => by simp [accR]
  | 1, _ => by have h0 := (bs.getD (4 * t + (3 - 0)) 0).toNat_lt; simp only [accR]; omega
  | 2, _ => by have h0 := (bs.getD (4 * t + (3 - 0)) 0).toNat_lt; have h1 := (bs.getD (4 * t + (3 - 1)) 0).toNat_lt; simp only [accR]; omega
  | 3, _ => by have h0 := (bs.getD (4 * t + (3 - 0)) 0).toNat_lt; have h1 := (bs.getD (4 * t + (3 - 1)) 0).toNat_lt; have h2 := (bs.getD (4 * t + (3 - 2)) 0).toNat_lt; simp only [accR]; omega
  | i + 4, h => absurd h (by omega)
set_option maxRecDepth 1000000 in
set_option maxHeartbeats 6400000 in
theorem rb2_any {Q : Exit → Act → World → Prop} (W gm p M cm : Nat) (bs : List UInt8) (w4 : World) (hbl : bs.length = 64) (hpM : p + 64 ≤ M) (hM : M ≤ 100200) (hWm : gm < W) (r0 : IRow w4 W 69 .u32 (List.replicate 16 0)) (hc : ∀ (j : Nat) (u : UInt8), bs[j]? = some u → w4.cell? ⟨gm, p + j, none⟩ = some (bv u)) (u0 u1 u2 u3 u4 u5 u6 u7 u8 u9 u14 u15 u16 u17 u18 u19 u20 u21 u22 u23 u24 u25 u26 u27 u28 u29 u30 u31 u32 u33 u34 u35 u36 u37 u38 u39 u40 u41 u42 u43 u44 u45 u46 u47 u48 u49 u50 u51 u52 u53 u54 u55 u56 u57 u58 u59 u60 u61 u62 u63 u64 u65 u66 u67 u68 u69 u70 u71 u72 u73 u74 u75 u76 u77 u78 u79 u80 u81 u82 u83 u84 u85 u86 u87 u88 u89 u90 u91 u92 u93 u94 u95 u96 u97 u98 u99 u100 u101 u102 u103 u104 u105 u106 u107 u108 u109 u110 u111 u112 u113 u114 u115 u116 u117 u118 u119 u120 u121 u122 u123 u124 u125 u126 u127 u128 u129 u130 u131 u132 u133 u134 u135 u136 u137 u138 u139 u140 u141 u142 u143 u144 u145 u146 u147 u148 u149 u150 u151 u152 u153 u154 u155 u156 u157 u158 u159 u160 u161 u162 u163 u164 u165 u166 u167 u168 u169 u170 u171 u172 u173 u174 u175 u176 u177 u178 u179 u180 u181 u182 u183 u184 u185 u186 u187 u188 u189 u190 u191 u192 u193 u194 u195 u196 u197 u198 u199 u200 u201 u202 u203 u204 u205 u206 u207 : Value)
    (hPan : ∀ (c : List PanicEntry) (a : Act) (d : Tmp) (v : Value) (w : World), Q (.panic c) (a.put (some d) v) w → Q (.panic c) a w)
    (hQ : ∀ (v13 v14 v36 v37 v38 v39 v40 v41 v42 v43 v44 v45 v46 v47 v48 v49 v50 v51 v52 v53 v54 v55 v56 v57 v58 v59 v60 : Value) (w' : World), IRow w' W 69 .u32 (wordsR bs 16) → Below W w4 w' → Q .normal ⟨#[u0, u1, u2, u3, u4, u5, u6, u7, u8, u9, .slice (some ⟨gm, 0, none⟩) M cm, .int .i64 (p : Int), .pointer (some ⟨W, 0, none⟩), v13, v14, u15, u16, u17, u18, u19, u20, u21, u22, u23, u24, u25, u26, u27, u28, u29, u30, u31, u32, u33, u34, u35, v36, v37, v38, v39, v40, v41, v42, v43, v44, v45, v46, v47, v48, v49, v50, v51, v52, v53, v54, v55, v56, v57, v58, v59, v60, u61, u62, u63, u64, u65, u66, u67, u68, u69, u70, u71, u72, u73, u74, u75, u76, u77, u78, u79, u80, u81, u82, u83, u84, u85, u86, u87, u88, u89, u90, u91, u92, u93, u94, u95, u96, u97, u98, u99, u100, u101, u102, u103, u104, u105, u106, u107, u108, u109, u110, u111, u112, u113, u114, u115, u116, u117, u118, u119, u120, u121, u122, u123, u124, u125, u126, u127, u128, u129, u130, u131, u132, u133, u134, u135, u136, u137, u138, u139, u140, u141, u142, u143, u144, u145, u146, u147, u148, u149, u150, u151, u152, u153, u154, u155, u156, u157, u158, u159, u160, u161, u162, u163, u164, u165, u166, u167, u168, u169, u170, u171, u172, u173, u174, u175, u176, u177, u178, u179, u180, u181, u182, u183, u184, u185, u186, u187, u188, u189, u190, u191, u192, u193, u194, u195, u196, u197, u198, u199, u200, u201, u202, u203, u204, u205, u206, u207], []⟩ w') :
    Code.wp Tryd.prog (blkOf 2 Tryd.f13) Q ⟨#[u0, u1, u2, u3, u4, u5, u6, u7, u8, u9, .slice (some ⟨gm, 0, none⟩) M cm, .int .i64 (p : Int), .pointer (some ⟨W, 0, none⟩), .int .i64 0, u14, u15, u16, u17, u18, u19, u20, u21, u22, u23, u24, u25, u26, u27, u28, u29, u30, u31, u32, u33, u34, u35, u36, u37, u38, u39, u40, u41, u42, u43, u44, u45, u46, u47, u48, u49, u50, u51, u52, u53, u54, u55, u56, u57, u58, u59, u60, u61, u62, u63, u64, u65, u66, u67, u68, u69, u70, u71, u72, u73, u74, u75, u76, u77, u78, u79, u80, u81, u82, u83, u84, u85, u86, u87, u88, u89, u90, u91, u92, u93, u94, u95, u96, u97, u98, u99, u100, u101, u102, u103, u104, u105, u106, u107, u108, u109, u110, u111, u112, u113, u114, u115, u116, u117, u118, u119, u120, u121, u122, u123, u124, u125, u126, u127, u128, u129, u130, u131, u132, u133, u134, u135, u136, u137, u138, u139, u140, u141, u142, u143, u144, u145, u146, u147, u148, u149, u150, u151, u152, u153, u154, u155, u156, u157, u158, u159, u160, u161, u162, u163, u164, u165, u166, u167, u168, u169, u170, u171, u172, u173, u174, u175, u176, u177, u178, u179, u180, u181, u182, u183, u184, u185, u186, u187, u188, u189, u190, u191, u192, u193, u194, u195, u196, u197, u198, u199, u200, u201, u202, u203, u204, u205, u206, u207], []⟩ w4 := by
  conv => arg 2; whnf
  have HC := Lib.hid hc
  have HBL := Lib.hid hbl
  have HQ := Lib.hid hQ
  have R0 := Lib.hid r0
  clear hc hbl hQ r0
  go_wp2_with fail
  go_loopw [13] (fun v13 wt => ∃ t : Nat, t ≤ 16 ∧ v13 = .int .i64 (t : Int) ∧ IRow wt W 69 .u32 (padZ 16 (wordsR bs t)) ∧ Below W w4 wt) (fun v13 _ => 16 - (intOf v13).toNat)
  case atStart => exact ⟨0, by omega, rfl, R0.out, Below.refl _ _⟩
  case round =>
    obtain ⟨t, ht, rfl, rt, bt⟩ := hrel
    obtain ⟨w5, hw5⟩ : ∃ w5 : World, w5 = wr := ⟨_, rfl⟩
    rw [← hw5] at rt bt ⊢
    clear hw5
    by_cases h16 : t < 16
    · have hwl := wordsR_length bs t
      have h0 : (padZ 16 (wordsR bs t)).set t 0 = padZ 16 (wordsR bs t) := by
        refine set_same ?_
        have h := padZ_next (n := 16) (l := wordsR bs t) (by omega)
        rw [hwl] at h
        exact h
      have h4 : (padZ 16 (wordsR bs t)).set t (accR bs t 4) = padZ 16 (wordsR bs (t + 1)) := by
        have h := padZ_set (n := 16) (l := wordsR bs t) (z := wordR bs t) (by omega)
        rw [hwl] at h
        rw [accR_four, wordsR_succ, ← h]
      have RT := Lib.hid (show IRow w5 W 69 .u32 ((padZ 16 (wordsR bs t)).set t (accR bs t 0)) by rw [show accR bs t 0 = 0 from rfl, h0]; exact rt)
      have BT := Lib.hid bt
      have H4 := Lib.hid h4
      obtain ⟨P, hP⟩ : ∃ P, P = padZ 16 (wordsR bs t) := ⟨_, rfl⟩
      rw [← hP] at RT H4
      have hPl : P.length = 16 := by rw [hP]; exact padZ_length (by omega)
      have HPL := Lib.hid hPl
      have hd16 : decide ((t : Int) < 16) = true := decide_eq_true (by omega)
      clear rt bt h0 h4 hwl hP hPl
      go_wp2_with fail
      go_loopw [14] (fun v14 wi => ∃ (k : Nat) (q : Int), k ≤ 4 ∧ Hid (q = 3 - (k : Int)) ∧ v14 = .int .i64 q ∧ IRow wi W 69 .u32 (P.set t (accR bs t k)) ∧ Below W w4 wi) (fun v14 _ => (intOf v14 + 1).toNat)
      case atStart => exact ⟨0, 3, by omega, Lib.hid rfl, rfl, RT.out, BT.out⟩
      case round =>
        obtain ⟨k, q, hk4, hq, rfl, ri, bi⟩ := hrel
        by_cases hkl : k < 4
        · obtain ⟨i, hi⟩ : ∃ i : Nat, q = (i : Int) := ⟨q.toNat, by have := hq.out; omega⟩
          subst hi
          have hik : i = 3 - k := by have := hq.out; omega
          obtain ⟨u, hu⟩ : ∃ u, bs[4 * t + i]? = some u := ⟨_, List.getElem?_eq_getElem (by have := HBL.out; omega)⟩
          obtain ⟨kk, hkk⟩ : ∃ kk, kk = p + 4 * t + i := ⟨_, rfl⟩
          have hcu : wr.cell? ⟨gm, kk, none⟩ = some (.int .u8 (u.toNat : Int)) := by
            have h := HC.out (4 * t + i) u hu
            rw [show p + (4 * t + i) = kk by omega] at h
            exact (bi.cell (p := ⟨gm, kk, none⟩) hWm).trans h
          obtain ⟨a, ha⟩ : ∃ a, a = accR bs t k := ⟨_, rfl⟩
          have hab := accR_bd bs t k (by omega)
          rw [← ha] at hab ri
          have hcw : wr.cell? ⟨W, t, none⟩ = some (.int .u32 a) := ri.cell (by rw [List.getElem?_set, if_pos rfl, if_pos (by have := HPL.out; omega)])
          have hfw := ri.free t
          have hset := ri.set t (a * 256 + (u.toNat : Int))
          have hu256 := u.toNat_lt
          have han : accR bs t (k + 1) = a * 256 + (u.toNat : Int) := by
            show accR bs t k * 256 + ((bs.getD (4 * t + (3 - k)) 0).toNat : Int) = _
            rw [← ha, ← hik, List.getD_eq_getElem?_getD, hu]
            rfl
          rw [List.set_set, ← han] at hset
          obtain ⟨z, hz⟩ : ∃ z, z = accR bs t (k + 1) := ⟨_, rfl⟩
          rw [← hz] at hset han
          have e1 : IntKind.i64.wrap (4 * (t : Int)) = 4 * (t : Int) := by rw [IntWalk.i64_in _ (by omega)]
          have e2 : IntKind.i64.wrap ((p : Int) + 4 * (t : Int)) = (p : Int) + 4 * (t : Int) := by rw [IntWalk.i64_in _ (by omega)]
          have e3 : IntKind.i64.wrap ((p : Int) + 4 * (t : Int) + (i : Int)) = (kk : Int) := by rw [IntWalk.i64_in _ (by omega)]; omega
          have e4 : IntKind.u32.wrap (a * 256) = a * 256 := by rw [u32_wrap]; omega
          have e5 : IntKind.u32.wrap (a * 256 + (u.toNat : Int)) = z := by rw [u32_wrap, han]; omega
          have e6 : IntKind.u32.wrap (u.toNat : Int) = (u.toNat : Int) := by rw [u32_wrap]; omega
          have e7 : IntKind.i64.wrap ((i : Int) - 1) = (i : Int) - 1 := by rw [IntWalk.i64_in _ (by omega)]
          have b1 : (t : Int) < 16 := by omega
          have b2 : (kk : Int) < (M : Int) := by omega
          have b0 : (0 : Int) ≤ (i : Int) := by omega
          have HSET := Lib.hid hset
          have HZ := Lib.hid hz
          have BI := Lib.hid bi
          have HNQ := Lib.hid (show (i : Int) - 1 = 3 - ((k + 1 : Nat) : Int) by omega)
          clear hu hkk ha hset han ri bi hz hq hik
          go_wp2_with fail
          refine wp_region_held_drew (S := (fun w' => w'.cell? ⟨gm, kk, none⟩ = some (.int .u8 (u.toNat : Int)))) (by kernel_rfl) ?_ (fun hHeld => ?_)
          · exact hcu
          refine wpAnyH_take (i := 0) (oi := { dst := some 44, op := Go.Op.move (Go.Operand.tmp 13), type := 3, pos := "ref.go:130", after := #[], guard := none }) (v := ?av0) rfl (by kernel_rfl) (by kernel_rfl) (by kernel_rfl) (fun _ _ _ h => hPan _ _ _ _ _ h) (Or.inl ⟨by rfl, ?ay0⟩) (by assumption) ?ar0
          case ay0 => (intro w hSw; (try dsimp only at hSw); go_simp; try (with_reducible rfl))
          case ar0 =>
          try simp only [Act.put, List.setIfInBounds_toArray, List.set_cons_zero, List.set_cons_succ]
          refine wpAnyH_take (i := 1) (oi := { dst := some 45, op := Go.Op.move (Go.Operand.tmp 13), type := 3, pos := "ref.go:130", after := #[], guard := none }) (v := ?av1) rfl (by kernel_rfl) (by kernel_rfl) (by kernel_rfl) (fun _ _ _ h => hPan _ _ _ _ _ h) (Or.inl ⟨by rfl, ?ay1⟩) (by assumption) ?ar1
          case ay1 => (intro w hSw; (try dsimp only at hSw); go_simp; try (with_reducible rfl))
          case ar1 =>
          try simp only [Act.put, List.setIfInBounds_toArray, List.set_cons_zero, List.set_cons_succ]
          refine wpAnyH_take (i := 2) (oi := { dst := some 46, op := Go.Op.indexAddr 69 (Go.Operand.tmp 12) (Go.Operand.tmp 45), type := 0, pos := "ref.go:130", after := #[{ on := 1, ground := Go.Ground.data }], guard := none }) (v := ?av2) rfl (by kernel_rfl) (by kernel_rfl) (by kernel_rfl) (fun _ _ _ h => hPan _ _ _ _ _ h) (Or.inl ⟨by rfl, ?ay2⟩) (by assumption) ?ar2
          case ay2 => (intro w hSw; (try dsimp only at hSw); go_simp; try (with_reducible rfl))
          case ar2 =>
          try simp only [Act.put, List.setIfInBounds_toArray, List.set_cons_zero, List.set_cons_succ]
          refine wpAnyH_take (i := 5) (oi := { dst := some 49, op := Go.Op.move (Go.Operand.tmp 10), type := 22, pos := "ref.go:130", after := #[], guard := none }) (v := ?av5) rfl (by kernel_rfl) (by kernel_rfl) (by kernel_rfl) (fun _ _ _ h => hPan _ _ _ _ _ h) (Or.inl ⟨by rfl, ?ay5⟩) (by assumption) ?ar5
          case ay5 => (intro w hSw; (try dsimp only at hSw); go_simp; try (with_reducible rfl))
          case ar5 =>
          try simp only [Act.put, List.setIfInBounds_toArray, List.set_cons_zero, List.set_cons_succ]
          refine wpAnyH_take (i := 6) (oi := { dst := some 50, op := Go.Op.move (Go.Operand.tmp 11), type := 3, pos := "ref.go:130", after := #[], guard := none }) (v := ?av6) rfl (by kernel_rfl) (by kernel_rfl) (by kernel_rfl) (fun _ _ _ h => hPan _ _ _ _ _ h) (Or.inl ⟨by rfl, ?ay6⟩) (by assumption) ?ar6
          case ay6 => (intro w hSw; (try dsimp only at hSw); go_simp; try (with_reducible rfl))
          case ar6 =>
          try simp only [Act.put, List.setIfInBounds_toArray, List.set_cons_zero, List.set_cons_succ]
          refine wpAnyH_take (i := 7) (oi := { dst := some 51, op := Go.Op.move (Go.Operand.tmp 13), type := 3, pos := "ref.go:130", after := #[], guard := none }) (v := ?av7) rfl (by kernel_rfl) (by kernel_rfl) (by kernel_rfl) (fun _ _ _ h => hPan _ _ _ _ _ h) (Or.inl ⟨by rfl, ?ay7⟩) (by assumption) ?ar7
          case ay7 => (intro w hSw; (try dsimp only at hSw); go_simp; try (with_reducible rfl))
          case ar7 =>
          try simp only [Act.put, List.setIfInBounds_toArray, List.set_cons_zero, List.set_cons_succ]
          refine wpAnyH_take (i := 8) (oi := { dst := some 52, op := Go.Op.binOp Go.BinOp.mul 3 (Go.Operand.const (Go.Value.int Go.IntKind.i64 4)) (Go.Operand.tmp 51) 3, type := 3, pos := "ref.go:130", after := #[{ on := 7, ground := Go.Ground.data }], guard := none }) (v := ?av8) rfl (by kernel_rfl) (by kernel_rfl) (by kernel_rfl) (fun _ _ _ h => hPan _ _ _ _ _ h) (Or.inl ⟨by rfl, ?ay8⟩) (by assumption) ?ar8
          case ay8 => (intro w hSw; (try dsimp only at hSw); go_simp; try (with_reducible rfl))
          case ar8 =>
          try simp only [Act.put, List.setIfInBounds_toArray, List.set_cons_zero, List.set_cons_succ]
          refine wpAnyH_take (i := 9) (oi := { dst := some 53, op := Go.Op.binOp Go.BinOp.add 3 (Go.Operand.tmp 50) (Go.Operand.tmp 52) 3, type := 3, pos := "ref.go:130", after := #[{ on := 6, ground := Go.Ground.data }, { on := 8, ground := Go.Ground.data }], guard := none }) (v := ?av9) rfl (by kernel_rfl) (by kernel_rfl) (by kernel_rfl) (fun _ _ _ h => hPan _ _ _ _ _ h) (Or.inl ⟨by rfl, ?ay9⟩) (by assumption) ?ar9
          case ay9 => (intro w hSw; (try dsimp only at hSw); go_simp; try (with_reducible rfl))
          case ar9 =>
          try simp only [Act.put, List.setIfInBounds_toArray, List.set_cons_zero, List.set_cons_succ]
          refine wpAnyH_take (i := 10) (oi := { dst := some 54, op := Go.Op.move (Go.Operand.tmp 14), type := 3, pos := "ref.go:130", after := #[], guard := none }) (v := ?av10) rfl (by kernel_rfl) (by kernel_rfl) (by kernel_rfl) (fun _ _ _ h => hPan _ _ _ _ _ h) (Or.inl ⟨by rfl, ?ay10⟩) (by assumption) ?ar10
          case ay10 => (intro w hSw; (try dsimp only at hSw); go_simp; try (with_reducible rfl))
          case ar10 =>
          try simp only [Act.put, List.setIfInBounds_toArray, List.set_cons_zero, List.set_cons_succ]
          refine wpAnyH_take (i := 11) (oi := { dst := some 55, op := Go.Op.binOp Go.BinOp.add 3 (Go.Operand.tmp 53) (Go.Operand.tmp 54) 3, type := 3, pos := "ref.go:130", after := #[{ on := 9, ground := Go.Ground.data }, { on := 10, ground := Go.Ground.data }], guard := none }) (v := ?av11) rfl (by kernel_rfl) (by kernel_rfl) (by kernel_rfl) (fun _ _ _ h => hPan _ _ _ _ _ h) (Or.inl ⟨by rfl, ?ay11⟩) (by assumption) ?ar11
          case ay11 => (intro w hSw; (try dsimp only at hSw); go_simp; try (with_reducible rfl))
          case ar11 =>
          try simp only [Act.put, List.setIfInBounds_toArray, List.set_cons_zero, List.set_cons_succ]
          refine wpAnyH_take (i := 12) (oi := { dst := some 56, op := Go.Op.indexAddr 22 (Go.Operand.tmp 49) (Go.Operand.tmp 55), type := 0, pos := "ref.go:130", after := #[{ on := 5, ground := Go.Ground.data }, { on := 11, ground := Go.Ground.data }], guard := none }) (v := ?av12) rfl (by kernel_rfl) (by kernel_rfl) (by kernel_rfl) (fun _ _ _ h => hPan _ _ _ _ _ h) (Or.inl ⟨by rfl, ?ay12⟩) (by assumption) ?ar12
          case ay12 => (intro w hSw; (try dsimp only at hSw); go_simp; try (with_reducible rfl))
          case ar12 =>
          try simp only [Act.put, List.setIfInBounds_toArray, List.set_cons_zero, List.set_cons_succ]
          refine wpAnyH_take (i := 13) (oi := { dst := some 57, op := Go.Op.load 5 (Go.Operand.tmp 56), type := 5, pos := "ref.go:130", after := #[{ on := 12, ground := Go.Ground.data }], guard := none }) (v := ?av13) rfl (by kernel_rfl) (by kernel_rfl) (by kernel_rfl) (fun _ _ _ h => hPan _ _ _ _ _ h) (Or.inl ⟨by rfl, ?ay13⟩) (by assumption) ?ar13
          case ay13 => (intro w hSw; (try dsimp only at hSw); go_simp; try (with_reducible rfl))
          case ar13 =>
          try simp only [Act.put, List.setIfInBounds_toArray, List.set_cons_zero, List.set_cons_succ]
          refine wpAnyH_take (i := 14) (oi := { dst := some 58, op := Go.Op.convert 5 39 (Go.Operand.tmp 57), type := 39, pos := "ref.go:130", after := #[{ on := 13, ground := Go.Ground.data }], guard := none }) (v := ?av14) rfl (by kernel_rfl) (by kernel_rfl) (by kernel_rfl) (fun _ _ _ h => hPan _ _ _ _ _ h) (Or.inl ⟨by rfl, ?ay14⟩) (by assumption) ?ar14
          case ay14 => (intro w hSw; (try dsimp only at hSw); go_simp; try (with_reducible rfl))
          case ar14 =>
          try simp only [Act.put, List.setIfInBounds_toArray, List.set_cons_zero, List.set_cons_succ]
          refine wpAnyH_ready (rs := [3]) (by kernel_rfl) (by simp) ?_
          refine AllReadyH.cons (o := { dst := some 47, op := Go.Op.load 39 (Go.Operand.tmp 46), type := 39, pos := "ref.go:130", after := #[{ on := 2, ground := Go.Ground.data }], guard := none }) rfl (fun K hK => ?_) (AllReadyH.nil)
          go_simp
          refine hK.out _ _ ?_ (fun hHeld => ?_)
          · exact hHeld
          clear hK K
          try simp only [Act.put, List.setIfInBounds_toArray, List.set_cons_zero, List.set_cons_succ]
          refine wpAnyH_take (i := 4) (oi := { dst := some 48, op := Go.Op.binOp Go.BinOp.mul 39 (Go.Operand.tmp 47) (Go.Operand.const (Go.Value.int Go.IntKind.u32 256)) 39, type := 39, pos := "ref.go:130", after := #[{ on := 3, ground := Go.Ground.data }], guard := none }) (v := ?a_3v4) rfl (by kernel_rfl) (by kernel_rfl) (by kernel_rfl) (fun _ _ _ h => hPan _ _ _ _ _ h) (Or.inl ⟨by rfl, ?a_3y4⟩) (by assumption) ?a_3r4
          case a_3y4 => (intro w hSw; (try dsimp only at hSw); go_simp; try (with_reducible rfl))
          case a_3r4 =>
          try simp only [Act.put, List.setIfInBounds_toArray, List.set_cons_zero, List.set_cons_succ]
          refine wpAnyH_take (i := 15) (oi := { dst := some 59, op := Go.Op.binOp Go.BinOp.add 39 (Go.Operand.tmp 48) (Go.Operand.tmp 58) 39, type := 39, pos := "ref.go:130", after := #[{ on := 4, ground := Go.Ground.data }, { on := 14, ground := Go.Ground.data }], guard := none }) (v := ?a_3v15) rfl (by kernel_rfl) (by kernel_rfl) (by kernel_rfl) (fun _ _ _ h => hPan _ _ _ _ _ h) (Or.inl ⟨by rfl, ?a_3y15⟩) (by assumption) ?a_3r15
          case a_3y15 => (intro w hSw; (try dsimp only at hSw); go_simp; try (with_reducible rfl))
          case a_3r15 =>
          try simp only [Act.put, List.setIfInBounds_toArray, List.set_cons_zero, List.set_cons_succ]
          refine wpAnyH_take (i := 16) (oi := { dst := some 60, op := Go.Op.indexAddr 69 (Go.Operand.tmp 12) (Go.Operand.tmp 44), type := 0, pos := "ref.go:130", after := #[{ on := 0, ground := Go.Ground.data }, { on := 0, ground := Go.Ground.phase }, { on := 1, ground := Go.Ground.phase }, { on := 2, ground := Go.Ground.phase }, { on := 3, ground := Go.Ground.phase }, { on := 4, ground := Go.Ground.phase }, { on := 5, ground := Go.Ground.phase }, { on := 6, ground := Go.Ground.phase }, { on := 7, ground := Go.Ground.phase }, { on := 8, ground := Go.Ground.phase }, { on := 9, ground := Go.Ground.phase }, { on := 10, ground := Go.Ground.phase }, { on := 11, ground := Go.Ground.phase }, { on := 12, ground := Go.Ground.phase }, { on := 13, ground := Go.Ground.phase }, { on := 14, ground := Go.Ground.phase }, { on := 15, ground := Go.Ground.phase }], guard := none }) (v := ?a_3v16) rfl (by kernel_rfl) (by kernel_rfl) (by kernel_rfl) (fun _ _ _ h => hPan _ _ _ _ _ h) (Or.inl ⟨by rfl, ?a_3y16⟩) (by assumption) ?a_3r16
          case a_3y16 => (intro w hSw; (try dsimp only at hSw); go_simp; try (with_reducible rfl))
          case a_3r16 =>
          try simp only [Act.put, List.setIfInBounds_toArray, List.set_cons_zero, List.set_cons_succ]
          refine wpAnyH_ready (rs := [17]) (by kernel_rfl) (by simp) ?_
          refine AllReadyH.cons (o := { dst := none, op := Go.Op.store 39 (Go.Operand.tmp 60) (Go.Operand.tmp 59), type := 0, pos := "ref.go:130", after := #[{ on := 16, ground := Go.Ground.data }, { on := 15, ground := Go.Ground.data }, { on := 0, ground := Go.Ground.phase }, { on := 1, ground := Go.Ground.phase }, { on := 2, ground := Go.Ground.phase }, { on := 3, ground := Go.Ground.phase }, { on := 4, ground := Go.Ground.phase }, { on := 5, ground := Go.Ground.phase }, { on := 6, ground := Go.Ground.phase }, { on := 7, ground := Go.Ground.phase }, { on := 8, ground := Go.Ground.phase }, { on := 9, ground := Go.Ground.phase }, { on := 10, ground := Go.Ground.phase }, { on := 11, ground := Go.Ground.phase }, { on := 12, ground := Go.Ground.phase }, { on := 13, ground := Go.Ground.phase }, { on := 14, ground := Go.Ground.phase }, { on := 15, ground := Go.Ground.phase }], guard := none }) rfl (fun K hK => ?_) (AllReadyH.nil)
          go_simp
          refine hK.out _ _ ?_ (fun hHeld => ?_)
          · exact (World.cell?_setCell_far wr.drew _ _ _ (by show W ≠ gm; omega)).trans hcu
          clear hK K
          try simp only [Act.put]
          refine wpAnyH_done (by kernel_rfl) ?_ _
          go_wp2_with fail
          have HS2 := HSET.out
          have HB2 := (BI.out.setCell (p := ⟨W, t, none⟩) (Nat.le_refl _) (.int .u32 z)).drew
          exact ⟨⟨k + 1, (i : Int) - 1, by omega, HNQ, rfl, by rw [← HZ.out]; exact HS2, HB2⟩, by simp [intOf] <;> omega⟩
        · obtain rfl : k = 4 := by omega
          have hq1 : q = -1 := by have := hq.out; omega
          subst hq1
          rw [H4.out] at ri
          have RI := Lib.hid ri
          have BI := Lib.hid bi
          clear ri bi hkl hq
          go_wp2_with fail
          exact ⟨⟨t + 1, by omega, by go_num, RI.out, BI.out⟩, by simp [intOf]; omega⟩
    · obtain rfl : t = 16 := by omega
      have e16 : ((16 : Nat) : Int) = 16 := rfl
      rw [e16]
      rw [padZ_full (wordsR_length bs 16)] at rt
      have RT := Lib.hid rt
      have BT := Lib.hid bt
      clear rt bt e16 h16
      go_wp2_with fail
      exact HQ.out _ _ _ _ _ _ _ _ _ _ _ _ _ _ _ _ _ _ _ _ _ _ _ _ _ _ _ _ RT.out BT.out
end Go.Proofs.YtpcopimbnbmkmaaDoor.Rm
