/-
  Texts joined: Fill, RSumP, S5RSumP. Conditions: those of each.
-/
import Derived.Test.YtfkpdbmgiefnfaaDoorP19
import Derived.Deep.CutBlock
import Derived.Test.YtfkpdbmgiefnfaaDoorP9
/-
  The reference's fill: what closes a message. Conditions: sizes within the reach.
-/
namespace Go.Proofs.YtfkpdbmgiefnfaaDoor
open Go.RowKit

theorem low_split (m : Int) (k : Nat) (hk : 0 < k) : low m k = b8 m :: low (m / 256) (k - 1) := by
  obtain ⟨k, rfl⟩ : ∃ j, k = j + 1 := ⟨k - 1, by omega⟩
  rfl
theorem low_step {n m : Int} {k : Nat} {zs : List UInt8} (hlt : zs.length < k) (h : low n k = zs ++ low m (k - zs.length)) : low n k = (zs ++ [b8 m]) ++ low (m / 256) (k - (zs ++ [b8 m]).length) := by
  rw [h, low_split m _ (by omega), List.length_append]
  simp
  congr 1
/-- How many zeros. -/
def zeroG (n sz ln : Nat) : Nat := (2 * sz - ln - (n + 1) % sz) % sz
def fillG (m : List UInt8) (sz ln : Nat) (lowest : Bool) : List UInt8 := m ++ [128] ++ List.replicate (zeroG m.length sz ln) 0 ++ if lowest then low ((8 * m.length : Nat) : Int) ln else (low ((8 * m.length : Nat) : Int) ln).reverse

set_option maxRecDepth 100000 in
set_option maxHeartbeats 3200000 in
theorem fill256_any (B : Nat) (x : Value) (m : List UInt8) (w : World) (hx : Byt w B x m) (hB : B ≤ w.heap.size) (hl : m.length < 281474976710656) (hl2 : m.length + 400 ≤ 140737488355328) :
    Calls Tryd.prog 48 #[x, .int .i64 64, .int .i64 8, .bool false] w fun e w' => ∃ v, e = .returned v ∧ OwnB w' w.heap.size v (fillG m 64 8 false) ∧ Below w.heap.size w w' := by
  obtain ⟨i0, hi, hz0, hz1, hz2⟩ := info_parts info_u8
  obtain ⟨A, c, rfl⟩ := hx.form
  have hr1 : Byt (w.alloc (.cells #[] 5)) B (.slice A m.length c) m := hx.below ((Below.refl _ w).alloc hB _)
  have hown : (w.alloc (.cells #[] 5)).ownsRow w.heap.size 5 1 (.slice (some ⟨w.heap.size, 0, none⟩) 0 0) 0 [] :=
    World.ownsRow_made w #[] 0 (Nat.le_refl _) (by unfold maxLen; omega) rfl
  obtain ⟨Z, hZ⟩ : ∃ Z, Z = zeroG m.length 64 8 := ⟨_, rfl⟩
  have hz64 : Z < 64 := by rw [hZ]; unfold zeroG; omega
  have hzz : (m.length + 1 + Z) % 64 = 56 := by rw [hZ]; unfold zeroG; omega
  have hzn : ∀ k, k < Z → (m.length + 1 + k) % 64 ≠ 56 := fun k hk => by rw [hZ] at hk; unfold zeroG at hk; omega
  have HZ := Lib.hid hZ
  have HZZ := Lib.hid hzz
  have HZN := Lib.hid hzn
  have HX := Lib.hid hx
  clear hZ hzz hzn hx
  go_enter Tryd.func48, Tryd.ntmps48
  go_upto_region 2 with (at_builtin; refine wpList_append_bytes rfl (.tmp 14) (.tmp 15) 22 rfl w.heap.size 5 i0 slice_u8 hi hz0 hz1 hz2 _ 0 [] rfl hown B _ m rfl hr1 (by omega) (by simp) ?_; intro v1 w1 hown1 hg1 hat1; obtain ⟨A1, c1, rfl⟩ := own_form hown1)
  rw [Nat.zero_add] at *
  have hb1 : Below w.heap.size w w1 := ((Below.refl _ w).alloc (Nat.le_refl _) _).grown hg1 (by simp) (fun k hk => by cases hk; exact Nat.le_refl _)
  have how1 : w1.ownsRow w.heap.size 5 1 (.slice A1 m.length c1) m.length (m.map bv) := by simpa using hown1
  have H1 := Lib.hid how1
  have HB1 := Lib.hid hb1
  clear hown1 hg1 hat1 hb1 hown hr1 how1
  have hmade : Byt (w1.alloc (.cells #[.int .u8 128] 5)) (w1.heap.size + 1) (.slice (some ⟨w1.heap.size, 0, none⟩) 1 1) [128] := Byt.made w1 _ [_] [128] rfl (by unfold maxLen; simp)
  have HM := Lib.hid hmade
  clear hmade
  go_upto_block 0 with (at_builtin; refine wpList_append_bytes rfl (.tmp 17) (.tmp 18) 22 rfl w.heap.size 5 i0 slice_u8 hi hz0 hz1 hz2 _ m.length (m.map bv) rfl (H1.out.alloc _) (w1.heap.size + 1) _ [128] rfl HM.out (by simp; omega) (by have := HB1.out.size; simp; omega) ?_; intro v2 w2 hown2 hg2 hat2; obtain ⟨A2, c2, rfl⟩ := own_form hown2)
  have hb2 : Below w.heap.size w w2 := (HB1.out.alloc HB1.out.size _).grown hg2 (by have := HB1.out.size; simp; omega) (fun j hj => (H1.out.lt j hj).1)
  have how2 : OwnB w2 w.heap.size (.slice A2 (m.length + [(128 : UInt8)].length) c2) (m ++ [128] ++ List.replicate 0 0) := by
    unfold OwnB
    simpa using hown2
  have H2 := Lib.hid how2
  have HB2 := Lib.hid hb2
  clear hown2 hg2 hat2 hb2 how2 HM H1
  go_cut [9] (fun v wx => OwnB wx w.heap.size v (m ++ [128] ++ List.replicate Z 0) ∧ Below w.heap.size w wx)
  case first =>
    go_wp2_with fail
    go_loopw [9] (fun v wr => ∃ k : Nat, k ≤ Z ∧ OwnB wr w.heap.size v (m ++ [128] ++ List.replicate k 0) ∧ Below w.heap.size w wr) (fun v _ => Z + m.length + 2 - slen v)
    case atStart => exact ⟨0, by omega, H2.out, HB2.out⟩
    case round =>
      obtain ⟨k, hk, hown, hbel⟩ := hrel
      obtain ⟨ys, hys⟩ : ∃ ys, ys = m ++ [128] ++ List.replicate k 0 := ⟨_, rfl⟩
      have hyl : ys.length = m.length + 1 + k := by rw [hys]; simp; omega
      rw [← hys] at hown
      obtain ⟨A3, c3, rfl⟩ := hown.form
      obtain ⟨r, hr⟩ : ∃ r, r = ys.length % 64 := ⟨_, rfl⟩
      have er : (ys.length : Int) % 64 = (r : Int) := by omega
      have HR := Lib.hid hr
      have HY := Lib.hid hys
      have HYL := Lib.hid hyl
      clear hr hys hyl
      by_cases hlt : k < Z
      · have hrn : ((r : Int) != 56) = true := by have := HZN.out k hlt; have := HR.out; have := HYL.out; simp; omega
        have hmade : Byt (wr.alloc (.cells #[.int .u8 0] 5)) (wr.heap.size + 1) (.slice (some ⟨wr.heap.size, 0, none⟩) 1 1) [0] := Byt.made wr _ [_] [0] rfl (by unfold maxLen; simp)
        have HM := Lib.hid hmade
        have HO := Lib.hid (show wr.ownsRow w.heap.size 5 1 (.slice A3 ys.length c3) ys.length (ys.map bv) from hown)
        clear hmade hown
        go_wp2_with (at_builtin; refine wpList_append_bytes rfl (.tmp 28) (.tmp 29) 22 rfl w.heap.size 5 i0 slice_u8 hi hz0 hz1 hz2 _ ys.length (ys.map bv) rfl (HO.out.alloc _) (wr.heap.size + 1) _ [0] rfl HM.out (by have := HYL.out; simp; omega) (by have := hbel.size; simp; omega) ?_; intro v4 w4 hown4 hg4 hat4; obtain ⟨A4, c4, rfl⟩ := own_form hown4)
        have hb4 : Below w.heap.size w w4 := (hbel.alloc hbel.size _).grown hg4 (by have := hbel.size; simp; omega) (fun j hj => (HO.out.lt j hj).1)
        refine ⟨⟨k + 1, by omega, ?_, hb4⟩, by have := HYL.out; simp only [slen]; omega⟩
        have e : m ++ [128] ++ List.replicate (k + 1) 0 = ys ++ [(0 : UInt8)] := by rw [HY.out, List.replicate_succ', ← List.append_assoc]
        rw [e]
        unfold OwnB
        rw [List.length_append, List.map_append]
        exact hown4
      · obtain rfl : k = Z := by omega
        have hrn : ((r : Int) != 56) = false := by have := HZZ.out; have := HR.out; have := HYL.out; simp; omega
        rw [HY.out] at hown
        have hown' : OwnB wr w.heap.size (.slice A3 ys.length c3) (m ++ [128] ++ List.replicate k 0) := by rw [HY.out]; exact hown
        have HO := Lib.hid hown'
        have HBE := Lib.hid hbel
        clear hown hown' hbel
        go_wp2_with fail
        go_meet
        exact ⟨HO.out, HBE.out⟩
  case rest =>
    obtain ⟨hown, hbel⟩ := hcut
    obtain ⟨pre, hpre⟩ : ∃ pre, pre = m ++ [128] ++ List.replicate Z 0 := ⟨_, rfl⟩
    have hpl : pre.length = m.length + 1 + Z := by rw [hpre]; simp; omega
    rw [← hpre] at hown
    obtain ⟨A3, c3, rfl⟩ := hown.form
    obtain ⟨N, hN⟩ : ∃ N : Nat, N = 8 * m.length := ⟨_, rfl⟩
    have eN : (m.length : Int) * 8 = (N : Int) := by omega
    have HO := Lib.hid hown
    have HBE := Lib.hid hbel
    have HPL := Lib.hid hpl
    have HPRE := Lib.hid hpre
    have HN := Lib.hid hN
    obtain ⟨D, hD⟩ : ∃ D, D = wc.heap.size := ⟨_, rfl⟩
    have HD := Lib.hid hD
    have HZV := HZ
    clear hown hbel hpl hpre hN hD HZ HZZ HZN H2 HB2 HB1
    go_upto_block 2 with fail
    go_cut [9, 11] (fun v9 v11 wx => v9 = .slice A3 pre.length c3 ∧ OwnB wx D v11 (low (N : Int) 8) ∧ Below D wc wx)
    case first =>
      go_wp2_with fail
      go_loopw [10, 11, 12] (fun xv v iv wr => ∃ (q : Int) (zs : List UInt8), zs.length ≤ 8 ∧ iv = .int .i64 (zs.length : Int) ∧ xv = .int .u64 q ∧ 0 ≤ q ∧ q < 18446744073709551616 ∧ Hid (low (N : Int) 8 = zs ++ low q (8 - zs.length)) ∧
          OwnB wr D v zs ∧ Below D wc wr) (fun _ _ iv _ => 8 - (intOf iv).toNat)
      case atStart => exact ⟨N, [], by simp, rfl, rfl, by omega, by have := HN.out; omega, Lib.hid rfl, OwnB.nil _ _, by rw [HD.out]; exact Below.refl _ _⟩
      case round =>
        obtain ⟨q, zs, hz, rfl, rfl, hm0, hm1, hlow, hown, hbel⟩ := hrel
        obtain ⟨A4, c4, rfl⟩ := hown.form
        by_cases hlt : zs.length < 8
        · have hmade : Byt (wr.alloc (.cells #[.int .u8 (q % 256)] 5)) (wr.heap.size + 1) (.slice (some ⟨wr.heap.size, 0, none⟩) 1 1) [b8 q] := Byt.made wr _ [_] [b8 q] (by simp [bv_b8]) (by unfold maxLen; simp)
          have hsz : D ≤ wr.heap.size := by have := hbel.size; have := HD.out; omega
          have HO2 := Lib.hid (show wr.ownsRow D 5 1 (.slice A4 zs.length c4) zs.length (zs.map bv) from hown)
          have HM := Lib.hid hmade
          clear hmade hown
          go_wp2_with (at_builtin; refine wpList_append_bytes rfl (.tmp 40) (.tmp 44) 22 rfl D 5 i0 slice_u8 hi hz0 hz1 hz2 _ zs.length (zs.map bv) rfl (HO2.out.alloc _) (wr.heap.size + 1) _ [b8 q] rfl HM.out (by simp; omega) (by simp; omega) ?_; intro v5 w5 hown5 hg5 hat5; obtain ⟨A5, c5, rfl⟩ := own_form hown5)
          have hb5 : Below D wc w5 := (hbel.alloc hsz _).grown hg5 (by simp; omega) (fun j hj => (HO2.out.lt j hj).1)
          have hstep := low_step hlt hlow.out
          refine ⟨⟨q / 256, zs ++ [b8 q], by simp; omega, by simp, rfl, by omega, by omega, Lib.hid hstep, ?_, hb5⟩, by simp [intOf]; omega⟩
          unfold OwnB
          rw [List.length_append, List.map_append]
          exact hown5
        · have hzk : zs.length = 8 := by omega
          have hlz : low (N : Int) 8 = zs := by
            have h := hlow.out
            rw [hzk, Nat.sub_self] at h
            simpa [low] using h
          have HO2 := Lib.hid hown
          have HLZ := Lib.hid hlz
          have HBE2 := Lib.hid hbel
          clear hown hlz hbel hlow hzk
          go_wp2_with fail
          go_meet
          exact ⟨rfl, by rw [HLZ.out]; exact HO2.out, HBE2.out⟩
    case rest =>
      obtain ⟨rfl, hownL, hbelL⟩ := hcut
      obtain ⟨lb, hlb⟩ : ∃ lb, lb = low (N : Int) 8 := ⟨_, rfl⟩
      have hlbl : lb.length = 8 := by rw [hlb, low_length]
      rw [← hlb] at hownL
      obtain ⟨gl, cl, rfl, hgD, hgs, hcl⟩ := hownL.block (by omega)
      have hcap : cl ≤ 9223372036854775807 := by
        have h := hownL.byt
        obtain ⟨_, c', e, _, h2, _⟩ := h
        injection e with _ _ e3
        subst e3
        unfold maxLen at h2
        exact h2
      have hcell : ∀ (j : Nat) (u : UInt8), lb[j]? = some u → wc.cell? ⟨gl, j, none⟩ = some (bv u) := fun j u hu => hownL.cell hu
      have hpre0 : OwnB wc w.heap.size (.slice A3 pre.length c3) (pre ++ (lb.reverse).take 0) := by
        rw [List.take_zero, List.append_nil]
        exact own_turns (S := fun k => D ≤ k) HO.out ⟨hbelL.os, hbelL.tape, hbelL.output, hbelL.size, fun k hk hn => hbelL.block k (by omega)⟩ (fun k hk => by have := (HO.out.lt k hk).2; have := HD.out; omega)
      have hneq : (Value.slice A3 pre.length c3).ownBlock ≠ some gl := fun h => by have := (HO.out.lt gl h).2; have := HD.out; omega
      have hbelW : Below w.heap.size w wc := HBE.out.trans (hbelL.mono (by have := HBE.out.size; have := HD.out; omega))
      have HLB := Lib.hid hlb
      have HLBL := Lib.hid hlbl
      rw [hlbl]
      have HP0 := Lib.hid hpre0
      have HNQ := Lib.hid hneq
      have HC0 := Lib.hid hcell
      have HBW := Lib.hid hbelW
      obtain ⟨wL, hwL⟩ : ∃ wL : World, wL = wc := ⟨_, rfl⟩
      clear hlb hlbl hownL hbelL hpre0 hneq hcell hbelW HO HBE
      go_wp2_with fail
      go_loopw [9, 13] (fun v iv wr => ∃ i : Nat, i ≤ 8 ∧ iv = .int .i64 (i : Int) ∧ OwnB wr w.heap.size v (pre ++ (lb.reverse).take i) ∧ v.ownBlock ≠ some gl ∧ gl < wr.heap.size ∧ Hid (∀ (j : Nat) (u : UInt8), lb[j]? = some u → wr.cell? ⟨gl, j, none⟩ = some (bv u)) ∧ Below w.heap.size w wr) (fun _ iv _ => 8 - (intOf iv).toNat)
      case atStart => exact ⟨0, by omega, rfl, HP0.out, HNQ.out, hgs, HC0, HBW.out⟩
      case round =>
        obtain ⟨i, hi2, rfl, hown, hne, hgr, hcr, hbel⟩ := hrel
        obtain ⟨ys, hys⟩ : ∃ ys, ys = pre ++ (lb.reverse).take i := ⟨_, rfl⟩
        have hyl : ys.length = pre.length + i := by rw [hys, List.length_append, List.length_take]; have := HLBL.out; simp; omega
        rw [← hys] at hown
        obtain ⟨A4, c4, rfl⟩ := hown.form
        by_cases hlt : i < 8
        · obtain ⟨p, hp⟩ : ∃ p, p = 8 - 1 - i := ⟨_, rfl⟩
          have ep : 8 - 1 - (i : Int) = (p : Int) := by omega
          have hpl2 : (p : Int) < 8 := by omega
          obtain ⟨u, hu⟩ : ∃ u, lb[p]? = some u := ⟨_, List.getElem?_eq_getElem (by have := HLBL.out; omega)⟩
          have hcu : wr.cell? ⟨gl, p, none⟩ = some (.int .u8 (u.toNat : Int)) := hcr.out p u hu
          have hfu : (lb.reverse)[i]? = some u := by
            rw [List.getElem?_reverse (by have := HLBL.out; omega), HLBL.out, ← hp]; exact hu
          have hmade : Byt (wr.alloc (.cells #[.int .u8 (u.toNat : Int)] 5)) (wr.heap.size + 1) (.slice (some ⟨wr.heap.size, 0, none⟩) 1 1) [u] := Byt.made wr _ [_] [u] rfl (by unfold maxLen; simp)
          have HO2 := Lib.hid (show wr.ownsRow w.heap.size 5 1 (.slice A4 ys.length c4) ys.length (ys.map bv) from hown)
          have HM := Lib.hid hmade
          have HY := Lib.hid hys
          have HYL := Lib.hid hyl
          have HFU := Lib.hid hfu
          
          
          rw [show p = 7 - i from hp] at hcu
          clear hmade hown hys hyl hfu hu ep hpl2 hp
          go_wp2_with (at_builtin; refine wpList_append_bytes rfl (.tmp 61) (.tmp 69) 22 rfl w.heap.size 5 i0 slice_u8 hi hz0 hz1 hz2 _ ys.length (ys.map bv) rfl (HO2.out.alloc _) (wr.heap.size + 1) _ [u] rfl HM.out (by have := HYL.out; have := HPL.out; simp; omega) (by have := hbel.size; simp; omega) ?_; intro v5 w5 hown5 hg5 hat5; obtain ⟨A5, c5, rfl⟩ := own_form hown5)
          have hb5 : Below w.heap.size w w5 := (hbel.alloc hbel.size _).grown hg5 (by have := hbel.size; simp; omega) (fun j hj => (HO2.out.lt j hj).1)
          refine ⟨⟨i + 1, by omega, by go_num, ?_, ?_, ?_, Lib.hid ?_, hb5⟩, by simp [intOf]; omega⟩
          · have e : pre ++ (lb.reverse).take (i + 1) = ys ++ [u] := by rw [HY.out, List.take_add_one, HFU.out, List.append_assoc]; rfl
            rw [e]
            unfold OwnB
            rw [List.length_append, List.map_append]
            exact hown5
          · show (Value.slice A5 (ys.length + [u].length) c5).ownBlock ≠ some gl
            rcases hat5 with h | h
            · rw [h]; exact hne
            · rw [h]; intro h2; injection h2 with h2; simp at h2; omega
          · have := hg5.size; simp at this; omega
          · intro j u2 hu2
            refine (World.cell?_of_block (w := wr) (a := ⟨gl, j, none⟩) ?_).trans (hcr.out j u2 hu2)
            have h1 := hg5.block gl (by simp; omega) (fun h => hne h.symm)
            exact h1.trans (Below.heap_alloc _ _ _ hgr)
        · have hin : (lb.reverse).take i = lb.reverse := List.take_of_length_le (by have := HLBL.out; simp; omega)
          have e : ys = fillG m 64 8 false := by
            rw [hys, hin, HPRE.out, HLB.out, HN.out, HZV.out]
            unfold fillG
            simp
          have HE := Lib.hid e
          have HO2 := Lib.hid hown
          have HBE2 := Lib.hid hbel
          clear e hown hbel hys hin
          go_wp2_with fail
          go_ret
          exact ⟨_, rfl, by rw [← HE.out]; exact HO2.out, HBE2.out⟩
end Go.Proofs.YtfkpdbmgiefnfaaDoor

/-
  The reference's Sum256, on plain numbers. Conditions: none (plain mathematics).
-/
namespace Go.Proofs.YtfkpdbmgiefnfaaDoor
open Go.RowKit

theorem b8_lenB (n : Nat) : (low ((8 * n : Nat) : Int) 8).reverse = lenB n := by
  have h : ∀ (m : Int) (k : Nat), b8 (m / 256 ^ k) = b8 (m / 256 ^ k) := fun _ _ => rfl
  unfold lenB
  simp only [low, List.reverse_cons, List.reverse_nil, List.nil_append, List.cons_append, List.range_succ, List.range_zero, List.map_cons, List.map_nil]
  have e : ∀ (x : Int) (y : Nat), x = (y : Int) → b8 x = UInt8.ofNat (y % 256) := fun x y hxy => by
    apply UInt8.toNat_inj.1
    have h1 := b8_toNat x
    have h2 : ((UInt8.ofNat (y % 256)).toNat : Int) = ((y % 256 : Nat) : Int) := byte_of
    omega
  rw [e _ (8 * n / 256 ^ (7 - 0)) (by omega), e _ (8 * n / 256 ^ (7 - 1)) (by omega), e _ (8 * n / 256 ^ (7 - 2)) (by omega), e _ (8 * n / 256 ^ (7 - 3)) (by omega), e _ (8 * n / 256 ^ (7 - 4)) (by omega), e _ (8 * n / 256 ^ (7 - 5)) (by omega), e _ (8 * n / 256 ^ (7 - 6)) (by omega), e _ (8 * n / 256 ^ (7 - 7)) (by omega)]
theorem fillG_256 (m : List UInt8) : fillG m 64 8 false = full m := by
  unfold fillG full padB
  have e : zeroG m.length 64 8 = (119 - m.length % 64) % 64 := by unfold zeroG; omega
  rw [e]
  simp only [Bool.false_eq_true, if_false, b8_lenB, List.append_assoc]
/-- A word's first bytes. -/
def accW (bs : List UInt8) (t : Nat) : Nat → Int
  | 0 => 0
  | i + 1 => accW bs t i * 256 + ((bs.getD (4 * t + i) 0).toNat : Int)
theorem accW_four (bs : List UInt8) (t : Nat) : accW bs t 4 = wordAt bs t := by
  unfold wordAt be32
  simp only [accW, Nat.add_zero]
  omega
theorem accW_bd (bs : List UInt8) (t : Nat) : ∀ i, i ≤ 3 → 0 ≤ accW bs t i ∧ accW bs t i < 16777216
  | 0, _ => by simp [accW]
  | 1, _ => by have h0 := (bs.getD (4 * t + 0) 0).toNat_lt; simp only [accW]; omega
  | 2, _ => by have h0 := (bs.getD (4 * t + 0) 0).toNat_lt; have h1 := (bs.getD (4 * t + 1) 0).toNat_lt; simp only [accW]; omega
  | 3, _ => by have h0 := (bs.getD (4 * t + 0) 0).toNat_lt; have h1 := (bs.getD (4 * t + 1) 0).toNat_lt; have h2 := (bs.getD (4 * t + 2) 0).toNat_lt; simp only [accW]; omega
  | i + 4, h => absurd h (by omega)
theorem set_same {xs : List Int} {t : Nat} {z : Int} (h : xs[t]? = some z) : xs.set t z = xs := by
  apply List.ext_getElem?
  intro i
  rw [List.getElem?_set]
  split
  · rename_i e
    subst e
    split
    · exact h.symm
    · rename_i h2; rw [List.getElem?_eq_none (by omega)] at h; cases h
  · rfl
theorem outB_at (hs : List Int) : ∀ {i : Nat} {x : Int}, hs[i / 4]? = some x → U32 x → (nums (outB hs))[i]? = some (x / 2 ^ (24 - 8 * (i % 4)) % 256) := by
  induction hs with
  | nil => intro i x h; simp at h
  | cons y hs ih =>
    intro i x h hx
    have e : outB (y :: hs) = outB [y] ++ outB hs := by unfold outB; simp
    rw [e, nums_append]
    have hl : (nums (outB [y])).length = 4 := by rw [nums_length, outB_length]; rfl
    rcases Nat.lt_or_ge i 4 with h4 | h4
    · have h0 : i / 4 = 0 := by omega
      rw [h0] at h
      obtain rfl : y = x := Option.some.inj h
      rw [List.getElem?_append_left (by omega), word_bytes hx]
      obtain rfl | rfl | rfl | rfl : i = 0 ∨ i = 1 ∨ i = 2 ∨ i = 3 := by omega
      · rfl
      · rfl
      · rfl
      · simp
    · have h1 : i / 4 = (i - 4) / 4 + 1 := by omega
      rw [h1, List.getElem?_cons_succ] at h
      rw [List.getElem?_append_right (by omega), hl, ih h hx]
      congr 4
      omega
end Go.Proofs.YtfkpdbmgiefnfaaDoor

/-
  The reference's Sum512, on plain numbers; its rot64. Conditions: none.
-/
namespace Go.Proofs.YtfkpdbmgiefnfaaDoor.S5
open Go.RowKit

theorem low_zero : ∀ k, low 0 k = List.replicate k 0
  | 0 => rfl
  | k + 1 => by rw [low, show (0 : Int) / 256 = 0 from rfl, low_zero k]; rfl
theorem low_more : ∀ (a b : Nat) (n : Int), low n (a + b) = low n a ++ low (n / 256 ^ a) b
  | 0, b, n => by simp [low]
  | a + 1, b, n => by
    rw [show a + 1 + b = (a + b) + 1 by omega, low, low, low_more a b (n / 256), List.cons_append]
    congr 3
    rw [Int.pow_succ, Int.mul_comm, Int.ediv_ediv_of_nonneg (by decide)]
theorem low_sixteen {n : Nat} (h : n < 2305843009213693952) : (low ((8 * n : Nat) : Int) 16).reverse = List.replicate 8 0 ++ lenB n := by
  rw [show (16 : Nat) = 8 + 8 from rfl, low_more]
  have e : ((8 * n : Nat) : Int) / 256 ^ 8 = 0 := by
    have : (256 : Int) ^ 8 = 18446744073709551616 := by decide
    rw [this]
    omega
  rw [e, low_zero, List.reverse_append, List.reverse_replicate, b8_lenB]
theorem fillG_512 {m : List UInt8} (h : m.length < 2305843009213693952) : fillG m 128 16 false = full m := by
  unfold fillG full padB
  have e : zeroG m.length 128 16 = (239 - m.length % 128) % 128 := by unfold zeroG; omega
  rw [e]
  simp only [Bool.false_eq_true, if_false]
  rw [low_sixteen h, ← List.replicate_append_replicate]
  simp only [List.append_assoc]
/-- A word's first bytes. -/
def accW (bs : List UInt8) (t : Nat) : Nat → Int
  | 0 => 0
  | i + 1 => accW bs t i * 256 + ((bs.getD (8 * t + i) 0).toNat : Int)
theorem accW_eight (bs : List UInt8) (t : Nat) : accW bs t 8 = wordAt bs t := by
  unfold wordAt be64 be32
  simp only [accW, Nat.add_zero]
  omega
theorem accW_lt (bs : List UInt8) (t : Nat) : ∀ i, 0 ≤ accW bs t i ∧ accW bs t i < 256 ^ i
  | 0 => by simp [accW]
  | i + 1 => by
    have h := accW_lt bs t i
    have h0 := (bs.getD (8 * t + i) 0).toNat_lt
    rw [accW, Int.pow_succ]
    generalize (256 : Int) ^ i = q at h ⊢
    omega
theorem accW_bd (bs : List UInt8) (t i : Nat) (h : i ≤ 7) : 0 ≤ accW bs t i ∧ accW bs t i < 72057594037927936 := by
  obtain ⟨a, b⟩ := accW_lt bs t i
  refine ⟨a, Int.lt_of_lt_of_le b ?_⟩
  obtain rfl | rfl | rfl | rfl | rfl | rfl | rfl | rfl : i = 0 ∨ i = 1 ∨ i = 2 ∨ i = 3 ∨ i = 4 ∨ i = 5 ∨ i = 6 ∨ i = 7 := by omega
  all_goals decide
theorem hi_shift {x : Int} (k : Nat) : x / 4294967296 / 2 ^ k = x / 2 ^ (32 + k) := by
  rw [Int.pow_add, show (2 : Int) ^ 32 = 4294967296 by decide, Int.ediv_ediv_of_nonneg (by decide)]
theorem outW_at (hs : List Int) {i : Nat} {x : Int} (h : hs[i / 8]? = some x) (hx : U64 x) : (nums (outW hs))[i]? = some (x / 2 ^ (56 - 8 * (i % 8)) % 256) := by
  have hh : (halves hs)[2 * (i / 8)]? = some (x / 4294967296) ∧ (halves hs)[2 * (i / 8) + 1]? = some (x % 4294967296) := by
    generalize i / 8 = j at h
    induction hs generalizing j with
    | nil => simp at h
    | cons y hs ih =>
      have e : halves (y :: hs) = y / 4294967296 :: y % 4294967296 :: halves hs := by simp [halves]
      rw [e]
      cases j with
      | zero =>
        obtain rfl : y = x := Option.some.inj h
        exact ⟨rfl, rfl⟩
      | succ j =>
        rw [List.getElem?_cons_succ] at h
        have h2 := ih j h
        rw [show 2 * (j + 1) = 2 * j + 1 + 1 by omega]
        simp only [List.getElem?_cons_succ]
        exact h2
  obtain ⟨u0, u1⟩ := halves_u hx
  unfold outW
  by_cases h4 : i % 8 < 4
  · rw [outB_at (halves hs) (i := i) (x := x / 4294967296) (by rw [show i / 4 = 2 * (i / 8) by omega]; exact hh.1) u0, hi_shift]
    congr 4
    omega
  · rw [outB_at (halves hs) (i := i) (x := x % 4294967296) (by rw [show i / 4 = 2 * (i / 8) + 1 by omega]; exact hh.2) u1]
    obtain ⟨a, b⟩ := hx
    have e4 : i % 4 = i % 8 - 4 := by omega
    have hc : i % 8 = 4 ∨ i % 8 = 5 ∨ i % 8 = 6 ∨ i % 8 = 7 := by omega
    rw [e4]
    congr 1
    rcases hc with e | e | e | e
    · rw [e]; show x % 4294967296 / 16777216 % 256 = x / 16777216 % 256; omega
    · rw [e]; show x % 4294967296 / 65536 % 256 = x / 65536 % 256; omega
    · rw [e]; show x % 4294967296 / 256 % 256 = x / 256 % 256; omega
    · rw [e]; show x % 4294967296 / 1 % 256 = x / 1 % 256; omega
theorem bits_or_swap (k : IntKind) (a b : Int) : bits .or k a b = bits .or k b a := by simp only [bits, BitVec.or_comm]
set_option maxRecDepth 100000 in
set_option maxHeartbeats 800000 in
theorem rrot_any (x : Int) (n m : Nat) (w : World) (_hx : U64 x) (hn : n + m = 64) :
    Calls Tryd.prog 49 #[.int .u64 x, .int .i64 n] w fun e w' => e = .returned (.int .u64 (rot64 m x)) ∧ w = w' := by
  have e3 : (64 : Int) - (n : Int) = (m : Int) := by omega
  have hr : rot64 m x = bits .or .u64 (x / 2 ^ n) (x * 2 ^ m % 18446744073709551616) := by
    unfold rot64
    rw [bits_or_swap, show 64 - m = n by omega]
  have HR := Lib.hid hr
  have hn64 : n ≤ 64 := by omega
  have hm64 : m ≤ 64 := by omega
  clear hr hn
  go_enter Tryd.func49, Tryd.ntmps49
  go_wp2
  go_ret
  exact ⟨by rw [HR.out]; rfl, rfl⟩
end Go.Proofs.YtfkpdbmgiefnfaaDoor.S5
