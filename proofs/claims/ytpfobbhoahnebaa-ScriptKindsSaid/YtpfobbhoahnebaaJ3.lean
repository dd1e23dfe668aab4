/-
  Texts joined: Op, Own, SnNum, SnRef, SnTruth, Backw. Conditions: those of each.
-/
import Derived.Test.YtpfobbhoahnebaaJ2
import Derived.BigQuiet
import Derived.Deep.QuietTactic
import Derived.IntWalk
import Derived.Deep.RegionHeld
import Derived.OrdersHeld
import Derived.Test.YtpfobbhoahnebaaJ1
import Derived.RangeFuncNested
import Derived.RangeFuncBound
import Derived.RangeFuncCalls
import Derived.RangeFuncLeaves
import Derived.RangeFuncBox
import Derived.Shelf.Abstract
import Derived.Shelf.RegionOpen
import Derived.OwnWalkIn
import Derived.TacticsInMore
import Derived.LoopNIn
import Derived.LoopIn
/-
  An append of bytes, at an operation of a region that draws its order. Conditions: sizes within the reach.
-/
namespace Go.Proofs.Ytpfobbhoahnebaa
open Go.RowKit

/-- Says nothing. -/
def AnyW (_ : World) : Prop := True
theorem anyW (w : World) : AnyW w := trivial

theorem op_append_bytes {P : Program} {w : World} {o : Oper} {a : Act} {K : Act → World → Prop} {Q : Exit → Act → World → Prop} (s x : Operand) (t : TypeId)
    (ho : o.op = .call { callee := .builtin .append, args := #[s, x], argTypes := #[t, t] })
    (base : Nat) (e : TypeId) (i : TypeInfo) (ht : P.underlying t = some (.slice e)) (hi : P.info? e = some i)
    (hz : i.zero = some (.int .u8 0)) (hsize : i.size = 1) (hby : i.bytes = 1)
    (v : Value) (n : Nat) (xs : List Value) (hs : a.eval s = v) (hown : w.ownsRow base e 1 v n xs)
    (B : Nat) (u : Value) (ys : List UInt8) (hx : a.eval x = u) (hr : Byt w B u ys) (hb : n + ys.length ≤ 140737488355328) (hbase : base ≤ w.heap.size)
    (h : ∀ v' w', w'.ownsRow base e 1 v' (n + ys.length) (xs ++ ys.map bv) → w.grownBy w' v.ownBlock → (v'.ownBlock = v.ownBlock ∨ v'.ownBlock = some w.heap.size) → K (a.put o.dst v') w') :
    o.wp P a w K Q := by
  obtain ⟨v', w', hrun, h2, h3, h4⟩ := run_append_bytes (P := P) w base t o.type e i ht hi hz hsize hby v n xs hown B u ys hr hb hbase
  unfold Oper.wp execOp
  simp only [ho, resolve, invoke, builtin, Sem.run_bind, Sem.run_pure, Result.andThen_ok, List.map_toArray, List.map_cons, List.map_nil, hs, hx, hrun]
  exact h v' w' h2 h3 h4
end Go.Proofs.Ytpfobbhoahnebaa

/-
  A row of bytes of the call's own: what may be read, and what a store changes. Conditions: none.
-/
namespace Go.Proofs.Ytpfobbhoahnebaa
open Go.RowKit

/-- The slice value v owns these bytes, in a block from base on. -/
def OwnB (w : World) (base : Nat) (v : Value) (ys : List UInt8) : Prop := w.ownsRow base 5 1 v ys.length (ys.map bv)
theorem OwnB.nil (w : World) (base : Nat) : OwnB w base (.slice none 0 0) [] := World.ownsRow_nil _ _ _ _
theorem OwnB.form {w : World} {base : Nat} {v : Value} {ys : List UInt8} (h : OwnB w base v ys) : ∃ A c, v = .slice A ys.length c := own_form h
theorem OwnB.block {w : World} {base : Nat} {v : Value} {ys : List UInt8} (h : OwnB w base v ys) (hn : 0 < ys.length) : ∃ g c, v = .slice (some ⟨g, 0, none⟩) ys.length c ∧ base ≤ g ∧ g < w.heap.size ∧ ys.length ≤ c := by
  rcases h.2 with ⟨_, h0⟩ | ⟨g, cap, cur, rfl, hb, hg, hnc, _⟩
  · omega
  · exact ⟨g, cap, rfl, hb, (Array.getElem?_eq_some_iff.1 hg).1, hnc⟩
theorem OwnB.cell {w : World} {base g n c k : Nat} {q : UInt8} {ys : List UInt8} (h : OwnB w base (.slice (some ⟨g, 0, none⟩) n c) ys) (hk : ys[k]? = some q) : w.cell? ⟨g, k, none⟩ = some (bv q) := by
  have h1 := World.ownsRow.cells (g := g) h rfl k (bv q) (by rw [List.getElem?_map, hk]; rfl)
  have hadd : (⟨g, 0, none⟩ : Addr).add k = ⟨g, 0 + k, none⟩ := by unfold Addr.add; split <;> simp_all
  rw [hadd, Nat.zero_add] at h1
  exact h1
theorem OwnB.free {w : World} {base g n c : Nat} {ys : List UInt8} (h : OwnB w base (.slice (some ⟨g, 0, none⟩) n c) ys) (k : Nat) : w.frozen? ⟨g, k, none⟩ = false := by
  rcases h.2 with ⟨e, _⟩ | ⟨g', cap, cur, e, _, hg, _⟩
  · cases e
  · injection e with e1 _ _
    injection e1 with e1
    injection e1 with e1
    subst e1
    simp [World.frozen?, hg]
theorem OwnB.set {w : World} {base g n c : Nat} {ys : List UInt8} (h : OwnB w base (.slice (some ⟨g, 0, none⟩) n c) ys) (k : Nat) (q : UInt8) : OwnB (w.setCell ⟨g, k, none⟩ (bv q)) base (.slice (some ⟨g, 0, none⟩) n c) (ys.set k q) := by
  unfold OwnB at h ⊢
  rw [List.length_set]
  refine ⟨by simp, ?_⟩
  rcases h.2 with ⟨e, _⟩ | ⟨g', cap, cur, e, hb, hg, hnc, hcm, hcs, ht⟩
  · cases e
  · have e' := e
    injection e' with e1 _ _
    injection e1 with e1
    injection e1 with e1
    subst e1
    refine .inr ⟨g, cap, cur.setIfInBounds k (bv q), e, hb, ?_, hnc, hcm, by simpa using hcs, ?_⟩
    · simp [World.setCell, Array.getElem?_modify, hg]
    · rw [Array.toList_setIfInBounds, List.map_set, ← ht]
      exact List.take_set
theorem OwnB.byt {w : World} {base : Nat} {v : Value} {ys : List UInt8} (h : OwnB w base v ys) : Byt w w.heap.size v ys := Byt.of_own h
end Go.Proofs.Ytpfobbhoahnebaa

/-
  script.Number and the reference's: a number's bytes. Conditions: none.
-/
namespace Go.Proofs.Ytpfobbhoahnebaa
open Go.RowKit

theorem and128_fin : ∀ n : Fin 256, bits .and .u8 (n.val : Int) 128 = if 128 ≤ n.val then 128 else 0 := by decide +kernel
theorem or128_fin : ∀ n : Fin 256, bits .or .u8 (n.val : Int) 128 = ((n.val % 128 + 128 : Nat) : Int) := by decide +kernel
theorem andNot128_fin : ∀ n : Fin 256, bits .andNot .u8 (n.val : Int) 128 = ((n.val % 128 : Nat) : Int) := by decide +kernel
theorem and128 (x : UInt8) : bits .and .u8 (x.toNat : Int) 128 = if 128 ≤ x.toNat then 128 else 0 := and128_fin ⟨x.toNat, x.toNat_lt⟩
theorem or128 (x : UInt8) : bits .or .u8 (x.toNat : Int) 128 = ((x.toNat % 128 + 128 : Nat) : Int) := or128_fin ⟨x.toNat, x.toNat_lt⟩
theorem andNot128 (x : UInt8) : bits .andNot .u8 (x.toNat : Int) 128 = ((x.toNat % 128 : Nat) : Int) := andNot128_fin ⟨x.toNat, x.toNat_lt⟩

set_option maxHeartbeats 400000 in
theorem absolute_any (n : Int) (w : World) (h0 : -9223372036854775808 ≤ n) (h1 : n ≤ 9223372036854775807) :
    Calls Try.prog 57 #[.int .i64 n] w fun e w' => e = .returned (.int .i64 (mag n : Nat)) ∧ w = w' := by
  by_cases hn : n < 0
  · by_cases hm : n = -9223372036854775808
    · subst hm
      go_enter Try.func57, Try.ntmps57
      go_wp2
      go_ret
      exact ⟨rfl, rfl⟩
    · have hmag : (mag n : Int) = -n := by unfold mag; rw [if_neg hm]; omega
      have HM := Lib.hid hmag
      clear hmag
      have hlt : -9223372036854775807 ≤ n := by omega
      go_enter Try.func57, Try.ntmps57
      go_wp2
      go_ret
      exact ⟨by rw [HM.out]; rfl, rfl⟩
  · have hmag : (mag n : Int) = n := by unfold mag; rw [if_neg (by omega)]; omega
    have HM := Lib.hid hmag
    clear hmag
    go_enter Try.func57, Try.ntmps57
    go_wp2
    go_ret
    exact ⟨by rw [HM.out]; rfl, rfl⟩

theorem fresh_own {w w' : World} {v : Value} {xs : List UInt8} (h : OwnB w' w.heap.size v xs) (hb : Below w.heap.size w w') : Fresh w xs (.returned v) w' := fresh_of h hb
theorem own_b {w : World} {base n : Nat} {v : Value} {ys zs : List UInt8} (h : w.ownsRow base 5 1 v n (ys.map bv ++ zs.map bv)) (hn : n = ys.length + zs.length) : OwnB w base v (ys ++ zs) := by
  subst hn
  unfold OwnB
  rw [List.length_append, List.map_append]
  exact h
theorem set_snoc (fr : List UInt8) (x y : UInt8) : (fr ++ [x]).set fr.length y = fr ++ [y] := by simp
theorem set_snoc1 (fr : List UInt8) (x y z : UInt8) : (fr ++ [x] ++ [z]).set (fr.length + 1) y = fr ++ [x] ++ [y] := by simp

theorem bytesN_eight (n : Int) (h0 : -9223372036854775808 ≤ n) (h1 : n ≤ 9223372036854775807) : (bytesN (mag n)).length ≤ 8 :=
  bytesN_len 8 (mag n) (by rw [show (256 : Nat) ^ 8 = 18446744073709551616 by decide]; unfold mag; split <;> omega)
theorem mag_le (n : Int) (h0 : -9223372036854775808 ≤ n) (h1 : n ≤ 9223372036854775807) : mag n ≤ 9223372036854775807 := by unfold mag; split <;> omega
theorem bytesN_go {t zs : List UInt8} {m : Nat} (h : t = zs ++ bytesN m) (hm : 0 < m) : t = (zs ++ [b8 (m : Int)]) ++ bytesN (m / 256) := by
  rw [h, bytesN_pos hm, List.append_assoc]
  exact congrArg (fun c => zs ++ c :: bytesN (m / 256)) (u8_ext (by have := b8_toNat (m : Int); rw [u8_of]; omega))

set_option maxRecDepth 100000 in
set_option maxHeartbeats 1600000 in
theorem number_any (n : Int) (w : World) (h0 : -9223372036854775808 ≤ n) (h1 : n ≤ 9223372036854775807) :
    Calls Try.prog 20 #[.int .i64 n] w (Fresh w (numB n)) := by
  obtain ⟨i0, hi, hz0, hz1, hz2⟩ := info_parts info_u8
  have h8 := bytesN_eight n h0 h1
  have hmg := mag_le n h0 h1
  go_enter Try.func20, Try.ntmps20
  go_wp2_with fail
  refine (absolute_any n _ h0 h1).mono ?_
  rintro e w1 ⟨rfl, rfl⟩
  go_wp2_with fail
  go_loopw [3, 4] (fun v x wr => ∃ (m : Nat) (zs : List UInt8), x = .int .i64 (m : Int) ∧ m ≤ 9223372036854775807 ∧ zs.length ≤ 8 ∧ Hid (bytesN (mag n) = zs ++ bytesN m) ∧ OwnB wr w.heap.size v zs ∧ Below w.heap.size w wr) (fun _ x _ => (intOf x).toNat)
  case atStart => exact ⟨mag n, [], rfl, hmg, by simp, Lib.hid (by simp), OwnB.nil _ _, Below.refl _ _⟩
  case round =>
    obtain ⟨m, zs, rfl, hm, hzl, hz, hown, hbel⟩ := hrel
    by_cases hlt : 0 < m
    · have hmade : Byt (wr.alloc (.cells #[.int .u8 ((m : Int) % 256)] 5)) (wr.heap.size + 1) (.slice (some ⟨wr.heap.size, 0, none⟩) 1 1) [b8 (m : Int)] := Byt.made wr _ [_] [b8 (m : Int)] (by simp [bv_b8]) (by unfold maxLen; simp)
      unfold OwnB at hown
      have hstep := Lib.hid (bytesN_go hz.out hlt)
      have hzl2 : (zs ++ [b8 (m : Int)]).length ≤ 8 := by
        have h := congrArg List.length hstep.out
        rw [List.length_append] at h
        omega
      have HZ2 := Lib.hid hzl2
      clear hzl2
      go_wp2_with (at_builtin; refine wpList_append_bytes rfl (.tmp 12) (.tmp 15) 22 rfl w.heap.size 5 i0 slice_u8 hi hz0 hz1 hz2 _ zs.length (zs.map bv) rfl (World.ownsRow.alloc hown _) (wr.heap.size + 1) _ [b8 (m : Int)] rfl hmade (by simp; omega) (by have := hbel.size; simp; omega) ?_; intro v1 w1 hown1 hg1 hat1)
      have hb1 : Below w.heap.size w w1 := (hbel.alloc hbel.size _).grown hg1 (by have := hbel.size; simp; omega) (fun j hj => (World.ownsRow.lt hown j hj).1)
      go_roundw
      case rel => exact ⟨m / 256, zs ++ [b8 (m : Int)], by simp, by omega, HZ2.out, hstep, by unfold OwnB; simpa using hown1, hb1⟩
      case measure => simp [intOf]; omega
    · obtain rfl : m = 0 := by omega
      have hz' : zs = bytesN (mag n) := by have := hz.out; rw [bytesN_zero, List.append_nil] at this; exact this.symm
      clear hz
      rcases snoc_cases zs with rfl | ⟨fr, x, rfl⟩
      · have hn0 : n = 0 := by
          have hv := valN_bytesN (mag n)
          rw [← hz'] at hv
          have : mag n = 0 := hv.symm
          unfold mag at this
          split at this <;> omega
        subst hn0
        have hnum : numB 0 = [] := numB_neg0
        have HN := Lib.hid hnum
        clear hnum hz'
        obtain ⟨A, c, rfl⟩ := hown.form
        go_wp2_with fail
        go_ret
        rw [HN.out]
        exact fresh_of hown hbel
      · have hZ := Lib.hid hz'
        clear hz'
        have hbsz := hbel.size
        obtain ⟨g, c, rfl, hg1, hg2, hg3⟩ := hown.block (by simp)
        have hcell : wr.cell? ⟨g, fr.length, none⟩ = some (.int .u8 (x.toNat : Int)) := hown.cell (k := fr.length) (q := x) (by simp)
        have hfree := hown.free fr.length
        have HO := Lib.hid hown
        clear hown
        rw [List.length_append, List.length_cons, List.length_nil, Nat.zero_add] at hzl hg3 HO ⊢
        by_cases hx : 128 ≤ x.toNat
        · have hand : bits .and .u8 (x.toNat : Int) 128 = 128 := by rw [and128, if_pos hx]
          have hmade : Byt (wr.alloc (.cells #[.int .u8 0] 5)) (wr.heap.size + 1) (.slice (some ⟨wr.heap.size, 0, none⟩) 1 1) [0] := Byt.made wr _ [_] [0] (by simp [bv]) (by unfold maxLen; simp)
          have hown2 : wr.ownsRow w.heap.size 5 1 (.slice (some ⟨g, 0, none⟩) (fr.length + 1) c) (fr.length + 1) ((fr ++ [x]).map bv) := by have := HO.out; unfold OwnB at this; rwa [List.length_append, List.length_cons, List.length_nil, Nat.zero_add] at this
          have HH := Lib.hid hown2
          clear hown2
          by_cases hn : n < 0
          · have hnum : numB n = fr ++ [x] ++ [128] := by unfold numB; rw [if_pos hn, ← hZ.out, topped_hi hx, signd_snoc]; rfl
            have HN := Lib.hid hnum
            clear hnum
            have hor : bits .or .u8 (0 : Int) 128 = 128 := or128 0
            go_wp2_with (at_builtin; refine wpList_append_bytes rfl (.tmp 30) (.tmp 31) 22 rfl w.heap.size 5 i0 slice_u8 hi hz0 hz1 hz2 _ (fr.length + 1) ((fr ++ [x]).map bv) rfl (World.ownsRow.alloc HH.out _) (wr.heap.size + 1) _ [0] rfl hmade (by simp; omega) (by simp; omega) ?_; intro v1 w1 hown1 hg1 hat1; have hb1 : Below w.heap.size w w1 := (hbel.alloc hbsz _).grown hg1 (by simp; omega) (fun j hj => (World.ownsRow.lt HH.out j hj).1); have hO1 := own_b hown1 (by simp); obtain ⟨g1, c1, rfl, hg11, hg12, hg13⟩ := hO1.block (by simp); have hcell1 : w1.cell? ⟨g1, fr.length + 1, none⟩ = some (.int .u8 0) := hO1.cell (k := fr.length + 1) (q := 0) (by simp); have hfree1 := hO1.free (fr.length + 1); have hset1 := Lib.hid (hO1.set (fr.length + 1) 128); have HO1 := Lib.hid hO1; have HB1 := Lib.hid hb1; clear hO1 hb1 hown1 hg1 hat1; rw [List.length_append, List.length_append, List.length_cons, List.length_nil, List.length_cons, List.length_nil, Nat.zero_add] at hg13 hset1 HO1 ⊢)
            go_ret
            rw [HN.out]
            exact fresh_own (by have := hset1.out; rw [set_snoc1] at this; exact this) (HB1.out.setCell (by show w.heap.size ≤ g1; omega) _)
          · have hnum : numB n = fr ++ [x] ++ [0] := by unfold numB; rw [if_neg hn, ← hZ.out, topped_hi hx]
            have HN := Lib.hid hnum
            clear hnum
            go_wp2_with (at_builtin; refine wpList_append_bytes rfl (.tmp 30) (.tmp 31) 22 rfl w.heap.size 5 i0 slice_u8 hi hz0 hz1 hz2 _ (fr.length + 1) ((fr ++ [x]).map bv) rfl (World.ownsRow.alloc HH.out _) (wr.heap.size + 1) _ [0] rfl hmade (by simp; omega) (by simp; omega) ?_; intro v1 w1 hown1 hg1 hat1; have hb1 : Below w.heap.size w w1 := (hbel.alloc hbsz _).grown hg1 (by simp; omega) (fun j hj => (World.ownsRow.lt HH.out j hj).1); have hO1 := own_b hown1 (by simp); obtain ⟨g1, c1, rfl, hg11, hg12, hg13⟩ := hO1.block (by simp); have hcell1 : w1.cell? ⟨g1, fr.length + 1, none⟩ = some (.int .u8 0) := hO1.cell (k := fr.length + 1) (q := 0) (by simp); have hfree1 := hO1.free (fr.length + 1); have hset1 := Lib.hid (hO1.set (fr.length + 1) 128); have HO1 := Lib.hid hO1; have HB1 := Lib.hid hb1; clear hO1 hb1 hown1 hg1 hat1; rw [List.length_append, List.length_append, List.length_cons, List.length_nil, List.length_cons, List.length_nil, Nat.zero_add] at hg13 hset1 HO1 ⊢)
            go_ret
            rw [HN.out]
            exact fresh_own HO1.out HB1.out
        · have hand : bits .and .u8 (x.toNat : Int) 128 = 0 := by rw [and128, if_neg hx]
          by_cases hn : n < 0
          · have hnum : numB n = fr ++ [UInt8.ofNat (x.toNat % 128 + 128)] := by unfold numB; rw [if_pos hn, ← hZ.out, topped_lo (by omega), signd_snoc]
            have HN := Lib.hid hnum
            have hor := or128 x
            have hset := Lib.hid (HO.out.set fr.length (UInt8.ofNat (x.toNat % 128 + 128)))
            clear hnum
            go_wp2_with fail
            go_ret
            rw [HN.out]
            exact fresh_own (by have := hset.out; rw [set_snoc] at this; unfold bv at this; rw [to_hi] at this; exact this) (hbel.setCell (by show w.heap.size ≤ g; omega) _)
          · have hnum : numB n = fr ++ [x] := by unfold numB; rw [if_neg hn, ← hZ.out, topped_lo (by omega)]
            have HN := Lib.hid hnum
            clear hnum
            go_wp2_with fail
            go_ret
            rw [HN.out]
            exact fresh_own HO.out hbel
end Go.Proofs.Ytpfobbhoahnebaa

/-
  The reference's Number of layer 11. Conditions: none.
-/
namespace Go.Proofs.Ytpfobbhoahnebaa
open Go.RowKit

set_option maxRecDepth 100000 in
set_option maxHeartbeats 1600000 in
theorem rnumber_neg (n : Int) (w : World) (h0 : -9223372036854775807 ≤ n) (hneg : n < 0) :
    Calls Try.prog 21 #[.int .i64 n] w (Fresh w (numB n)) := by
  obtain ⟨i0, hi, hz0, hz1, hz2⟩ := info_parts info_u8
  have h8 := bytesN_eight n (by omega) (by omega)
  have hmg := mag_le n (by omega) (by omega)
  have hmn : (mag n : Int) = -n := by unfold mag; rw [if_neg (by omega)]; omega
  have hm0 : ¬ n = 0 := by omega
  have hw1 : IntKind.u64.wrap (-IntKind.u64.wrap n) = (mag n : Nat) := by rw [hmn, IntKind.wrap_u64, IntKind.wrap_u64]; omega
  have hw2 : (((mag n : Nat) : Int) == 9223372036854775808) = false := by simp; omega
  clear hmn
  go_enter Try.func21, Try.ntmps21
  go_wp2_with fail
  clear hw1 hw2
  go_loopw [3, 4] (fun v x wr => ∃ (m : Nat) (zs : List UInt8), x = .int .u64 (m : Int) ∧ m ≤ 9223372036854775807 ∧ zs.length ≤ 8 ∧ Hid (bytesN (mag n) = zs ++ bytesN m) ∧ OwnB wr w.heap.size v zs ∧ Below w.heap.size w wr) (fun _ x _ => (intOf x).toNat)
  case atStart => exact ⟨mag n, [], rfl, hmg, by simp, Lib.hid (by simp), OwnB.nil _ _, Below.refl _ _⟩
  case round =>
    obtain ⟨m, zs, rfl, hm, hzl, hz, hown, hbel⟩ := hrel
    by_cases hlt : 0 < m
    · have hmade : Byt (wr.alloc (.cells #[.int .u8 ((m : Int) % 256)] 5)) (wr.heap.size + 1) (.slice (some ⟨wr.heap.size, 0, none⟩) 1 1) [b8 (m : Int)] := Byt.made wr _ [_] [b8 (m : Int)] (by simp [bv_b8]) (by unfold maxLen; simp)
      unfold OwnB at hown
      have hstep := Lib.hid (bytesN_go hz.out hlt)
      have hzl2 : (zs ++ [b8 (m : Int)]).length ≤ 8 := by
        have h := congrArg List.length hstep.out
        rw [List.length_append] at h
        omega
      have HZ2 := Lib.hid hzl2
      clear hzl2
      go_wp2_with (at_builtin; refine wpList_append_bytes rfl (.tmp 17) (.tmp 21) 22 rfl w.heap.size 5 i0 slice_u8 hi hz0 hz1 hz2 _ zs.length (zs.map bv) rfl (World.ownsRow.alloc hown _) (wr.heap.size + 1) _ [b8 (m : Int)] rfl hmade (by simp; omega) (by have := hbel.size; simp; omega) ?_; intro v1 w1 hown1 hg1 hat1)
      have hb1 : Below w.heap.size w w1 := (hbel.alloc hbel.size _).grown hg1 (by have := hbel.size; simp; omega) (fun j hj => (World.ownsRow.lt hown j hj).1)
      go_roundw
      case rel => exact ⟨m / 256, zs ++ [b8 (m : Int)], by simp, by omega, HZ2.out, hstep, by unfold OwnB; simpa using hown1, hb1⟩
      case measure => simp [intOf]; omega
    · obtain rfl : m = 0 := by omega
      have hz' : zs = bytesN (mag n) := by have := hz.out; rw [bytesN_zero, List.append_nil] at this; exact this.symm
      clear hz
      have hz0m : [] = bytesN (mag n) → n = 0 := fun h => by
        have hv := valN_bytesN (mag n)
        rw [← h] at hv
        have : mag n = 0 := hv.symm
        unfold mag at this
        split at this <;> omega
      rcases snoc_cases zs with rfl | ⟨fr, x, rfl⟩
      · exact absurd (hz0m hz') hm0
      · have hZ := Lib.hid hz'
        clear hz' hz0m
        have hbsz := hbel.size
        obtain ⟨g, c, rfl, hg1, hg2, hg3⟩ := hown.block (by simp)
        have hcell : wr.cell? ⟨g, fr.length, none⟩ = some (.int .u8 (x.toNat : Int)) := hown.cell (k := fr.length) (q := x) (by simp)
        have hfree := hown.free fr.length
        have HO := Lib.hid hown
        clear hown
        rw [List.length_append, List.length_cons, List.length_nil, Nat.zero_add] at hzl hg3 HO ⊢
        have hx256 := x.toNat_lt
        by_cases hx : 128 ≤ x.toNat
        · have hmade : Byt (wr.alloc (.cells #[.int .u8 0] 5)) (wr.heap.size + 1) (.slice (some ⟨wr.heap.size, 0, none⟩) 1 1) [0] := Byt.made wr _ [_] [0] (by simp [bv]) (by unfold maxLen; simp)
          have hown2 : wr.ownsRow w.heap.size 5 1 (.slice (some ⟨g, 0, none⟩) (fr.length + 1) c) (fr.length + 1) ((fr ++ [x]).map bv) := by have := HO.out; unfold OwnB at this; rwa [List.length_append, List.length_cons, List.length_nil, Nat.zero_add] at this
          have HH := Lib.hid hown2
          clear hown2
          have hnum : numB n = fr ++ [x] ++ [128] := by unfold numB; rw [if_pos hneg, ← hZ.out, topped_hi hx, signd_snoc]; rfl
          have HN := Lib.hid hnum
          clear hnum
          go_wp2_with (at_builtin; refine wpList_append_bytes rfl (.tmp 37) (.tmp 38) 22 rfl w.heap.size 5 i0 slice_u8 hi hz0 hz1 hz2 _ (fr.length + 1) ((fr ++ [x]).map bv) rfl (World.ownsRow.alloc HH.out _) (wr.heap.size + 1) _ [0] rfl hmade (by simp; omega) (by simp; omega) ?_; intro v1 w1 hown1 hg1 hat1; have hb1 : Below w.heap.size w w1 := (hbel.alloc hbsz _).grown hg1 (by simp; omega) (fun j hj => (World.ownsRow.lt HH.out j hj).1); have hO1 := own_b hown1 (by simp); obtain ⟨g1, c1, rfl, hg11, hg12, hg13⟩ := hO1.block (by simp); have hcell1 : w1.cell? ⟨g1, fr.length + 1, none⟩ = some (.int .u8 0) := hO1.cell (k := fr.length + 1) (q := 0) (by simp); have hfree1 := hO1.free (fr.length + 1); have hset1 := Lib.hid (hO1.set (fr.length + 1) 128); have HO1 := Lib.hid hO1; have HB1 := Lib.hid hb1; clear hO1 hb1 hown1 hg1 hat1; rw [List.length_append, List.length_append, List.length_cons, List.length_nil, List.length_cons, List.length_nil, Nat.zero_add] at hg13 hset1 HO1 ⊢)
          go_ret
          rw [HN.out]
          exact fresh_own (by have := hset1.out; rw [set_snoc1] at this; exact this) (HB1.out.setCell (by show w.heap.size ≤ g1; omega) _)
        · have hxn : x.toNat < 128 := by omega
          have hnum : numB n = fr ++ [UInt8.ofNat (x.toNat % 128 + 128)] := by unfold numB; rw [if_pos hneg, ← hZ.out, topped_lo (by omega), signd_snoc]
          have HN := Lib.hid hnum
          have hset := Lib.hid (HO.out.set fr.length (UInt8.ofNat (x.toNat % 128 + 128)))
          have hhi : ((UInt8.ofNat (x.toNat % 128 + 128)).toNat : Int) = (x.toNat : Int) + 128 := by rw [to_hi]; omega
          have HHI := Lib.hid hhi
          clear hnum hhi
          go_wp2_with fail
          go_ret
          rw [HN.out]
          exact fresh_own (by have := hset.out; rw [set_snoc] at this; unfold bv at this; rw [HHI.out] at this; exact this) (hbel.setCell (by show w.heap.size ≤ g; omega) _)

set_option maxRecDepth 100000 in
set_option maxHeartbeats 1600000 in
theorem rnumber_pos (n : Int) (w : World) (h0 : 0 ≤ n) (h1 : n ≤ 9223372036854775807) :
    Calls Try.prog 21 #[.int .i64 n] w (Fresh w (numB n)) := by
  obtain ⟨i0, hi, hz0, hz1, hz2⟩ := info_parts info_u8
  have h8 := bytesN_eight n (by omega) (by omega)
  have hmg := mag_le n (by omega) (by omega)
  have hmn : (mag n : Int) = n := by unfold mag; rw [if_neg (by omega)]; omega
  have HM := Lib.hid hmn
  have hneg : ¬ n < 0 := by omega
  clear hmn
  go_enter Try.func21, Try.ntmps21
  go_wp2_with fail
  go_loopw [3, 4] (fun v x wr => ∃ (m : Nat) (zs : List UInt8), x = .int .u64 (m : Int) ∧ m ≤ 9223372036854775807 ∧ zs.length ≤ 8 ∧ Hid (bytesN (mag n) = zs ++ bytesN m) ∧ OwnB wr w.heap.size v zs ∧ Below w.heap.size w wr) (fun _ x _ => (intOf x).toNat)
  case atStart => exact ⟨mag n, [], by rw [HM.out], hmg, by simp, Lib.hid (by simp), OwnB.nil _ _, Below.refl _ _⟩
  case round =>
    obtain ⟨m, zs, rfl, hm, hzl, hz, hown, hbel⟩ := hrel
    by_cases hlt : 0 < m
    · have hmade : Byt (wr.alloc (.cells #[.int .u8 ((m : Int) % 256)] 5)) (wr.heap.size + 1) (.slice (some ⟨wr.heap.size, 0, none⟩) 1 1) [b8 (m : Int)] := Byt.made wr _ [_] [b8 (m : Int)] (by simp [bv_b8]) (by unfold maxLen; simp)
      unfold OwnB at hown
      have hstep := Lib.hid (bytesN_go hz.out hlt)
      have hzl2 : (zs ++ [b8 (m : Int)]).length ≤ 8 := by
        have h := congrArg List.length hstep.out
        rw [List.length_append] at h
        omega
      have HZ2 := Lib.hid hzl2
      clear hzl2
      go_wp2_with (at_builtin; refine wpList_append_bytes rfl (.tmp 17) (.tmp 21) 22 rfl w.heap.size 5 i0 slice_u8 hi hz0 hz1 hz2 _ zs.length (zs.map bv) rfl (World.ownsRow.alloc hown _) (wr.heap.size + 1) _ [b8 (m : Int)] rfl hmade (by simp; omega) (by have := hbel.size; simp; omega) ?_; intro v1 w1 hown1 hg1 hat1)
      have hb1 : Below w.heap.size w w1 := (hbel.alloc hbel.size _).grown hg1 (by have := hbel.size; simp; omega) (fun j hj => (World.ownsRow.lt hown j hj).1)
      go_roundw
      case rel => exact ⟨m / 256, zs ++ [b8 (m : Int)], by simp, by omega, HZ2.out, hstep, by unfold OwnB; simpa using hown1, hb1⟩
      case measure => simp [intOf]; omega
    · obtain rfl : m = 0 := by omega
      have hz' : zs = bytesN (mag n) := by have := hz.out; rw [bytesN_zero, List.append_nil] at this; exact this.symm
      clear hz
      have hz0m : [] = bytesN (mag n) → n = 0 := fun h => by
        have hv := valN_bytesN (mag n)
        rw [← h] at hv
        have : mag n = 0 := hv.symm
        unfold mag at this
        split at this <;> omega
      rcases snoc_cases zs with rfl | ⟨fr, x, rfl⟩
      · obtain rfl : n = 0 := hz0m hz'
        have hnum : numB 0 = [] := numB_neg0
        have HN := Lib.hid hnum
        clear hnum hz'
        obtain ⟨A, c, rfl⟩ := hown.form
        go_wp2_with fail
        go_ret
        rw [HN.out]
        exact fresh_of hown hbel
      · have hZ := Lib.hid hz'
        clear hz' hz0m
        have hbsz := hbel.size
        obtain ⟨g, c, rfl, hg1, hg2, hg3⟩ := hown.block (by simp)
        have hcell : wr.cell? ⟨g, fr.length, none⟩ = some (.int .u8 (x.toNat : Int)) := hown.cell (k := fr.length) (q := x) (by simp)
        have hfree := hown.free fr.length
        have HO := Lib.hid hown
        clear hown
        rw [List.length_append, List.length_cons, List.length_nil, Nat.zero_add] at hzl hg3 HO ⊢
        have hx256 := x.toNat_lt
        by_cases hx : 128 ≤ x.toNat
        · have hmade : Byt (wr.alloc (.cells #[.int .u8 0] 5)) (wr.heap.size + 1) (.slice (some ⟨wr.heap.size, 0, none⟩) 1 1) [0] := Byt.made wr _ [_] [0] (by simp [bv]) (by unfold maxLen; simp)
          have hown2 : wr.ownsRow w.heap.size 5 1 (.slice (some ⟨g, 0, none⟩) (fr.length + 1) c) (fr.length + 1) ((fr ++ [x]).map bv) := by have := HO.out; unfold OwnB at this; rwa [List.length_append, List.length_cons, List.length_nil, Nat.zero_add] at this
          have HH := Lib.hid hown2
          clear hown2
          have hnum : numB n = fr ++ [x] ++ [0] := by unfold numB; rw [if_neg (show ¬ n < 0 by omega), ← hZ.out, topped_hi hx]
          have HN := Lib.hid hnum
          clear hnum
          go_wp2_with (at_builtin; refine wpList_append_bytes rfl (.tmp 37) (.tmp 38) 22 rfl w.heap.size 5 i0 slice_u8 hi hz0 hz1 hz2 _ (fr.length + 1) ((fr ++ [x]).map bv) rfl (World.ownsRow.alloc HH.out _) (wr.heap.size + 1) _ [0] rfl hmade (by simp; omega) (by simp; omega) ?_; intro v1 w1 hown1 hg1 hat1; have hb1 : Below w.heap.size w w1 := (hbel.alloc hbsz _).grown hg1 (by simp; omega) (fun j hj => (World.ownsRow.lt HH.out j hj).1); have hO1 := own_b hown1 (by simp); obtain ⟨g1, c1, rfl, hg11, hg12, hg13⟩ := hO1.block (by simp); have hcell1 : w1.cell? ⟨g1, fr.length + 1, none⟩ = some (.int .u8 0) := hO1.cell (k := fr.length + 1) (q := 0) (by simp); have hfree1 := hO1.free (fr.length + 1); have hset1 := Lib.hid (hO1.set (fr.length + 1) 128); have HO1 := Lib.hid hO1; have HB1 := Lib.hid hb1; clear hO1 hb1 hown1 hg1 hat1; rw [List.length_append, List.length_append, List.length_cons, List.length_nil, List.length_cons, List.length_nil, Nat.zero_add] at hg13 hset1 HO1 ⊢)
          go_ret
          rw [HN.out]
          exact fresh_own HO1.out HB1.out
        · have hxn : x.toNat < 128 := by omega
          have hnum : numB n = fr ++ [x] := by unfold numB; rw [if_neg (show ¬ n < 0 by omega), ← hZ.out, topped_lo (by omega)]
          have HN := Lib.hid hnum
          clear hnum
          go_wp2_with fail
          go_ret
          rw [HN.out]
          exact fresh_own HO.out hbel

set_option maxRecDepth 100000 in
set_option maxHeartbeats 1600000 in
theorem rnumber_min (w : World)  :
    Calls Try.prog 21 #[.int .i64 (-9223372036854775808)] w (Fresh w (numB (-9223372036854775808))) := by
  obtain ⟨i0, hi, hz0, hz1, hz2⟩ := info_parts info_u8
  have h8 := bytesN_eight (-9223372036854775808) (by omega) (by omega)
  have hmg := mag_le (-9223372036854775808) (by omega) (by omega)
  have hneg : (-9223372036854775808 : Int) < 0 := by decide
  have hm0 : ¬ (-9223372036854775808 : Int) = 0 := by decide
  have hw1 : IntKind.u64.wrap (IntKind.u64.wrap (-IntKind.u64.wrap (-9223372036854775808)) - 1) = (mag (-9223372036854775808) : Nat) := by decide
  have hw2 : (IntKind.u64.wrap (-IntKind.u64.wrap (-9223372036854775808)) == 9223372036854775808) = true := by decide
  go_enter Try.func21, Try.ntmps21
  go_wp2_with fail
  clear hw1 hw2
  go_loopw [3, 4] (fun v x wr => ∃ (m : Nat) (zs : List UInt8), x = .int .u64 (m : Int) ∧ m ≤ 9223372036854775807 ∧ zs.length ≤ 8 ∧ Hid (bytesN (mag (-9223372036854775808)) = zs ++ bytesN m) ∧ OwnB wr w.heap.size v zs ∧ Below w.heap.size w wr) (fun _ x _ => (intOf x).toNat)
  case atStart => exact ⟨mag (-9223372036854775808), [], rfl, hmg, by simp, Lib.hid (by simp), OwnB.nil _ _, Below.refl _ _⟩
  case round =>
    obtain ⟨m, zs, rfl, hm, hzl, hz, hown, hbel⟩ := hrel
    by_cases hlt : 0 < m
    · have hmade : Byt (wr.alloc (.cells #[.int .u8 ((m : Int) % 256)] 5)) (wr.heap.size + 1) (.slice (some ⟨wr.heap.size, 0, none⟩) 1 1) [b8 (m : Int)] := Byt.made wr _ [_] [b8 (m : Int)] (by simp [bv_b8]) (by unfold maxLen; simp)
      unfold OwnB at hown
      have hstep := Lib.hid (bytesN_go hz.out hlt)
      have hzl2 : (zs ++ [b8 (m : Int)]).length ≤ 8 := by
        have h := congrArg List.length hstep.out
        rw [List.length_append] at h
        omega
      have HZ2 := Lib.hid hzl2
      clear hzl2
      go_wp2_with (at_builtin; refine wpList_append_bytes rfl (.tmp 17) (.tmp 21) 22 rfl w.heap.size 5 i0 slice_u8 hi hz0 hz1 hz2 _ zs.length (zs.map bv) rfl (World.ownsRow.alloc hown _) (wr.heap.size + 1) _ [b8 (m : Int)] rfl hmade (by simp; omega) (by have := hbel.size; simp; omega) ?_; intro v1 w1 hown1 hg1 hat1)
      have hb1 : Below w.heap.size w w1 := (hbel.alloc hbel.size _).grown hg1 (by have := hbel.size; simp; omega) (fun j hj => (World.ownsRow.lt hown j hj).1)
      go_roundw
      case rel => exact ⟨m / 256, zs ++ [b8 (m : Int)], by simp, by omega, HZ2.out, hstep, by unfold OwnB; simpa using hown1, hb1⟩
      case measure => simp [intOf]; omega
    · obtain rfl : m = 0 := by omega
      have hz' : zs = bytesN (mag (-9223372036854775808)) := by have := hz.out; rw [bytesN_zero, List.append_nil] at this; exact this.symm
      clear hz
      have hz0m : [] = bytesN (mag (-9223372036854775808)) → (-9223372036854775808) = 0 := fun h => by
        have hv := valN_bytesN (mag (-9223372036854775808))
        rw [← h] at hv
        have : mag (-9223372036854775808) = 0 := hv.symm
        unfold mag at this
        split at this <;> omega
      rcases snoc_cases zs with rfl | ⟨fr, x, rfl⟩
      · exact absurd (hz0m hz') hm0
      · have hZ := Lib.hid hz'
        clear hz' hz0m
        have hbsz := hbel.size
        obtain ⟨g, c, rfl, hg1, hg2, hg3⟩ := hown.block (by simp)
        have hcell : wr.cell? ⟨g, fr.length, none⟩ = some (.int .u8 (x.toNat : Int)) := hown.cell (k := fr.length) (q := x) (by simp)
        have hfree := hown.free fr.length
        have HO := Lib.hid hown
        clear hown
        rw [List.length_append, List.length_cons, List.length_nil, Nat.zero_add] at hzl hg3 HO ⊢
        have hx256 := x.toNat_lt
        by_cases hx : 128 ≤ x.toNat
        · have hmade : Byt (wr.alloc (.cells #[.int .u8 0] 5)) (wr.heap.size + 1) (.slice (some ⟨wr.heap.size, 0, none⟩) 1 1) [0] := Byt.made wr _ [_] [0] (by simp [bv]) (by unfold maxLen; simp)
          have hown2 : wr.ownsRow w.heap.size 5 1 (.slice (some ⟨g, 0, none⟩) (fr.length + 1) c) (fr.length + 1) ((fr ++ [x]).map bv) := by have := HO.out; unfold OwnB at this; rwa [List.length_append, List.length_cons, List.length_nil, Nat.zero_add] at this
          have HH := Lib.hid hown2
          clear hown2
          have hnum : numB (-9223372036854775808) = fr ++ [x] ++ [128] := by unfold numB; rw [if_pos hneg, ← hZ.out, topped_hi hx, signd_snoc]; rfl
          have HN := Lib.hid hnum
          clear hnum
          go_wp2_with (at_builtin; refine wpList_append_bytes rfl (.tmp 37) (.tmp 38) 22 rfl w.heap.size 5 i0 slice_u8 hi hz0 hz1 hz2 _ (fr.length + 1) ((fr ++ [x]).map bv) rfl (World.ownsRow.alloc HH.out _) (wr.heap.size + 1) _ [0] rfl hmade (by simp; omega) (by simp; omega) ?_; intro v1 w1 hown1 hg1 hat1; have hb1 : Below w.heap.size w w1 := (hbel.alloc hbsz _).grown hg1 (by simp; omega) (fun j hj => (World.ownsRow.lt HH.out j hj).1); have hO1 := own_b hown1 (by simp); obtain ⟨g1, c1, rfl, hg11, hg12, hg13⟩ := hO1.block (by simp); have hcell1 : w1.cell? ⟨g1, fr.length + 1, none⟩ = some (.int .u8 0) := hO1.cell (k := fr.length + 1) (q := 0) (by simp); have hfree1 := hO1.free (fr.length + 1); have hset1 := Lib.hid (hO1.set (fr.length + 1) 128); have HO1 := Lib.hid hO1; have HB1 := Lib.hid hb1; clear hO1 hb1 hown1 hg1 hat1; rw [List.length_append, List.length_append, List.length_cons, List.length_nil, List.length_cons, List.length_nil, Nat.zero_add] at hg13 hset1 HO1 ⊢)
          go_ret
          rw [HN.out]
          exact fresh_own (by have := hset1.out; rw [set_snoc1] at this; exact this) (HB1.out.setCell (by show w.heap.size ≤ g1; omega) _)
        · have hxn : x.toNat < 128 := by omega
          have hnum : numB (-9223372036854775808) = fr ++ [UInt8.ofNat (x.toNat % 128 + 128)] := by unfold numB; rw [if_pos hneg, ← hZ.out, topped_lo (by omega), signd_snoc]
          have HN := Lib.hid hnum
          have hset := Lib.hid (HO.out.set fr.length (UInt8.ofNat (x.toNat % 128 + 128)))
          have hhi : ((UInt8.ofNat (x.toNat % 128 + 128)).toNat : Int) = (x.toNat : Int) + 128 := by rw [to_hi]; omega
          have HHI := Lib.hid hhi
          clear hnum hhi
          go_wp2_with fail
          go_ret
          rw [HN.out]
          exact fresh_own (by have := hset.out; rw [set_snoc] at this; unfold bv at this; rw [HHI.out] at this; exact this) (hbel.setCell (by show w.heap.size ≤ g; omega) _)

theorem rnumber_any (n : Int) (w : World) (h0 : -9223372036854775808 ≤ n) (h1 : n ≤ 9223372036854775807) :
    Calls Try.prog 21 #[.int .i64 n] w (Fresh w (numB n)) := by
  by_cases hm : n = -9223372036854775808
  · subst hm; exact rnumber_min w
  · by_cases hn : n < 0
    · exact rnumber_neg n w (by omega) hn
    · exact rnumber_pos n w (by omega) h1
end Go.Proofs.Ytpfobbhoahnebaa

/-
  script.Truth and the reference's. Conditions: sizes within the reach.
-/
namespace Go.Proofs.Ytpfobbhoahnebaa
open Go.RowKit

set_option maxHeartbeats 400000 in
theorem truth1_any (x : UInt8) (w : World) :
    Calls Try.prog 59 #[.int .u8 (x.toNat : Int)] w fun e w' => e = .returned (.bool (x != 0)) ∧ w = w' := by
  have hb : ((x.toNat : Int) != 0) = (x != 0) := by
    rw [Bool.eq_iff_iff]
    simp only [bne_iff_ne, ne_eq]
    exact not_congr ⟨fun h => u8_ext (by show x.toNat = 0; omega), fun h => by subst h; rfl⟩
  have HB := Lib.hid hb
  clear hb
  go_enter Try.func59, Try.ntmps59
  go_wp2
  go_ret
  exact ⟨by rw [← HB.out]; rfl, rfl⟩

/-- Is there one among these bytes, at the index that is answered? -/
def Found (w : World) (xs : List UInt8) (e : Ending) (w' : World) : Prop := ∃ i : Int, e = .returned (.int .i64 i) ∧ decide (0 ≤ i) = xs.any (· != 0) ∧ w = w'

theorem any_take {xs : List UInt8} {k : Nat} (h : k < xs.length) : (xs.take (k + 1)).any (· != 0) = ((xs.take k).any (· != 0) || xs[k] != 0) := by
  rw [List.take_succ_eq_append_getElem h, List.any_append]
  simp

set_option maxRecDepth 100000 in
set_option maxHeartbeats 800000 in
theorem index_truth (B : Nat) (x : Value) (xs : List UInt8) (w : World) (hx : Byt w B x xs) :
    Calls Try.prog 83 #[x, .func (.func 59) #[] #[]] w (Found w xs) := by
  have hlen := hx.len
  unfold maxLen at hlen
  obtain ⟨A, c, rfl⟩ := hx.form
  have hcap := hx.cap
  have HX := Lib.hid hx
  clear hx
  go_enter Try.func83, Try.ntmps83
  go_wp2_with fail
  go_loop [8] (fun s => ∃ k : Nat, k ≤ xs.length ∧ s = .int .i64 (k : Int) ∧ Hid ((xs.take k).any (· != 0) = false)) (fun s => xs.length - (intOf s).toNat)
  case atStart => exact ⟨0, Nat.zero_le _, rfl, Lib.hid (by simp)⟩
  case round =>
    obtain ⟨k, hk, rfl, hno⟩ := hrel
    by_cases hlt : k < xs.length
    · obtain ⟨A', c', e0, _, _, _, h4⟩ := HX.out
      obtain ⟨e1, _, e3⟩ := Value.slice.inj e0
      subst e1 e3
      obtain ⟨b, o, rfl, hb, hc⟩ := h4 (by rintro rfl; simp at hlt)
      have hcell : w.cell? ⟨b, o + k, none⟩ = some (.int .u8 ((xs[k]).toNat : Int)) := hc k _ (List.getElem?_eq_getElem hlt)
      have hsn := any_take hlt
      obtain ⟨q, hq⟩ : ∃ q, q = xs[k] := ⟨_, rfl⟩
      rw [← hq] at hcell hsn
      have HSN := Lib.hid hsn
      clear hc h4 hq hsn e0
      have hd : decide (k < xs.length) = true := by simpa using hlt
      by_cases hq0 : (q != 0) = true
      · have HT := Lib.hid (fun W => truth1_any q W)
        rw [hq0] at HT HSN
        clear hq0
        go_wp2_with fail
        refine (HT.out _).mono ?_
        rintro e w1 ⟨rfl, rfl⟩
        go_wp2_with fail
        go_ret
        refine ⟨k, rfl, ?_, rfl⟩
        rw [decide_eq_true (by omega)]
        have h2 : (xs.take (k + 1)).any (· != 0) = true := by rw [HSN.out]; simp
        symm
        rw [List.any_eq_true] at h2 ⊢
        obtain ⟨y, hy, hy2⟩ := h2
        exact ⟨y, List.mem_of_mem_take hy, hy2⟩
      · have hq1 : (q != 0) = false := by simpa using hq0
        have HT := Lib.hid (fun W => truth1_any q W)
        rw [hq1] at HT HSN
        clear hq0 hq1
        go_wp2_with fail
        refine (HT.out _).mono ?_
        rintro e w1 ⟨rfl, rfl⟩
        go_wp2_with fail
        go_round
        case rel => exact ⟨k + 1, by omega, by go_num, Lib.hid (by rw [HSN.out, hno.out]; rfl)⟩
        case measure => simp [intOf]; omega
    · obtain rfl : k = xs.length := by omega
      go_wp2_with fail
      go_ret
      refine ⟨-1, rfl, ?_, rfl⟩
      have := hno.out
      rw [List.take_length] at this
      rw [this]
      rfl

set_option maxHeartbeats 800000 in
theorem contains_truth (B : Nat) (x : Value) (xs : List UInt8) (w : World) (hx : Byt w B x xs) :
    Calls Try.prog 58 #[x, .func (.func 59) #[] #[]] w fun e w' => e = .returned (.bool (xs.any (· != 0))) ∧ w = w' := by
  have H := Lib.hid (index_truth B x xs w hx)
  obtain ⟨A, c, rfl⟩ := hx.form
  clear hx
  go_enter Try.func58, Try.ntmps58
  go_wp2_with fail
  refine H.out.mono ?_
  rintro e w1 ⟨i, rfl, hi, rfl⟩
  have HI := Lib.hid hi
  clear hi
  go_wp2_with fail
  go_ret
  exact ⟨by rw [← HI.out]; rfl, rfl⟩

set_option maxRecDepth 100000 in
set_option maxHeartbeats 800000 in
theorem truth_any (B : Nat) (x : Value) (xs : List UInt8) (w : World) (hx : Byt w B x xs) :
    Calls Try.prog 22 #[x] w fun e w' => e = .returned (.bool (truthB xs)) ∧ w = w' := by
  have hlen := hx.len
  unfold maxLen at hlen
  rcases snoc_cases xs with rfl | ⟨fr, q, rfl⟩
  · have H := Lib.hid (contains_truth B x [] w hx)
    obtain ⟨A, c, rfl⟩ := hx.form
    clear hx
    go_enter Try.func22, Try.ntmps22
    go_wp2_with fail
    refine H.out.mono ?_
    rintro e w1 ⟨rfl, rfl⟩
    go_wp2_with fail
    go_ret
    exact ⟨rfl, rfl⟩
  · have H := Lib.hid (contains_truth B x (fr ++ [q]) w hx)
    have HX := Lib.hid hx
    obtain ⟨A, c, e0, h1, h2, _, h4⟩ := hx
    subst e0
    obtain ⟨b, o, rfl, hb, hc⟩ := h4 (by simp)
    have hcell : w.cell? ⟨b, o + fr.length, none⟩ = some (.int .u8 (q.toNat : Int)) := hc fr.length q (by simp)
    clear hc h4
    rw [List.length_append, List.length_cons, List.length_nil, Nat.zero_add] at H h1 hlen ⊢
    unfold maxLen at h2
    by_cases hq : q = 128
    · subst hq
      have ht : truthB (fr ++ [128]) = fr.any (· != 0) := truth_sign fr
      have HT := Lib.hid ht
      have H2 := Lib.hid (contains_truth B _ fr w (by
        refine ⟨some ⟨b, o, none⟩, c, rfl, by omega, by unfold maxLen; omega, (by intro h; cases h), fun _ => ⟨b, o, rfl, hb, fun j u hu => ?_⟩⟩
        obtain ⟨A', c', e', _, _, _, h4⟩ := HX.out
        obtain ⟨e1, _, e3⟩ := Value.slice.inj e'
        subst e1 e3
        obtain ⟨b', o', e1, hb', hc'⟩ := h4 (by simp)
        cases e1
        exact hc' j u (by rw [List.getElem?_append_left (List.getElem?_eq_some_iff.1 hu).1]; exact hu)))
      clear ht H
      go_enter Try.func22, Try.ntmps22
      go_wp2_with fail
      refine H2.out.mono ?_
      rintro e w1 ⟨rfl, rfl⟩
      go_wp2_with fail
      go_ret
      exact ⟨by rw [HT.out]; rfl, rfl⟩
    · have ht : truthB (fr ++ [q]) = (fr.any (· != 0) || q != 0) := truth_plain hq
      have HT := Lib.hid ht
      have hq2 : ((q.toNat : Int) == 128) = false := by
        have : q.toNat ≠ 128 := fun h => hq (u8_ext h)
        simp only [beq_eq_false_iff_ne, ne_eq]
        omega
      clear ht
      go_enter Try.func22, Try.ntmps22
      go_wp2_with fail
      refine H.out.mono ?_
      rintro e w1 ⟨rfl, rfl⟩
      go_wp2_with fail
      go_ret
      exact ⟨by rw [HT.out]; rfl, rfl⟩

theorem truth_at {xs : List UInt8} {k : Nat} (h : k < xs.length) (h0 : xs[k] ≠ 0) (h1 : xs[k] = 128 → k + 1 < xs.length) : truthB xs = true := by
  rcases snoc_cases xs with rfl | ⟨fr, q, rfl⟩
  · simp at h
  · rw [List.length_append, List.length_cons, List.length_nil, Nat.zero_add] at h h1
    by_cases hk : k < fr.length
    · rw [List.getElem_append_left hk] at h0
      have ha : fr.any (· != 0) = true := List.any_eq_true.2 ⟨fr[k], List.getElem_mem hk, by simpa using h0⟩
      by_cases hq : q = 128
      · subst hq; rw [truth_sign, ha]
      · rw [truth_plain hq, ha]; rfl
    · obtain rfl : k = fr.length := by omega
      have e : (fr ++ [q])[fr.length]'(by simp) = q := by simp
      rw [e] at h0 h1
      have hq : q ≠ 128 := fun hq => by have := h1 hq; omega
      rw [truth_plain hq, show (q != 0) = true by simpa using h0, Bool.or_true]
theorem truth_none {xs : List UInt8} (h : ∀ k (hk : k < xs.length), xs[k] = 0 ∨ (xs[k] = 128 ∧ k + 1 = xs.length)) : truthB xs = false := by
  rcases snoc_cases xs with rfl | ⟨fr, q, rfl⟩
  · rfl
  · have ha : fr.any (· != 0) = false := by
      rw [List.any_eq_false]
      intro c hc
      obtain ⟨k, hk, e⟩ := List.getElem_of_mem hc
      have h2 := h k (by simp; omega)
      rw [List.getElem_append_left hk, e] at h2
      rcases h2 with h2 | ⟨_, h2⟩
      · simp [h2]
      · simp at h2; omega
    have h2 := h fr.length (by simp)
    have e : (fr ++ [q])[fr.length]'(by simp) = q := by simp
    rw [e] at h2
    rcases h2 with h2 | ⟨h2, _⟩
    · subst h2; rw [truth_plain (by decide), ha]; rfl
    · subst h2; rw [truth_sign, ha]
theorem nz_int {q : UInt8} (h : q ≠ 0) : ((q.toNat : Int) != 0) = true := by
  have : q.toNat ≠ 0 := fun e => h (u8_ext e)
  simp only [bne_iff_ne, ne_eq]
  omega
theorem eq128_int {q : UInt8} (h : q ≠ 128) : ((q.toNat : Int) == 128) = false := by
  have : q.toNat ≠ 128 := fun e => h (u8_ext e)
  simp only [beq_eq_false_iff_ne, ne_eq]
  omega

set_option maxRecDepth 100000 in
set_option maxHeartbeats 1600000 in
theorem rtruth_any (B : Nat) (x : Value) (xs : List UInt8) (w : World) (hx : Byt w B x xs) :
    Calls Try.prog 23 #[x] w fun e w' => e = .returned (.bool (truthB xs)) ∧ w = w' := by
  have hlen := hx.len
  unfold maxLen at hlen
  obtain ⟨A, c, rfl⟩ := hx.form
  have hcap := hx.cap
  have HX := Lib.hid hx
  clear hx
  go_enter Try.func23, Try.ntmps23
  go_wp2_with fail
  go_loop [3] (fun s => ∃ k : Nat, k ≤ xs.length ∧ s = .int .i64 (k : Int) ∧ Hid (∀ j (hj : j < xs.length), j < k → xs[j] = 0 ∨ (xs[j] = 128 ∧ j + 1 = xs.length))) (fun s => xs.length - (intOf s).toNat)
  case atStart => exact ⟨0, Nat.zero_le _, rfl, Lib.hid (fun j _ h => by omega)⟩
  case round =>
    obtain ⟨k, hk, rfl, hno⟩ := hrel
    by_cases hlt : k < xs.length
    · obtain ⟨A', c', e0, _, _, _, h4⟩ := HX.out
      obtain ⟨e1, _, e3⟩ := Value.slice.inj e0
      subst e1 e3
      obtain ⟨b, o, rfl, hb, hc⟩ := h4 (by rintro rfl; simp at hlt)
      have hcell : w.cell? ⟨b, o + k, none⟩ = some (.int .u8 ((xs[k]).toNat : Int)) := hc k _ (List.getElem?_eq_getElem hlt)
      obtain ⟨q, hq⟩ : ∃ q, q = xs[k] := ⟨_, rfl⟩
      rw [← hq] at hcell
      have HQ := Lib.hid hq
      clear hc h4 hq e0
      have hd : decide (k < xs.length) = true := by simpa using hlt
      have next : (q = 0 ∨ (q = 128 ∧ k + 1 = xs.length)) → Hid (∀ j (hj : j < xs.length), j < k + 1 → xs[j] = 0 ∨ (xs[j] = 128 ∧ j + 1 = xs.length)) := fun h => Lib.hid fun j hj hjk => by
        by_cases e : j = k
        · subst e; rw [← HQ.out]; exact h
        · exact hno.out j hj (by omega)
      have NX := Lib.hid next
      clear next
      by_cases h0 : q = 0
      · subst h0
        have hn := Lib.hid (NX.out (.inl rfl))
        have hb0 : (((0 : UInt8).toNat : Int) != 0) = false := rfl
        go_wp2_with fail
        go_round
        case rel => exact ⟨k + 1, by omega, by go_num, hn.out⟩
        case measure => simp [intOf]; omega
      · have hb0 := nz_int h0
        by_cases h8 : q = 128
        · subst h8
          have hb8 : (((128 : UInt8).toNat : Int) == 128) = true := rfl
          by_cases hl : k + 1 = xs.length
          · have hn := Lib.hid (NX.out (.inr ⟨rfl, hl⟩))
            have hkl : ((k : Int) == (xs.length : Int) - 1) = true := by simp only [beq_iff_eq]; omega
            go_wp2_with fail
            go_round
            case rel => exact ⟨k + 1, by omega, by go_num, hn.out⟩
            case measure => simp [intOf]; omega
          · have hkl : ((k : Int) == (xs.length : Int) - 1) = false := by simp only [beq_eq_false_iff_ne, ne_eq]; omega
            go_wp2_with fail
            go_ret
            exact ⟨by rw [truth_at (k := k) hlt (by rw [← HQ.out]; decide) (fun _ => by omega)]; rfl, rfl⟩
        · have hb8 := eq128_int h8
          go_wp2_with fail
          go_ret
          exact ⟨by rw [truth_at (k := k) hlt (by rw [← HQ.out]; exact h0) (fun h => absurd (HQ.out.trans h) h8)]; rfl, rfl⟩
    · obtain rfl : k = xs.length := by omega
      go_wp2_with fail
      go_ret
      exact ⟨by rw [truth_none (fun k hk => hno.out k hk hk)]; rfl, rfl⟩
end Go.Proofs.Ytpfobbhoahnebaa

/-
  slices.Backward over bytes: the library's iterator hands out each index with its byte, the last one first, to every loop body that keeps what lay ahead of it. Conditions: none.
-/
namespace Go.Proofs.Ytpfobbhoahnebaa
open Go.RowKit Go.Shelf

attribute [local go_sem] Oper.semAt_some

/-- What has come when k rounds are over: f 0, .., f (k - 1). -/
def upto {α : Type} (f : Nat → α) (k : Nat) : List α := (List.range k).map f
theorem upto_succ {α : Type} (f : Nat → α) (k : Nat) : upto f (k + 1) = upto f k ++ [f k] := by simp [upto, List.range_succ]
/-- The blocks of S lie as they lay. -/
def Holds (S : Nat → Prop) (A B : World) : Prop := ∀ k, S k → B.heap[k]? = A.heap[k]?
theorem Holds.refl (S : Nat → Prop) (A : World) : Holds S A A := fun _ _ => rfl
theorem Holds.trans {S : Nat → Prop} {A B C : World} (h : Holds S A B) (k : Holds S B C) : Holds S A C := fun i hi => (k i hi).trans (h i hi)
theorem Holds.cell {S : Nat → Prop} {A B : World} (h : Holds S A B) {p : Addr} (hp : S p.block) : B.cell? p = A.cell? p := World.cell?_of_block (w := A) (h p.block hp)
theorem Holds.of_below {S : Nat → Prop} {n : Nat} {A B : World} (h : Below n A B) (hS : ∀ k, S k → k < n) : Holds S A B := fun k hk => h.block k (hS k hk)
theorem Holds.setCell {S : Nat → Prop} {A B : World} (h : Holds S A B) {p : Addr} (hp : ¬ S p.block) (u : Value) : Holds S A (B.setCell p u) :=
  fun k hk => (Below.heap_setCell _ _ _ _ (by rintro rfl; exact hp hk)).trans (h k hk)
theorem Holds.putObj {S : Nat → Prop} (W : World) (l : Nat) (o : Obj) (hl : ¬ S l) : Holds S W (W.putObj l o) := fun k hk => by
  have hne : l ≠ k := by rintro rfl; exact hl hk
  simp [World.putObj, Array.getElem?_setIfInBounds, hne]
theorem upto_length {α : Type} (f : Nat → α) (k : Nat) : (upto f k).length = k := by simp [upto]

/-- The j-th that comes, of bytes from the end on. -/
def fromEnd (bs : List UInt8) (j : Nat) : Nat × UInt8 := (bs.length - 1 - j, bs[bs.length - 1 - j]?.getD 0)

set_option maxRecDepth 100000 in
set_option maxHeartbeats 2000000 in
theorem backw1_in (F : Fence) (n : Nat) (hf : F.fn 98) (hro : F.round = none) (hn : 1 ≤ n) (l Bs B : Nat) (S : Nat → Prop) (v : Value) (bs : List UInt8) (J Jx : List (Nat × UInt8) → World → Prop)
    (hY : ∀ pre x W, J pre W → pre.length < bs.length → YieldAt F (n - 1) Try.prog l #[.int .i64 (x.1 : Int), .int .u8 (x.2.toNat : Int)] W fun e W' =>
      (e = .returned (.bool true) ∧ J (pre ++ [x]) W' ∧ Holds S W W') ∨ (e = .returned (.bool false) ∧ Jx (pre ++ [x]) W'))
    (W : World) (hBs : W.cell? ⟨Bs, 0, none⟩ = some v) (hBn : S Bs) (hv : Byt W B v bs) (hSv : ∀ k, v.ownBlock = some k → S k) (h0 : J [] W) :
    CallsIn F n Try.prog 98 #[.func (.yield l) #[] #[], .pointer (some ⟨Bs, 0, none⟩)] W fun e W' => (∃ v, e = .returned v) ∧
      ((∃ ys, ys = upto (fromEnd bs) bs.length ∧ J ys W') ∨ (∃ pre, (∃ k, k ≤ bs.length ∧ pre = upto (fromEnd bs) k) ∧ Jx pre W')) := by
  have hlen := hv.len
  unfold maxLen at hlen
  obtain ⟨A, c, rfl, _, _, _, hx⟩ := hv
  have HX := Lib.hid hx
  clear hx
  refine callsIn_of_wp Try.func98 rfl hf ?_ hro
  simp only [Try.ntmps98, List.size_toArray, List.length_cons, List.length_nil, Nat.reduceAdd, Nat.reduceSub, Array.replicate_succ, Array.replicate_zero, List.push_toArray, List.append_toArray, List.nil_append, List.cons_append]
  gi_wp2
  gi_loopw [3] (fun i wr => ∃ k : Nat, k ≤ bs.length ∧ i = .int .i64 ((bs.length : Int) - 1 - k) ∧ J (upto (fromEnd bs) k) wr ∧ Holds S W wr)
    (fun i _ => (intOf i + 1).toNat)
  case atStart => exact ⟨0, Nat.zero_le _, by simp, h0, Holds.refl _ _⟩
  case round =>
    obtain ⟨k, hk, rfl, hJs, hnx⟩ := hrel
    have hbx : wr.cell? ⟨Bs, 0, none⟩ = some (.slice A bs.length c) := (hnx.cell (p := ⟨Bs, 0, none⟩) hBn).trans hBs
    by_cases hlt : k < bs.length
    · obtain ⟨m, hm⟩ : ∃ m : Nat, m = bs.length - 1 - k := ⟨_, rfl⟩
      have ei : (bs.length : Int) - 1 - (k : Int) = (m : Int) := by omega
      have hml : m < bs.length := by omega
      obtain ⟨b, o, rfl, hb, hc⟩ := HX.out (by rintro rfl; simp at hlt)
      have hcell : wr.cell? ⟨b, o + m, none⟩ = some (bv bs[m]) := (hnx.cell (p := ⟨b, o + m, none⟩) (hSv b rfl)).trans (hc m _ (List.getElem?_eq_getElem hml))
      have hfe : fromEnd bs k = (m, bs[m]) := by unfold fromEnd; rw [← hm, List.getElem?_eq_getElem hml]; rfl
      obtain ⟨fn, tmps, assign, body, hy, hR⟩ := hY _ (m, bs[m]) wr hJs (by rw [upto_length]; exact hlt)
      obtain ⟨z, hz⟩ : ∃ z, z = bs[m] := ⟨_, rfl⟩
      rw [← hz] at hcell hfe hy hR
      dsimp only at hy
      unfold bv at hcell
      have HFE := Lib.hid hfe
      have HM := Lib.hid hm
      have EI := Lib.hid ei
      rw [ei]
      clear hz hfe hm hc ei
      gi_wp2
      refine hR.mono ?_
      rintro e W3 (⟨rfl, hJ3, hk3⟩ | ⟨rfl, hJx3⟩)
      · gi_wp2
        go_roundw
        case rel => exact ⟨k + 1, by omega, by congr 1; have := EI.out; omega, by rw [upto_succ, HFE.out]; exact hJ3, hnx.trans hk3⟩
        case measure => simp [intOf]
      · gi_wp2
        refine bodyPost_ret (results_none rfl _ _ _) rfl ?_
        exact ⟨⟨_, rfl⟩, .inr ⟨_, ⟨k + 1, by omega, by rw [upto_succ, HFE.out]⟩, hJx3⟩⟩
    · obtain rfl : k = bs.length := by omega
      gi_wp2
      go_end0
      exact ⟨⟨_, rfl⟩, .inl ⟨_, rfl, hJs⟩⟩

set_option maxHeartbeats 1000000 in
/-- slices.Backward(s): the slice value is boxed; the function value captures the box. -/
theorem backw_in (F : Fence) (n : Nat) (hf : F.fn 84) (hro : F.round = none) (a : Option Addr) (len cap : Nat) (w : World) :
    CallsIn F n Try.prog 84 #[.slice a len cap] w fun e w' => e = .returned (.func (.func 98) #[] #[.pointer (some ⟨w.heap.size, 0, none⟩)]) ∧ w' = w.alloc (.cells #[.slice a len cap] 22) := by
  refine callsIn_of_wp Try.func84 rfl hf ?_ hro
  simp only [Try.ntmps84, List.size_toArray, List.length_cons, List.length_nil, Nat.reduceAdd, Nat.reduceSub, Array.replicate_succ, Array.replicate_zero, List.push_toArray, List.append_toArray, List.nil_append, List.cons_append]
  gi_wp2
  go_ret
  exact ⟨rfl, rfl⟩

/-- What slices.Backward hands back: all bytes from the end on; or the first k of them. -/
theorem backw_stops (F : Fence) (n : Nat) (hf : F.fn 98) (hro : F.round = none) (hn : 1 ≤ n) (Bs B : Nat) (S : Nat → Prop) (v : Value) (bs : List UInt8) (w : World) (hBs : S Bs) (hBw : Bs < w.heap.size) (hB : B ≤ w.heap.size) (hSv : ∀ k, v.ownBlock = some k → S k)
    (hc : w.cell? ⟨Bs, 0, none⟩ = some v) (hv : Byt w B v bs) :
    SeqStopsK F n Try.prog 98 #[.pointer (some ⟨Bs, 0, none⟩)] (fun x : Nat × UInt8 => #[Value.int .i64 (x.1 : Int), Value.int .u8 (x.2.toNat : Int)]) (Holds S) (fun ys => ys = upto (fromEnd bs) bs.length) (fun pre => ∃ k, k ≤ bs.length ∧ pre = upto (fromEnd bs) k) bs.length w := fun l J Jx W hW _ _ hY h0 => by
  have hc' := (hW.cell (p := ⟨Bs, 0, none⟩) hBw).trans hc
  exact backw1_in F n hf hro hn l Bs B S v bs J Jx hY W hc' hBs (hv.keep fun b o hb => hW.cell (p := ⟨b, o, none⟩) (by show b < _; omega)) hSv h0
end Go.Proofs.Ytpfobbhoahnebaa
