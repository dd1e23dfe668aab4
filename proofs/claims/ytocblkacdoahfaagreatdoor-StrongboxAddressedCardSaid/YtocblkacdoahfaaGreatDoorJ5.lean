/-
  Texts joined: Op, Own, SnNum. Conditions: those of each.
-/
import Derived.Test.YtocblkacdoahfaaGreatDoorJ4
import Derived.BigQuiet
import Derived.Deep.QuietTactic
import Derived.IntWalk
import Derived.Deep.RegionHeld
import Derived.OrdersHeld
import Derived.Test.YtocblkacdoahfaaGreatDoorJ1
/-
  An append of bytes, at an operation of a region that draws its order. Conditions: sizes within the reach.
-/
namespace Go.Proofs.YtocblkacdoahfaaGreatDoor
open Go.RowKit

/-- Says nothing. -/
def AnyW (_ : World) : Prop := True
theorem anyW (w : World) : AnyW w := trivial

theorem op_append_bytes {P : Program} {w : World} {o : Oper} {a : Act} {K : Act → World → Prop} {Q : Exit → Act → World → Prop} (s x : Operand) (t : TypeId)
    (ho : o.op = .call { callee := .builtin .append, args := #[s, x], argTypes := #[t, t] })
    (base : Nat) (e : TypeId) (i : TypeInfo) (ht : P.underlying t = some (.slice e)) (hi : P.info? e = some i)
    (hz : i.zero = some (.int .u8 0)) (hsize : i.size = 1) (hby : i.bytes = 1)
    (v : Value) (n : Nat) (xs : List Value) (hs : a.eval s = v) (hown : w.ownsRow base e 1 v n xs)
    (B : Nat) (u : Value) (ys : List UInt8) (hx : a.eval x = u) (hr : Byt w B u ys) (hb : n + ys.length ≤ 140737488355328) (hbase : base ≤ w.heap.size)
    (h : ∀ v' w', w'.ownsRow base e 1 v' (n + ys.length) (xs ++ ys.map bv) → w.grownBy w' v.ownBlock → (v'.ownBlock = v.ownBlock ∨ v'.ownBlock = some w.heap.size) → K (a.put o.dst v') w') :
    o.wp P a w K Q := by
  obtain ⟨v', w', hrun, h2, h3, h4⟩ := run_append_bytes (P := P) w base t o.type e i ht hi hz hsize hby v n xs hown B u ys hr hb hbase
  unfold Oper.wp execOp
  simp only [ho, resolve, invoke, builtin, Sem.run_bind, Sem.run_pure, Result.andThen_ok, List.map_toArray, List.map_cons, List.map_nil, hs, hx, hrun]
  exact h v' w' h2 h3 h4
end Go.Proofs.YtocblkacdoahfaaGreatDoor

/-
  A row of bytes of the call's own: what may be read, and what a store changes. Conditions: none.
-/
namespace Go.Proofs.YtocblkacdoahfaaGreatDoor
open Go.RowKit

/-- The slice value v owns these bytes, in a block from base on. -/
def OwnB (w : World) (base : Nat) (v : Value) (ys : List UInt8) : Prop := w.ownsRow base 5 1 v ys.length (ys.map bv)
theorem OwnB.nil (w : World) (base : Nat) : OwnB w base (.slice none 0 0) [] := World.ownsRow_nil _ _ _ _
theorem OwnB.form {w : World} {base : Nat} {v : Value} {ys : List UInt8} (h : OwnB w base v ys) : ∃ A c, v = .slice A ys.length c := own_form h
theorem OwnB.block {w : World} {base : Nat} {v : Value} {ys : List UInt8} (h : OwnB w base v ys) (hn : 0 < ys.length) : ∃ g c, v = .slice (some ⟨g, 0, none⟩) ys.length c ∧ base ≤ g ∧ g < w.heap.size ∧ ys.length ≤ c := by
  rcases h.2 with ⟨_, h0⟩ | ⟨g, cap, cur, rfl, hb, hg, hnc, _⟩
  · omega
  · exact ⟨g, cap, rfl, hb, (Array.getElem?_eq_some_iff.1 hg).1, hnc⟩
theorem OwnB.cell {w : World} {base g n c k : Nat} {q : UInt8} {ys : List UInt8} (h : OwnB w base (.slice (some ⟨g, 0, none⟩) n c) ys) (hk : ys[k]? = some q) : w.cell? ⟨g, k, none⟩ = some (bv q) := by
  have h1 := World.ownsRow.cells (g := g) h rfl k (bv q) (by rw [List.getElem?_map, hk]; rfl)
  have hadd : (⟨g, 0, none⟩ : Addr).add k = ⟨g, 0 + k, none⟩ := by unfold Addr.add; split <;> simp_all
  rw [hadd, Nat.zero_add] at h1
  exact h1
theorem OwnB.free {w : World} {base g n c : Nat} {ys : List UInt8} (h : OwnB w base (.slice (some ⟨g, 0, none⟩) n c) ys) (k : Nat) : w.frozen? ⟨g, k, none⟩ = false := by
  rcases h.2 with ⟨e, _⟩ | ⟨g', cap, cur, e, _, hg, _⟩
  · cases e
  · injection e with e1 _ _
    injection e1 with e1
    injection e1 with e1
    subst e1
    simp [World.frozen?, hg]
theorem OwnB.set {w : World} {base g n c : Nat} {ys : List UInt8} (h : OwnB w base (.slice (some ⟨g, 0, none⟩) n c) ys) (k : Nat) (q : UInt8) : OwnB (w.setCell ⟨g, k, none⟩ (bv q)) base (.slice (some ⟨g, 0, none⟩) n c) (ys.set k q) := by
  unfold OwnB at h ⊢
  rw [List.length_set]
  refine ⟨by simp, ?_⟩
  rcases h.2 with ⟨e, _⟩ | ⟨g', cap, cur, e, hb, hg, hnc, hcm, hcs, ht⟩
  · cases e
  · have e' := e
    injection e' with e1 _ _
    injection e1 with e1
    injection e1 with e1
    subst e1
    refine .inr ⟨g, cap, cur.setIfInBounds k (bv q), e, hb, ?_, hnc, hcm, by simpa using hcs, ?_⟩
    · simp [World.setCell, Array.getElem?_modify, hg]
    · rw [Array.toList_setIfInBounds, List.map_set, ← ht]
      exact List.take_set
theorem OwnB.byt {w : World} {base : Nat} {v : Value} {ys : List UInt8} (h : OwnB w base v ys) : Byt w w.heap.size v ys := Byt.of_own h
end Go.Proofs.YtocblkacdoahfaaGreatDoor

/-
  script.Number and the reference's: a number's bytes. Conditions: none.
-/
namespace Go.Proofs.YtocblkacdoahfaaGreatDoor.Sn
open Go.RowKit

theorem and128_fin : ∀ n : Fin 256, bits .and .u8 (n.val : Int) 128 = if 128 ≤ n.val then 128 else 0 := by decide +kernel
theorem or128_fin : ∀ n : Fin 256, bits .or .u8 (n.val : Int) 128 = ((n.val % 128 + 128 : Nat) : Int) := by decide +kernel
theorem andNot128_fin : ∀ n : Fin 256, bits .andNot .u8 (n.val : Int) 128 = ((n.val % 128 : Nat) : Int) := by decide +kernel
theorem and128 (x : UInt8) : bits .and .u8 (x.toNat : Int) 128 = if 128 ≤ x.toNat then 128 else 0 := and128_fin ⟨x.toNat, x.toNat_lt⟩
theorem or128 (x : UInt8) : bits .or .u8 (x.toNat : Int) 128 = ((x.toNat % 128 + 128 : Nat) : Int) := or128_fin ⟨x.toNat, x.toNat_lt⟩
theorem andNot128 (x : UInt8) : bits .andNot .u8 (x.toNat : Int) 128 = ((x.toNat % 128 : Nat) : Int) := andNot128_fin ⟨x.toNat, x.toNat_lt⟩

set_option maxRecDepth 100000 in
set_option maxHeartbeats 400000 in
theorem absolute_any (n : Int) (w : World) (h0 : -9223372036854775808 ≤ n) (h1 : n ≤ 9223372036854775807) :
    Calls Tryz.prog 81 #[.int .i64 n] w fun e w' => e = .returned (.int .i64 (mag n : Nat)) ∧ w = w' := by
  by_cases hn : n < 0
  · by_cases hm : n = -9223372036854775808
    · subst hm
      go_enter Tryz.func81, Tryz.ntmps81
      go_wp2
      go_ret
      exact ⟨rfl, rfl⟩
    · have hmag : (mag n : Int) = -n := by unfold mag; rw [if_neg hm]; omega
      have HM := Lib.hid hmag
      clear hmag
      have hlt : -9223372036854775807 ≤ n := by omega
      go_enter Tryz.func81, Tryz.ntmps81
      go_wp2
      go_ret
      exact ⟨by rw [HM.out]; rfl, rfl⟩
  · have hmag : (mag n : Int) = n := by unfold mag; rw [if_neg (by omega)]; omega
    have HM := Lib.hid hmag
    clear hmag
    go_enter Tryz.func81, Tryz.ntmps81
    go_wp2
    go_ret
    exact ⟨by rw [HM.out]; rfl, rfl⟩

theorem fresh_own {w w' : World} {v : Value} {xs : List UInt8} (h : OwnB w' w.heap.size v xs) (hb : Below w.heap.size w w') : Fresh w xs (.returned v) w' := fresh_of h hb
theorem own_b {w : World} {base n : Nat} {v : Value} {ys zs : List UInt8} (h : w.ownsRow base 5 1 v n (ys.map bv ++ zs.map bv)) (hn : n = ys.length + zs.length) : OwnB w base v (ys ++ zs) := by
  subst hn
  unfold OwnB
  rw [List.length_append, List.map_append]
  exact h
theorem set_snoc (fr : List UInt8) (x y : UInt8) : (fr ++ [x]).set fr.length y = fr ++ [y] := by simp
theorem set_snoc1 (fr : List UInt8) (x y z : UInt8) : (fr ++ [x] ++ [z]).set (fr.length + 1) y = fr ++ [x] ++ [y] := by simp

theorem bytesN_eight (n : Int) (h0 : -9223372036854775808 ≤ n) (h1 : n ≤ 9223372036854775807) : (bytesN (mag n)).length ≤ 8 :=
  bytesN_len 8 (mag n) (by rw [show (256 : Nat) ^ 8 = 18446744073709551616 by decide]; unfold mag; split <;> omega)
theorem mag_le (n : Int) (h0 : -9223372036854775808 ≤ n) (h1 : n ≤ 9223372036854775807) : mag n ≤ 9223372036854775807 := by unfold mag; split <;> omega
theorem bytesN_go {t zs : List UInt8} {m : Nat} (h : t = zs ++ bytesN m) (hm : 0 < m) : t = (zs ++ [b8 (m : Int)]) ++ bytesN (m / 256) := by
  rw [h, bytesN_pos hm, List.append_assoc]
  exact congrArg (fun c => zs ++ c :: bytesN (m / 256)) (u8_ext (by have := b8_toNat (m : Int); rw [u8_of]; omega))

set_option maxRecDepth 100000 in
set_option maxHeartbeats 1600000 in
theorem number_any (n : Int) (w : World) (h0 : -9223372036854775808 ≤ n) (h1 : n ≤ 9223372036854775807) :
    Calls Tryz.prog 49 #[.int .i64 n] w (Fresh w (numB n)) := by
  obtain ⟨i0, hi, hz0, hz1, hz2⟩ := info_parts info_u8
  have h8 := bytesN_eight n h0 h1
  have hmg := mag_le n h0 h1
  go_enter Tryz.func49, Tryz.ntmps49
  go_wp2_with fail
  refine (absolute_any n _ h0 h1).mono ?_
  rintro e w1 ⟨rfl, rfl⟩
  go_wp2_with fail
  go_loopw [3, 4] (fun v x wr => ∃ (m : Nat) (zs : List UInt8), x = .int .i64 (m : Int) ∧ m ≤ 9223372036854775807 ∧ zs.length ≤ 8 ∧ Hid (bytesN (mag n) = zs ++ bytesN m) ∧ OwnB wr w.heap.size v zs ∧ Below w.heap.size w wr) (fun _ x _ => (intOf x).toNat)
  case atStart => exact ⟨mag n, [], rfl, hmg, by simp, Lib.hid (by simp), OwnB.nil _ _, Below.refl _ _⟩
  case round =>
    obtain ⟨m, zs, rfl, hm, hzl, hz, hown, hbel⟩ := hrel
    by_cases hlt : 0 < m
    · have hmade : Byt (wr.alloc (.cells #[.int .u8 ((m : Int) % 256)] 5)) (wr.heap.size + 1) (.slice (some ⟨wr.heap.size, 0, none⟩) 1 1) [b8 (m : Int)] := Byt.made wr _ [_] [b8 (m : Int)] (by simp [bv_b8]) (by unfold maxLen; simp)
      unfold OwnB at hown
      have hstep := Lib.hid (bytesN_go hz.out hlt)
      have hzl2 : (zs ++ [b8 (m : Int)]).length ≤ 8 := by
        have h := congrArg List.length hstep.out
        rw [List.length_append] at h
        omega
      have HZ2 := Lib.hid hzl2
      clear hzl2
      go_wp2_with (at_builtin; refine wpList_append_bytes rfl (.tmp 12) (.tmp 15) 23 rfl w.heap.size 5 i0 slice_u8 hi hz0 hz1 hz2 _ zs.length (zs.map bv) rfl (World.ownsRow.alloc hown _) (wr.heap.size + 1) _ [b8 (m : Int)] rfl hmade (by simp; omega) (by have := hbel.size; simp; omega) ?_; intro v1 w1 hown1 hg1 hat1)
      have hb1 : Below w.heap.size w w1 := (hbel.alloc hbel.size _).grown hg1 (by have := hbel.size; simp; omega) (fun j hj => (World.ownsRow.lt hown j hj).1)
      go_roundw
      case rel => exact ⟨m / 256, zs ++ [b8 (m : Int)], by simp, by omega, HZ2.out, hstep, by unfold OwnB; simpa using hown1, hb1⟩
      case measure => simp [intOf]; omega
    · obtain rfl : m = 0 := by omega
      have hz' : zs = bytesN (mag n) := by have := hz.out; rw [bytesN_zero, List.append_nil] at this; exact this.symm
      clear hz
      rcases snoc_cases zs with rfl | ⟨fr, x, rfl⟩
      · have hn0 : n = 0 := by
          have hv := valN_bytesN (mag n)
          rw [← hz'] at hv
          have : mag n = 0 := hv.symm
          unfold mag at this
          split at this <;> omega
        subst hn0
        have hnum : numB 0 = [] := numB_neg0
        have HN := Lib.hid hnum
        clear hnum hz'
        obtain ⟨A, c, rfl⟩ := hown.form
        go_wp2_with fail
        go_ret
        rw [HN.out]
        exact fresh_of hown hbel
      · have hZ := Lib.hid hz'
        clear hz'
        have hbsz := hbel.size
        obtain ⟨g, c, rfl, hg1, hg2, hg3⟩ := hown.block (by simp)
        have hcell : wr.cell? ⟨g, fr.length, none⟩ = some (.int .u8 (x.toNat : Int)) := hown.cell (k := fr.length) (q := x) (by simp)
        have hfree := hown.free fr.length
        have HO := Lib.hid hown
        clear hown
        rw [List.length_append, List.length_cons, List.length_nil, Nat.zero_add] at hzl hg3 HO ⊢
        by_cases hx : 128 ≤ x.toNat
        · have hand : bits .and .u8 (x.toNat : Int) 128 = 128 := by rw [and128, if_pos hx]
          have hmade : Byt (wr.alloc (.cells #[.int .u8 0] 5)) (wr.heap.size + 1) (.slice (some ⟨wr.heap.size, 0, none⟩) 1 1) [0] := Byt.made wr _ [_] [0] (by simp [bv]) (by unfold maxLen; simp)
          have hown2 : wr.ownsRow w.heap.size 5 1 (.slice (some ⟨g, 0, none⟩) (fr.length + 1) c) (fr.length + 1) ((fr ++ [x]).map bv) := by have := HO.out; unfold OwnB at this; rwa [List.length_append, List.length_cons, List.length_nil, Nat.zero_add] at this
          have HH := Lib.hid hown2
          clear hown2
          by_cases hn : n < 0
          · have hnum : numB n = fr ++ [x] ++ [128] := by unfold numB; rw [if_pos hn, ← hZ.out, topped_hi hx, signd_snoc]; rfl
            have HN := Lib.hid hnum
            clear hnum
            have hor : bits .or .u8 (0 : Int) 128 = 128 := or128 0
            go_wp2_with (at_builtin; refine wpList_append_bytes rfl (.tmp 30) (.tmp 31) 23 rfl w.heap.size 5 i0 slice_u8 hi hz0 hz1 hz2 _ (fr.length + 1) ((fr ++ [x]).map bv) rfl (World.ownsRow.alloc HH.out _) (wr.heap.size + 1) _ [0] rfl hmade (by simp; omega) (by simp; omega) ?_; intro v1 w1 hown1 hg1 hat1; have hb1 : Below w.heap.size w w1 := (hbel.alloc hbsz _).grown hg1 (by simp; omega) (fun j hj => (World.ownsRow.lt HH.out j hj).1); have hO1 := own_b hown1 (by simp); obtain ⟨g1, c1, rfl, hg11, hg12, hg13⟩ := hO1.block (by simp); have hcell1 : w1.cell? ⟨g1, fr.length + 1, none⟩ = some (.int .u8 0) := hO1.cell (k := fr.length + 1) (q := 0) (by simp); have hfree1 := hO1.free (fr.length + 1); have hset1 := Lib.hid (hO1.set (fr.length + 1) 128); have HO1 := Lib.hid hO1; have HB1 := Lib.hid hb1; clear hO1 hb1 hown1 hg1 hat1; rw [List.length_append, List.length_append, List.length_cons, List.length_nil, List.length_cons, List.length_nil, Nat.zero_add] at hg13 hset1 HO1 ⊢)
            go_ret
            rw [HN.out]
            exact fresh_own (by have := hset1.out; rw [set_snoc1] at this; exact this) (HB1.out.setCell (by show w.heap.size ≤ g1; omega) _)
          · have hnum : numB n = fr ++ [x] ++ [0] := by unfold numB; rw [if_neg hn, ← hZ.out, topped_hi hx]
            have HN := Lib.hid hnum
            clear hnum
            go_wp2_with (at_builtin; refine wpList_append_bytes rfl (.tmp 30) (.tmp 31) 23 rfl w.heap.size 5 i0 slice_u8 hi hz0 hz1 hz2 _ (fr.length + 1) ((fr ++ [x]).map bv) rfl (World.ownsRow.alloc HH.out _) (wr.heap.size + 1) _ [0] rfl hmade (by simp; omega) (by simp; omega) ?_; intro v1 w1 hown1 hg1 hat1; have hb1 : Below w.heap.size w w1 := (hbel.alloc hbsz _).grown hg1 (by simp; omega) (fun j hj => (World.ownsRow.lt HH.out j hj).1); have hO1 := own_b hown1 (by simp); obtain ⟨g1, c1, rfl, hg11, hg12, hg13⟩ := hO1.block (by simp); have hcell1 : w1.cell? ⟨g1, fr.length + 1, none⟩ = some (.int .u8 0) := hO1.cell (k := fr.length + 1) (q := 0) (by simp); have hfree1 := hO1.free (fr.length + 1); have hset1 := Lib.hid (hO1.set (fr.length + 1) 128); have HO1 := Lib.hid hO1; have HB1 := Lib.hid hb1; clear hO1 hb1 hown1 hg1 hat1; rw [List.length_append, List.length_append, List.length_cons, List.length_nil, List.length_cons, List.length_nil, Nat.zero_add] at hg13 hset1 HO1 ⊢)
            go_ret
            rw [HN.out]
            exact fresh_own HO1.out HB1.out
        · have hand : bits .and .u8 (x.toNat : Int) 128 = 0 := by rw [and128, if_neg hx]
          by_cases hn : n < 0
          · have hnum : numB n = fr ++ [UInt8.ofNat (x.toNat % 128 + 128)] := by unfold numB; rw [if_pos hn, ← hZ.out, topped_lo (by omega), signd_snoc]
            have HN := Lib.hid hnum
            have hor := or128 x
            have hset := Lib.hid (HO.out.set fr.length (UInt8.ofNat (x.toNat % 128 + 128)))
            clear hnum
            go_wp2_with fail
            go_ret
            rw [HN.out]
            exact fresh_own (by have := hset.out; rw [set_snoc] at this; unfold bv at this; rw [to_hi] at this; exact this) (hbel.setCell (by show w.heap.size ≤ g; omega) _)
          · have hnum : numB n = fr ++ [x] := by unfold numB; rw [if_neg hn, ← hZ.out, topped_lo (by omega)]
            have HN := Lib.hid hnum
            clear hnum
            go_wp2_with fail
            go_ret
            rw [HN.out]
            exact fresh_own HO.out hbel
end Go.Proofs.YtocblkacdoahfaaGreatDoor.Sn
