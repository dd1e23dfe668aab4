/-
  The reference's Work. Conditions: none.
-/
import Derived.Test.YtgkocmljnoambaaDoorNWork
import Derived.Test.YtgkocmljnoambaaDoorRfTgt
namespace Go.Proofs.YtgkocmljnoambaaDoor
open Go.RowKit

/-- 2^256's first j bits of 257. -/
def pre (j : Nat) : Nat := if j = 0 then 0 else 2 ^ (j - 1)
def bitOf (j : Nat) : Nat := if j = 0 then 1 else 0
theorem pre_next (j : Nat) : pre (j + 1) = 2 * pre j + bitOf j := by
  unfold pre bitOf
  cases j with
  | zero => rfl
  | succ j =>
    rw [if_neg (by omega), if_neg (by omega), if_neg (by omega), Nat.add_sub_cancel, Nat.add_sub_cancel, Nat.pow_succ]
    omega
theorem pre_end : pre 257 = top := by unfold pre; rw [if_neg (by omega)]; exact two_top
theorem pre_small {j : Nat} (h : j < 257) : 2 * pre j ≤ top := by
  unfold pre
  split
  · omega
  · rw [← two_top, ← Nat.pow_succ']
    exact Nat.pow_le_pow_right (by omega) (by omega)
theorem bit_div {d P b : Nat} (hb : b ≤ 1) (h2 : 2 ≤ d) :
    (2 * P + b) / d = 2 * (P / d) + (if d ≤ 2 * (P % d) + b then 1 else 0) ∧ (2 * P + b) % d = 2 * (P % d) + b - (if d ≤ 2 * (P % d) + b then d else 0) := by
  have hr := Nat.mod_lt P (show 0 < d by omega)
  have e : 2 * P + b = d * (2 * (P / d)) + (2 * (P % d) + b) := by
    have h1 := Nat.div_add_mod P d
    have h2 : d * (2 * (P / d)) = 2 * (d * (P / d)) := Nat.mul_left_comm ..
    rw [h2]
    omega
  rw [e, Nat.mul_add_div (by omega), Nat.mul_add_mod]
  generalize P % d = r at hr ⊢
  by_cases h : d ≤ 2 * r + b
  · rw [if_pos h, if_pos h]
    have h3 : 2 * r + b = d * 1 + (2 * r + b - d) := by omega
    have h4 : (2 * r + b) / d = 1 := by rw [h3, Nat.mul_add_div (by omega), Nat.div_eq_of_lt (by omega)]
    have h5 : (2 * r + b) % d = 2 * r + b - d := by
      rw [h3, Nat.mul_add_mod, Nat.mod_eq_of_lt (by omega)]
      omega
    exact ⟨by rw [h4], h5⟩
  · have h4 : (2 * r + b) / d = 0 := Nat.div_eq_of_lt (by omega)
    have h5 : (2 * r + b) % d = 2 * r + b := Nat.mod_eq_of_lt (by omega)
    rw [if_neg h, if_neg h, h4, h5]
    exact ⟨rfl, rfl⟩
theorem work_next {d j : Nat} (h2 : 2 ≤ d) (hd : 2 * d ≤ top) (hj : j < 257) :
    2 * (pre j % d) + bitOf j < top ∧ 2 * (pre j / d) < top ∧ d < top
      ∧ pre (j + 1) / d = 2 * (pre j / d) + (if d ≤ 2 * (pre j % d) + bitOf j then 1 else 0) ∧ pre (j + 1) % d = 2 * (pre j % d) + bitOf j - (if d ≤ 2 * (pre j % d) + bitOf j then d else 0) := by
  have hb : bitOf j ≤ 1 := by unfold bitOf; split <;> omega
  have h3 := pre_small hj
  have h4 : pre j / d ≤ pre j / 2 := Nat.div_le_div_left h2 (by omega)
  have h5 : pre j / 2 * 2 ≤ pre j := Nat.div_mul_le_self _ _
  have h6 := Nat.mod_lt (pre j) (show 0 < d by omega)
  have h7 := top_pos
  rw [pre_next]
  obtain ⟨e1, e2⟩ := bit_div (d := d) (P := pre j) hb h2
  exact ⟨by omega, by omega, by omega, e1, e2⟩
theorem dg_incr {a i : Nat} (h : a % 2 = 0) (hi : i < 31) : dg (a + 1) i = dg a i := by
  unfold dg
  obtain ⟨m, hm⟩ : ∃ m, 256 ^ (31 - i) = 2 * m := ⟨128 * 256 ^ (30 - i), by rw [show 31 - i = 30 - i + 1 by omega, Nat.pow_succ]; omega⟩
  rw [hm, ← Nat.div_div_eq_div_mul, ← Nat.div_div_eq_div_mul, show (a + 1) / 2 = a / 2 by omega]
theorem num_incr {a : Nat} (h : a % 2 = 0) : (num a).set 31 (((dg a 31 : Nat) : Int) + 1) = num (a + 1) ∧ dg a 31 < 255 := by
  have h1 : dg a 31 = a % 256 := by unfold dg; simp
  have h2 : dg (a + 1) 31 = a % 256 + 1 := by unfold dg; simp; omega
  refine ⟨?_, by omega⟩
  rw [← mixd_zero (a + 1) a, mixd_set (a + 1) a (i := 31) (j := 0) rfl (by rw [h2, h1]; omega)]
  unfold mixd num
  refine List.map_congr_left fun i hi => ?_
  rw [List.mem_range] at hi
  by_cases h3 : 32 ≤ i + (0 + 1)
  · rw [if_pos h3]
  · rw [if_neg h3, dg_incr h (by omega)]

/-- What the loop of Work keeps. -/
structure WkAt (w : World) (G5 G6 G7 d q r : Nat) (wr : World) : Prop where
  rz : IRow wr w.heap.size 23 .u8 (num 0)
  ro : IRow wr G5 23 .u8 (num q)
  rd : IRow wr G6 23 .u8 (num d)
  rr : IRow wr G7 23 .u8 (num r)
  bel : Below w.heap.size w wr
structure Apart4 (s G5 G6 G7 : Nat) : Prop where
  a : s < G5
  b : G5 < G6
  c : G6 < G7
theorem WkAt.below {w wr w' : World} {G5 G6 G7 d q r : Nat} (h : WkAt w G5 G6 G7 d q r wr) (hb : Below wr.heap.size wr w') : WkAt w G5 G6 G7 d q r w' :=
  ⟨h.rz.below hb h.rz.lt, h.ro.below hb h.ro.lt, h.rd.below hb h.rd.lt, h.rr.below hb h.rr.lt, h.bel.trans (hb.mono h.bel.size)⟩
theorem WkAt.alloc {w wr : World} {G5 G6 G7 d q r : Nat} (h : WkAt w G5 G6 G7 d q r wr) (o : Obj) : WkAt w G5 G6 G7 d q r (wr.alloc o) :=
  ⟨h.rz.alloc o, h.ro.alloc o, h.rd.alloc o, h.rr.alloc o, h.bel.alloc h.bel.size o⟩
theorem WkAt.setOther {w wr : World} {G5 G6 G7 d q r g : Nat} (h : WkAt w G5 G6 G7 d q r wr) (A4 : Apart4 w.heap.size G5 G6 G7) (hg : G7 < g) (cs : Array Value) : WkAt w G5 G6 G7 d q r (wr.setRow g cs) :=
  ⟨h.rz.setRow (by have := A4.a; have := A4.b; have := A4.c; omega) _, h.ro.setRow (by have := A4.b; have := A4.c; omega) _, h.rd.setRow (by have := A4.c; omega) _, h.rr.setRow (by omega) _, below_setRow h.bel (by have := A4.a; have := A4.b; have := A4.c; omega) _⟩
theorem WkAt.setR {w wr : World} {G5 G6 G7 d q r : Nat} (h : WkAt w G5 G6 G7 d q r wr) (A4 : Apart4 w.heap.size G5 G6 G7) (x : Nat) : WkAt w G5 G6 G7 d q x (wr.setRow G7 (numA x)) :=
  ⟨h.rz.setRow (by have := A4.a; have := A4.b; have := A4.c; omega) _, h.ro.setRow (by have := A4.b; have := A4.c; omega) _, h.rd.setRow (by have := A4.c; omega) _, setRow_irow h.rr, below_setRow h.bel (by have := A4.a; have := A4.b; have := A4.c; omega) _⟩
theorem WkAt.setO {w wr : World} {G5 G6 G7 d q r : Nat} (h : WkAt w G5 G6 G7 d q r wr) (A4 : Apart4 w.heap.size G5 G6 G7) (x : Nat) : WkAt w G5 G6 G7 d x r (wr.setRow G5 (numA x)) :=
  ⟨h.rz.setRow (by have := A4.a; omega) _, setRow_irow h.ro, h.rd.setRow (by have := A4.b; omega) _, h.rr.setRow (by have := A4.b; have := A4.c; omega) _, below_setRow h.bel (by have := A4.a; omega) _⟩
theorem WkAt.incr {w wr : World} {G5 G6 G7 d q r : Nat} (h : WkAt w G5 G6 G7 d q r wr) (A4 : Apart4 w.heap.size G5 G6 G7) (hq : q % 2 = 0) : WkAt w G5 G6 G7 d (q + 1) r (wr.setCell ⟨G5, 31, none⟩ (.int .u8 (((dg q 31 : Nat) : Int) + 1))) :=
  ⟨h.rz.setCell (by show G5 ≠ w.heap.size; have := A4.a; omega) _, by have := h.ro.set 31 (((dg q 31 : Nat) : Int) + 1); rwa [(num_incr hq).1] at this, h.rd.setCell (by show G5 ≠ G6; have := A4.b; omega) _, h.rr.setCell (by show G5 ≠ G7; have := A4.b; have := A4.c; omega) _,
   h.bel.setCell (p := ⟨G5, 31, none⟩) (by show w.heap.size ≤ G5; have := A4.a; omega) _⟩
theorem num_one' : num 1 = List.replicate 31 0 ++ [1] := num_one

set_option maxRecDepth 100000 in
set_option maxHeartbeats 25600000 in
theorem refWork_any (bs : Nat) (w : World) (hb : bs < 4294967296) :
    Calls Tryd.prog 12 #[.int .u32 (bs : Int)] w fun e w' => e = .returned (numV (workN bs)) ∧ Below w.heap.size w w' := by
  have hZ := zero_row w 23
  obtain ⟨W, hW⟩ : ∃ W, w.alloc (.cells zeroA 23) = W := ⟨_, rfl⟩
  have hB : Below w.heap.size w W := by rw [← hW]; exact (Below.refl _ w).alloc (Nat.le_refl _) _
  have hs : W.heap.size = w.heap.size + 1 := by rw [← hW]; simp
  rw [hW] at hZ
  have HC := Lib.hid (refTarget_any bs W hb)
  obtain ⟨n, hn⟩ : ∃ n, n = tgtN bs := ⟨_, rfl⟩
  obtain ⟨q0, hq⟩ : ∃ q, q = workN bs := ⟨_, rfl⟩
  obtain ⟨ok, hok⟩ : ∃ ok, ok = tgtB bs := ⟨_, rfl⟩
  rw [← hn, ← hok] at HC
  rw [← hq]
  have HN := Lib.hid hn
  have HQ := Lib.hid hq
  have HOK := Lib.hid hok
  have HW := Lib.hid hW
  have HS := Lib.hid hs
  have HZ := Lib.hid hZ
  have HB := Lib.hid hB
  clear hW hZ hB hs hn hq hok
  unfold numV at HC ⊢
  go_enter Tryd.func12, Tryd.ntmps12
  go_wp2_with fail
  have C2 := HC.out
  rw [← HW.out] at C2
  refine C2.mono ?_
  rw [HW.out]
  rintro e w2 ⟨rfl, hb2⟩
  have hv0 := zero_row w2 23
  have hqz : IRow (w2.alloc (.cells zeroA 23)) w.heap.size 23 .u8 (num 0) := (HZ.out.below hb2 HZ.out.lt).alloc _
  have hbz : Below w.heap.size w (w2.alloc (.cells zeroA 23)) := (HB.out.trans (hb2.mono HB.out.size)).alloc (by have := hb2.size; have := HS.out; omega) _
  have hgw : w.heap.size < w2.heap.size := by have := hb2.size; have := HS.out; omega
  have HZ0 := Lib.hid hv0
  have HQZ := Lib.hid hqz
  have HBZ := Lib.hid hbz
  have HGW := Lib.hid hgw
  clear hv0 hqz hbz hb2 C2 hgw
  go_upto_region 2 with (refine wpList_store_irow rfl 23 (.tmp 3) (.tmp 15) rfl (g := w2.heap.size) (t := 23) (k := .u8) (xs := num 0) (ys := num n) rfl rfl HZ0.out (size_num n) (same_length _ _) ?_)
  change Code.wp _ _ _ _ ((w2.alloc (.cells zeroA 23)).setRow w2.heap.size (numA n))
  obtain ⟨w3, hw3⟩ : ∃ w3, w3 = (w2.alloc (.cells zeroA 23)).setRow w2.heap.size (numA n) := ⟨_, rfl⟩
  have qv : IRow w3 w2.heap.size 23 .u8 (num n) := by rw [hw3]; exact setRow_irow HZ0.out
  have qz : IRow w3 w.heap.size 23 .u8 (num 0) := by rw [hw3]; exact HQZ.out.setRow (by have := HGW.out; omega) _
  have bz : Below w.heap.size w w3 := by rw [hw3]; exact below_setRow HBZ.out (by have := HGW.out; omega) _
  have z5 := zero_row w3 23
  rw [← hw3]
  obtain ⟨w4, hw4⟩ : ∃ w4, w4 = w3.alloc (.cells zeroA 23) := ⟨_, rfl⟩
  rw [← hw4] at z5
  have qv4 : IRow w4 w2.heap.size 23 .u8 (num n) := by rw [hw4]; exact qv.alloc _
  have qz4 : IRow w4 w.heap.size 23 .u8 (num 0) := by rw [hw4]; exact qz.alloc _
  have bz4 : Below w.heap.size w w4 := by rw [hw4]; exact bz.alloc bz.size _
  have s4 : w4.heap.size = w3.heap.size + 1 := by rw [hw4]; simp
  have l5 : w.heap.size < w3.heap.size := qz.lt
  have HW4 := Lib.hid hw4
  clear hw3 HC HZ HB HZ0 HQZ HBZ HW hw4 qv qz bz
  have QV4 := Lib.hid qv4
  have QZ4 := Lib.hid qz4
  have BZ4 := Lib.hid bz4
  have Z5 := Lib.hid z5
  have S4 := Lib.hid s4
  have L5 := Lib.hid l5
  clear qv4 qz4 bz4 z5 s4 l5
  try dsimp only [Act.put]
  go_upto_region 3 with fail
  change Code.wp _ _ _ _ (w3.alloc (.cells zeroA 23))
  rw [← HW4.out]
  by_cases hok : tgtB bs = true
  · have hok2 : ok = true := by rw [HOK.out, hok]
    subst hok2
    obtain ⟨l1, l2, l3⟩ := work_low hok
    rw [← HN.out] at l1 l2 l3
    obtain ⟨d, hd⟩ : ∃ d, d = n + 1 := ⟨_, rfl⟩
    rw [← hd] at l1 l2 l3
    have hqq : q0 = top / d := by rw [HQ.out]; unfold workN; rw [if_pos hok, hd, HN.out]
    have CA := Lib.hid (show ∀ W, Calls Tryd.prog 16 #[.agg (numA n), .agg (((List.replicate 31 (0 : Int)) ++ [1]).map (Value.int .u8)).toArray] W fun e w' => e = .returned (.agg (numA d)) ∧ Below W.heap.size W w' from fun W => by
      have := sum_any n 1 W (by omega) (by omega)
      rw [sumN, if_pos (by omega), ← hd] at this
      unfold numV numA at this
      rw [num_one] at this
      exact this)
    have HQQ := Lib.hid hqq
    have H1 := Lib.hid l1
    have H2 := Lib.hid l2
    have H3 := Lib.hid l3
    clear l1 l2 l3 hqq hok HQ HOK hd HN
    go_upto_region 6 with (refine wpList_load_irow rfl 23 (.tmp 3) rfl (g := w2.heap.size) (t := 23) (k := .u8) (xs := num n) rfl QV4.out Tryd.underlying23 (size_num n) ?_)
    refine (CA.out _).mono ?_
    rintro e w5 ⟨rfl, hb5⟩
    have z6 := zero_row w5 23
    have a5 := Z5.out.below hb5 Z5.out.lt
    have aZ := QZ4.out.below hb5 QZ4.out.lt
    have aB := BZ4.out.trans (hb5.mono BZ4.out.size)
    have l6 : w3.heap.size < w5.heap.size := by have := hb5.size; have := S4.out; omega
    obtain ⟨w6, hw6⟩ : ∃ w6, w6 = (w5.alloc (.cells zeroA 23)).setRow w5.heap.size (numA d) := ⟨_, rfl⟩
    have Z6 := Lib.hid z6
    have L6 := Lib.hid l6
    have b5 : IRow w6 w3.heap.size 23 .u8 (num 0) := by rw [hw6]; exact (a5.alloc _).setRow (by omega) _
    have bZ : IRow w6 w.heap.size 23 .u8 (num 0) := by rw [hw6]; exact (aZ.alloc _).setRow (by have := L5.out; omega) _
    have bB : Below w.heap.size w w6 := by rw [hw6]; exact below_setRow (aB.alloc aB.size _) (by have := L5.out; omega) _
    have bD : IRow w6 w5.heap.size 23 .u8 (num d) := by rw [hw6]; exact setRow_irow z6
    have s6 : w6.heap.size = w5.heap.size + 1 := by rw [hw6, size_setRow]; simp
    have HW6 := Lib.hid hw6
    have z7 := zero_row w6 23
    have I0 := Lib.hid (show WkAt w w3.heap.size w5.heap.size w6.heap.size d (pre 0 / d) (pre 0 % d) (w6.alloc (.cells zeroA 23)) by
      rw [show pre 0 = 0 from rfl, Nat.zero_div, Nat.zero_mod]
      exact ⟨bZ.alloc _, b5.alloc _, bD.alloc _, z7, bB.alloc bB.size _⟩)
    have A4 := Lib.hid (show Apart4 w.heap.size w3.heap.size w5.heap.size w6.heap.size from ⟨L5.out, l6, by omega⟩)
    clear hb5 z6 a5 aZ aB l6 hw6 b5 bZ bB bD s6 z7 CA QV4 QZ4 BZ4 Z5
    go_upto_region 6 with (refine wpList_store_irow rfl 23 (.tmp 6) (.tmp 22) rfl (g := w5.heap.size) (t := 23) (k := .u8) (xs := num 0) (ys := num d) rfl rfl Z6.out (size_num d) (same_length _ _) ?_)
    change Code.wp _ _ _ _ ((w5.alloc (.cells zeroA 23)).setRow w5.heap.size (numA d))
    rw [← HW6.out]
    try dsimp only [Act.put]
    go_upto_region 7 with fail
    change Code.wp _ _ _ _ (w6.alloc (.cells zeroA 23))
    obtain ⟨w7, hw7⟩ : ∃ w7, w7 = w6.alloc (.cells zeroA 23) := ⟨_, rfl⟩
    rw [← hw7] at I0 ⊢
    obtain ⟨G5, hG5⟩ : ∃ G, G = w3.heap.size := ⟨_, rfl⟩
    obtain ⟨G6, hG6⟩ : ∃ G, G = w5.heap.size := ⟨_, rfl⟩
    obtain ⟨G7, hG7⟩ : ∃ G, G = w6.heap.size := ⟨_, rfl⟩
    rw [← hG5, ← hG6, ← hG7] at I0 A4
    simp only [← hG5, ← hG6, ← hG7]
    clear hw7 hG5 hG6 hG7 HW6 HW4 Z6 L6 S4 L5
    go_wp2_with fail
    have HT := Lib.hid (show pre 257 / d = q0 by rw [pre_end, HQQ.out])
    clear HQQ
    go_loopw [8] (fun iv wr => ∃ j : Nat, j ≤ 257 ∧ iv = .int .i64 ((256 : Int) - j) ∧ WkAt w G5 G6 G7 d (pre j / d) (pre j % d) wr) (fun iv _ => (intOf iv + 1).toNat)
    case atStart => exact ⟨0, by omega, rfl, I0.out⟩
    case round =>
      obtain ⟨j, hj, rfl, hI⟩ := hrel
      have HI := Lib.hid hI
      clear hI
      by_cases hj7 : j < 257
      · have hnx := work_next (j := j) H1.out H2.out hj7
        obtain ⟨q, hq⟩ : ∃ q, q = pre j / d := ⟨_, rfl⟩
        obtain ⟨r, hr⟩ : ∃ r, r = pre j % d := ⟨_, rfl⟩
        obtain ⟨b, hbb⟩ : ∃ b, b = bitOf j := ⟨_, rfl⟩
        rw [← hq, ← hr, ← hbb] at hnx
        rw [← hq, ← hr] at HI
        have hb1 : b ≤ 1 := by rw [hbb]; unfold bitOf; split <;> omega
        obtain ⟨r2, hr2⟩ : ∃ r2, r2 = 2 * r + b := ⟨_, rfl⟩
        obtain ⟨q2, hq2⟩ : ∃ q2, q2 = 2 * q := ⟨_, rfl⟩
        rw [← hr2, ← hq2] at hnx
        have hqe : q2 % 2 = 0 := by omega
        have HNX := Lib.hid hnx
        have HQE := Lib.hid hqe
        have D1 := Lib.hid (show ∀ W, Calls Tryd.prog 28 #[.agg (numA r), .int .u8 (b : Int)] W fun e w' => e = .returned (.tuple #[.agg (numA r2), .bool false]) ∧ Below W.heap.size W w' from fun W => by
          have := double_any r b W hb1 (by have := HNX.out.1; omega)
          rwa [← hr2] at this)
        have D2 := Lib.hid (show ∀ W, Calls Tryd.prog 28 #[.agg (numA q), .int .u8 0] W fun e w' => e = .returned (.tuple #[.agg (numA q2), .bool false]) ∧ Below W.heap.size W w' from fun W => by
          have := double_any q 0 W (by omega) (by have := HNX.out.2.1; omega)
          rwa [Nat.add_zero, ← hq2] at this)
        have LS := Lib.hid (show ∀ W, Calls Tryd.prog 14 #[.agg (numA r2), .agg (numA d)] W fun e w' => e = .returned (.bool (decide (r2 < d))) ∧ Below W.heap.size W w' from fun W => less_any r2 d W HNX.out.1 HNX.out.2.2.1)
        clear hnx hqe hq hr
        by_cases hj0 : j = 0
        · have hb2 : b = 1 := by rw [hbb, hj0]; rfl
          subst hb2
          clear hr2 hq2 hbb hb1
          have hjj : (256 : Int) - (j : Int) = 256 := by omega
          go_upto_region 14 with (refine wpList_load_irow rfl 23 (.tmp 7) rfl (g := G7) (t := 23) (k := .u8) (xs := num r) rfl HI.out.rr Tryd.underlying23 (size_num r) ?_)
          refine (D1.out _).mono ?_
          rintro e v4 ⟨rfl, hb4⟩
          have H4 := Lib.hid ((HI.out.below hb4).alloc (.cells zeroA 23))
          have Z4 := Lib.hid (zero_row v4 23)
          have hlt4 : G7 < v4.heap.size := (HI.out.below hb4).rr.lt
          have HL4 := Lib.hid hlt4
          clear hb4 hlt4 HI D1
          go_upto_region 14 with (refine wpList_store_irow rfl 23 (.tmp 10) (.tmp 33) rfl (g := v4.heap.size) (t := 23) (k := .u8) (xs := num 0) (ys := num r2) rfl rfl Z4.out (size_num r2) (same_length _ _) ?_)
          change Code.wp _ _ _ _ ((v4.alloc (.cells zeroA 23)).setRow v4.heap.size (numA r2))
          obtain ⟨v5, hv5⟩ : ∃ v5, v5 = (v4.alloc (.cells zeroA 23)).setRow v4.heap.size (numA r2) := ⟨_, rfl⟩
          have H5 := Lib.hid (show WkAt w G5 G6 G7 d q r v5 by rw [hv5]; exact H4.out.setOther A4.out HL4.out _)
          have R10 := Lib.hid (show IRow v5 v4.heap.size 23 .u8 (num r2) by rw [hv5]; exact setRow_irow Z4.out)
          rw [← hv5]
          clear hv5 H4 Z4
          try dsimp only [Act.put]
          have H6 := Lib.hid (H5.out.setR A4.out r2)
          go_upto_region 15 with (first
            | (refine wpList_load_irow rfl 23 (.tmp 10) rfl (g := v4.heap.size) (t := 23) (k := .u8) (xs := num r2) rfl R10.out Tryd.underlying23 (size_num r2) ?_)
            | (refine wpList_store_irow rfl 23 (.tmp 7) (.tmp 35) rfl (g := G7) (t := 23) (k := .u8) (xs := num r) (ys := num r2) rfl rfl H5.out.rr (size_num r2) (same_length _ _) ?_))
          change Code.wp _ _ _ _ (v5.setRow G7 (numA r2))
          obtain ⟨v6, hv6⟩ : ∃ v6, v6 = v5.setRow G7 (numA r2) := ⟨_, rfl⟩
          rw [← hv6] at H6 ⊢
          clear hv6 H5 R10
          try dsimp only [Act.put]
          go_upto_region 16 with (refine wpList_load_irow rfl 23 (.tmp 5) rfl (g := G5) (t := 23) (k := .u8) (xs := num q) rfl H6.out.ro Tryd.underlying23 (size_num q) ?_)
          refine (D2.out _).mono ?_
          rintro e v7 ⟨rfl, hb7⟩
          have H7 := Lib.hid (H6.out.below hb7)
          have H8 := Lib.hid ((H6.out.below hb7).setO A4.out q2)
          clear hb7 H6 D2
          go_upto_region 16 with (refine wpList_store_irow rfl 23 (.tmp 5) (.tmp 39) rfl (g := G5) (t := 23) (k := .u8) (xs := num q) (ys := num q2) rfl rfl H7.out.ro (size_num q2) (same_length _ _) ?_)
          change Code.wp _ _ _ _ (v7.setRow G5 (numA q2))
          obtain ⟨v8, hv8⟩ : ∃ v8, v8 = v7.setRow G5 (numA q2) := ⟨_, rfl⟩
          rw [← hv8] at H8 ⊢
          clear hv8 H7
          try dsimp only [Act.put]
          by_cases hge : d ≤ r2
          · have hls : decide (r2 < d) = false := by simp; omega
            have hLS := LS.out
            rw [hls] at hLS
            obtain ⟨r3, hr3⟩ : ∃ r3, r3 = r2 - d := ⟨_, rfl⟩
            have MN := Lib.hid (show ∀ W, Calls Tryd.prog 29 #[.agg (numA r2), .agg (numA d)] W fun e w' => e = .returned (.agg (numA r3)) ∧ Below W.heap.size W w' from fun W => by
              have := minus_any r2 d W hge
              rwa [← hr3] at this)
            have HFIN := Lib.hid (show pre (j + 1) / d = q2 + 1 ∧ pre (j + 1) % d = r3 by
              have h1 := HNX.out.2.2.2.1
              have h2 := HNX.out.2.2.2.2
              rw [if_pos hge] at h1 h2
              exact ⟨h1, by rw [h2, hr3]⟩)
            have LS := Lib.hid hLS
            clear hLS hls hr3 HNX hge
            go_upto_region 17 with (first
              | (refine wpList_load_irow_g rfl 23 (.tmp 7) rfl (g := G7) (t := 23) (k := .u8) (xs := num r2) rfl H8.out.rr Tryd.underlying23 (size_num r2) ?_)
              | (refine wpList_load_irow_g rfl 23 (.tmp 6) rfl (g := G6) (t := 23) (k := .u8) (xs := num d) rfl H8.out.rd Tryd.underlying23 (size_num d) ?_))
            refine (LS.out _).mono ?_
            rintro e v9 ⟨rfl, hb9⟩
            have H9 := Lib.hid (H8.out.below hb9)
            clear hb9 H8 LS
            go_upto_region 17 with fail
            go_upto_region 18 with (first
              | (refine wpList_load_irow rfl 23 (.tmp 7) rfl (g := G7) (t := 23) (k := .u8) (xs := num r2) rfl H9.out.rr Tryd.underlying23 (size_num r2) ?_)
              | (refine wpList_load_irow rfl 23 (.tmp 6) rfl (g := G6) (t := 23) (k := .u8) (xs := num d) rfl H9.out.rd Tryd.underlying23 (size_num d) ?_))
            refine (MN.out _).mono ?_
            rintro e v10 ⟨rfl, hb10⟩
            have H10 := Lib.hid (H9.out.below hb10)
            have H11 := Lib.hid ((H9.out.below hb10).setR A4.out r3)
            clear hb10 H9 MN
            go_upto_region 18 with (refine wpList_store_irow rfl 23 (.tmp 7) (.tmp 50) rfl (g := G7) (t := 23) (k := .u8) (xs := num r2) (ys := num r3) rfl rfl H10.out.rr (size_num r3) (same_length _ _) ?_)
            change Code.wp _ _ _ _ (v10.setRow G7 (numA r3))
            obtain ⟨v11, hv11⟩ : ∃ v11, v11 = v10.setRow G7 (numA r3) := ⟨_, rfl⟩
            rw [← hv11] at H11 ⊢
            clear hv11 H10
            try dsimp only [Act.put]
            obtain ⟨x, hx⟩ : ∃ x, x = dg q2 31 := ⟨_, rfl⟩
            have hx5 : x < 255 := by rw [hx]; exact (num_incr HQE.out).2
            have hce : v11.cell? ⟨G5, 31, none⟩ = some (.int .u8 (x : Int)) := by rw [hx]; exact H11.out.ro.cell (num_at _ (by omega))
            have hfr : v11.frozen? ⟨G5, 31, none⟩ = false := H11.out.ro.free 31
            have H12 := Lib.hid (H11.out.incr A4.out HQE.out)
            rw [← hx, ← HFIN.out.1, ← HFIN.out.2] at H12
            clear hx
            go_wp2_with fail
            exact ⟨⟨j + 1, by omega, by go_num, H12.out⟩, by simp [intOf]; omega⟩
          · have hls : decide (r2 < d) = true := by simp; omega
            have hLS := LS.out
            rw [hls] at hLS
            have HFIN := Lib.hid (show pre (j + 1) / d = q2 ∧ pre (j + 1) % d = r2 by
              have h1 := HNX.out.2.2.2.1
              have h2 := HNX.out.2.2.2.2
              rw [if_neg hge] at h1 h2
              exact ⟨h1, h2⟩)
            have LS := Lib.hid hLS
            clear hLS hls HNX hge
            go_wp2_with (first
              | (refine wpList_load_irow_g rfl 23 (.tmp 7) rfl (g := G7) (t := 23) (k := .u8) (xs := num r2) rfl H8.out.rr Tryd.underlying23 (size_num r2) ?_)
              | (refine wpList_load_irow_g rfl 23 (.tmp 6) rfl (g := G6) (t := 23) (k := .u8) (xs := num d) rfl H8.out.rd Tryd.underlying23 (size_num d) ?_))
            refine (LS.out _).mono ?_
            rintro e v9 ⟨rfl, hb9⟩
            have H9 := Lib.hid (H8.out.below hb9)
            rw [← HFIN.out.1, ← HFIN.out.2] at H9
            clear hb9 H8 LS
            go_wp2_with fail
            exact ⟨⟨j + 1, by omega, by go_num, H9.out⟩, by simp [intOf]; omega⟩
        · have hb2 : b = 0 := by rw [hbb]; unfold bitOf; rw [if_neg hj0]
          subst hb2
          clear hr2 hq2 hbb hb1
          have hjj : ((256 : Int) - (j : Int) == 256) = false := by simp; omega
          go_upto_region 14 with (refine wpList_load_irow rfl 23 (.tmp 7) rfl (g := G7) (t := 23) (k := .u8) (xs := num r) rfl HI.out.rr Tryd.underlying23 (size_num r) ?_)
          refine (D1.out _).mono ?_
          rintro e v4 ⟨rfl, hb4⟩
          have H4 := Lib.hid ((HI.out.below hb4).alloc (.cells zeroA 23))
          have Z4 := Lib.hid (zero_row v4 23)
          have hlt4 : G7 < v4.heap.size := (HI.out.below hb4).rr.lt
          have HL4 := Lib.hid hlt4
          clear hb4 hlt4 HI D1
          go_upto_region 14 with (refine wpList_store_irow rfl 23 (.tmp 10) (.tmp 33) rfl (g := v4.heap.size) (t := 23) (k := .u8) (xs := num 0) (ys := num r2) rfl rfl Z4.out (size_num r2) (same_length _ _) ?_)
          change Code.wp _ _ _ _ ((v4.alloc (.cells zeroA 23)).setRow v4.heap.size (numA r2))
          obtain ⟨v5, hv5⟩ : ∃ v5, v5 = (v4.alloc (.cells zeroA 23)).setRow v4.heap.size (numA r2) := ⟨_, rfl⟩
          have H5 := Lib.hid (show WkAt w G5 G6 G7 d q r v5 by rw [hv5]; exact H4.out.setOther A4.out HL4.out _)
          have R10 := Lib.hid (show IRow v5 v4.heap.size 23 .u8 (num r2) by rw [hv5]; exact setRow_irow Z4.out)
          rw [← hv5]
          clear hv5 H4 Z4
          try dsimp only [Act.put]
          have H6 := Lib.hid (H5.out.setR A4.out r2)
          go_upto_region 15 with (first
            | (refine wpList_load_irow rfl 23 (.tmp 10) rfl (g := v4.heap.size) (t := 23) (k := .u8) (xs := num r2) rfl R10.out Tryd.underlying23 (size_num r2) ?_)
            | (refine wpList_store_irow rfl 23 (.tmp 7) (.tmp 35) rfl (g := G7) (t := 23) (k := .u8) (xs := num r) (ys := num r2) rfl rfl H5.out.rr (size_num r2) (same_length _ _) ?_))
          change Code.wp _ _ _ _ (v5.setRow G7 (numA r2))
          obtain ⟨v6, hv6⟩ : ∃ v6, v6 = v5.setRow G7 (numA r2) := ⟨_, rfl⟩
          rw [← hv6] at H6 ⊢
          clear hv6 H5 R10
          try dsimp only [Act.put]
          go_upto_region 16 with (refine wpList_load_irow rfl 23 (.tmp 5) rfl (g := G5) (t := 23) (k := .u8) (xs := num q) rfl H6.out.ro Tryd.underlying23 (size_num q) ?_)
          refine (D2.out _).mono ?_
          rintro e v7 ⟨rfl, hb7⟩
          have H7 := Lib.hid (H6.out.below hb7)
          have H8 := Lib.hid ((H6.out.below hb7).setO A4.out q2)
          clear hb7 H6 D2
          go_upto_region 16 with (refine wpList_store_irow rfl 23 (.tmp 5) (.tmp 39) rfl (g := G5) (t := 23) (k := .u8) (xs := num q) (ys := num q2) rfl rfl H7.out.ro (size_num q2) (same_length _ _) ?_)
          change Code.wp _ _ _ _ (v7.setRow G5 (numA q2))
          obtain ⟨v8, hv8⟩ : ∃ v8, v8 = v7.setRow G5 (numA q2) := ⟨_, rfl⟩
          rw [← hv8] at H8 ⊢
          clear hv8 H7
          try dsimp only [Act.put]
          by_cases hge : d ≤ r2
          · have hls : decide (r2 < d) = false := by simp; omega
            have hLS := LS.out
            rw [hls] at hLS
            obtain ⟨r3, hr3⟩ : ∃ r3, r3 = r2 - d := ⟨_, rfl⟩
            have MN := Lib.hid (show ∀ W, Calls Tryd.prog 29 #[.agg (numA r2), .agg (numA d)] W fun e w' => e = .returned (.agg (numA r3)) ∧ Below W.heap.size W w' from fun W => by
              have := minus_any r2 d W hge
              rwa [← hr3] at this)
            have HFIN := Lib.hid (show pre (j + 1) / d = q2 + 1 ∧ pre (j + 1) % d = r3 by
              have h1 := HNX.out.2.2.2.1
              have h2 := HNX.out.2.2.2.2
              rw [if_pos hge] at h1 h2
              exact ⟨h1, by rw [h2, hr3]⟩)
            have LS := Lib.hid hLS
            clear hLS hls hr3 HNX hge
            go_upto_region 17 with (first
              | (refine wpList_load_irow_g rfl 23 (.tmp 7) rfl (g := G7) (t := 23) (k := .u8) (xs := num r2) rfl H8.out.rr Tryd.underlying23 (size_num r2) ?_)
              | (refine wpList_load_irow_g rfl 23 (.tmp 6) rfl (g := G6) (t := 23) (k := .u8) (xs := num d) rfl H8.out.rd Tryd.underlying23 (size_num d) ?_))
            refine (LS.out _).mono ?_
            rintro e v9 ⟨rfl, hb9⟩
            have H9 := Lib.hid (H8.out.below hb9)
            clear hb9 H8 LS
            go_upto_region 17 with fail
            go_upto_region 18 with (first
              | (refine wpList_load_irow rfl 23 (.tmp 7) rfl (g := G7) (t := 23) (k := .u8) (xs := num r2) rfl H9.out.rr Tryd.underlying23 (size_num r2) ?_)
              | (refine wpList_load_irow rfl 23 (.tmp 6) rfl (g := G6) (t := 23) (k := .u8) (xs := num d) rfl H9.out.rd Tryd.underlying23 (size_num d) ?_))
            refine (MN.out _).mono ?_
            rintro e v10 ⟨rfl, hb10⟩
            have H10 := Lib.hid (H9.out.below hb10)
            have H11 := Lib.hid ((H9.out.below hb10).setR A4.out r3)
            clear hb10 H9 MN
            go_upto_region 18 with (refine wpList_store_irow rfl 23 (.tmp 7) (.tmp 50) rfl (g := G7) (t := 23) (k := .u8) (xs := num r2) (ys := num r3) rfl rfl H10.out.rr (size_num r3) (same_length _ _) ?_)
            change Code.wp _ _ _ _ (v10.setRow G7 (numA r3))
            obtain ⟨v11, hv11⟩ : ∃ v11, v11 = v10.setRow G7 (numA r3) := ⟨_, rfl⟩
            rw [← hv11] at H11 ⊢
            clear hv11 H10
            try dsimp only [Act.put]
            obtain ⟨x, hx⟩ : ∃ x, x = dg q2 31 := ⟨_, rfl⟩
            have hx5 : x < 255 := by rw [hx]; exact (num_incr HQE.out).2
            have hce : v11.cell? ⟨G5, 31, none⟩ = some (.int .u8 (x : Int)) := by rw [hx]; exact H11.out.ro.cell (num_at _ (by omega))
            have hfr : v11.frozen? ⟨G5, 31, none⟩ = false := H11.out.ro.free 31
            have H12 := Lib.hid (H11.out.incr A4.out HQE.out)
            rw [← hx, ← HFIN.out.1, ← HFIN.out.2] at H12
            clear hx
            go_wp2_with fail
            exact ⟨⟨j + 1, by omega, by go_num, H12.out⟩, by simp [intOf]; omega⟩
          · have hls : decide (r2 < d) = true := by simp; omega
            have hLS := LS.out
            rw [hls] at hLS
            have HFIN := Lib.hid (show pre (j + 1) / d = q2 ∧ pre (j + 1) % d = r2 by
              have h1 := HNX.out.2.2.2.1
              have h2 := HNX.out.2.2.2.2
              rw [if_neg hge] at h1 h2
              exact ⟨h1, h2⟩)
            have LS := Lib.hid hLS
            clear hLS hls HNX hge
            go_wp2_with (first
              | (refine wpList_load_irow_g rfl 23 (.tmp 7) rfl (g := G7) (t := 23) (k := .u8) (xs := num r2) rfl H8.out.rr Tryd.underlying23 (size_num r2) ?_)
              | (refine wpList_load_irow_g rfl 23 (.tmp 6) rfl (g := G6) (t := 23) (k := .u8) (xs := num d) rfl H8.out.rd Tryd.underlying23 (size_num d) ?_))
            refine (LS.out _).mono ?_
            rintro e v9 ⟨rfl, hb9⟩
            have H9 := Lib.hid (H8.out.below hb9)
            rw [← HFIN.out.1, ← HFIN.out.2] at H9
            clear hb9 H8 LS
            go_wp2_with fail
            exact ⟨⟨j + 1, by omega, by go_num, H9.out⟩, by simp [intOf]; omega⟩
      · have hj257 : j = 257 := by omega
        subst hj257
        have HE := Lib.hid (show WkAt w G5 G6 G7 d q0 (pre 257 % d) wr by have := HI.out; rwa [HT.out] at this)
        have QF := Lib.hid (setRow_irow (ys := num q0) HE.out.rz)
        have HBF := Lib.hid (below_setRow HE.out.bel (Nat.le_refl _) (numA q0))
        clear HI
        go_wp2_with (first
          | (refine wpList_load_irow rfl 23 (.tmp 5) rfl (g := G5) (t := 23) (k := .u8) (xs := num q0) rfl HE.out.ro Tryd.underlying23 (size_num q0) ?_)
          | (refine wpList_store_irow rfl 23 (.tmp 2) (.tmp 55) rfl (g := w.heap.size) (t := 23) (k := .u8) (xs := num 0) (ys := num q0) rfl rfl HE.out.rz (size_num q0) (same_length _ _) ?_))
        refine bodyPost_ret (v := numV q0) ?_ rfl ⟨rfl, HBF.out⟩
        exact results_cell_row Tryd.results12 _ _ w.heap.size 23 (numA q0) (0, 0) _ rfl QF.out Tryd.underlying23 rfl (size_numA q0)
  · have hok' : tgtB bs = false := by simpa using hok
    have hok2 : ok = false := by rw [HOK.out, hok']
    subst hok2
    have hq0 : q0 = 0 := by rw [HQ.out]; unfold workN; rw [hok']; rfl
    have QF := Lib.hid (irow_as (setRow_irow (ys := num 0) QZ4.out) (show num q0 = _ by rw [hq0]))
    have HBF := Lib.hid (below_setRow BZ4.out (Nat.le_refl _) (numA 0))
    clear hq0 hok hok' HQ HOK
    go_wp2_with (first
      | (refine wpList_load_irow rfl 23 (.tmp 5) rfl (g := w3.heap.size) (t := 23) (k := .u8) (xs := num 0) rfl Z5.out Tryd.underlying23 (size_num 0) ?_)
      | (refine wpList_store_irow rfl 23 (.tmp 2) (.tmp 19) rfl (g := w.heap.size) (t := 23) (k := .u8) (xs := num 0) (ys := num 0) rfl rfl QZ4.out (size_num 0) (same_length _ _) ?_))
    refine bodyPost_ret (v := numV q0) ?_ rfl ⟨rfl, HBF.out⟩
    exact results_cell_row Tryd.results12 _ _ w.heap.size 23 (numA q0) (0, 0) _ rfl QF.out Tryd.underlying23 rfl (size_numA q0)
end Go.Proofs.YtgkocmljnoambaaDoor
