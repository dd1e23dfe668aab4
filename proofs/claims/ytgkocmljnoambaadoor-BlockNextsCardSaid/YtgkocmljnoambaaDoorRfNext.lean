/-
  The reference's Next. Conditions: none.
-/
import Derived.Test.YtgkocmljnoambaaDoorNShared
import Derived.Test.YtgkocmljnoambaaDoorNNext
namespace Go.Proofs.YtgkocmljnoambaaDoor
open Go.RowKit

theorem limit_pos : ¬ limitN = 0 := by unfold limitN; decide
theorem num_one_set : (num 0).set 31 1 = num 1 := by rw [num_zero, num_one]; rfl
theorem fit_is {n m : Nat} : fitB (n * m) 4800 36 = decide (n * m / top < 4800) := rfl
theorem times_fits {n m : Nat} (hn : n < top) (hm : m ≤ 19200) : n * m < 256 ^ 36 := by
  have h1 := Nat.mul_le_mul (Nat.le_of_lt hn) hm
  have h2 : top * 19200 < 256 ^ 36 := by unfold top; decide
  omega
theorem next_fit {n m : Nat} (h : fitB (n * m) 4800 36 = true) : scaleN n m 4800 = n * m / 4800 ∧ n * m / 4800 < top := by
  rw [fit_is, decide_eq_true_eq] at h
  have e : scaleN n m 4800 = n * m / 4800 := by
    unfold scaleN
    rw [if_neg (by omega)]
  exact ⟨e, by rw [← e]; exact scaleN_lt _ _ _ (by omega)⟩
theorem next_unfit {n m : Nat} (h : fitB (n * m) 4800 36 = false) : holdN (scaleN n m 4800) = limitN := by
  rw [fit_is, decide_eq_false_iff_not] at h
  have h1 := limit_half
  have h2 := top_pos
  have h3 := limit_pos
  unfold scaleN
  rw [if_pos (by omega)]
  unfold holdN
  rw [if_neg (by omega), if_pos (by omega)]
set_option maxRecDepth 100000 in
set_option maxHeartbeats 25600000 in
theorem refNext_any (bs : Nat) (s : Int) (w : World) (hb : bs < 4294967296) :
    Calls Tryd.prog 18 #[.int .u32 (bs : Int), .int .i64 s] w fun e w' => e = .returned (.int .u32 (nextN bs s : Nat)) ∧ Below w.heap.size w w' := by
  have HC := Lib.hid (refTarget_any bs w hb)
  obtain ⟨n, hn⟩ : ∃ n, n = tgtN bs := ⟨_, rfl⟩
  obtain ⟨qb, hq⟩ : ∃ q, q = nextN bs s := ⟨_, rfl⟩
  obtain ⟨ok, hok⟩ : ∃ ok, ok = tgtB bs := ⟨_, rfl⟩
  rw [← hn, ← hok] at HC
  rw [← hq]
  have HNT := Lib.hid (show n < top by rw [hn]; exact tgtN_lt bs)
  have HN := Lib.hid hn
  have HQ := Lib.hid hq
  have HOK := Lib.hid hok
  clear hn hq hok
  unfold numV at HC
  go_enter Tryd.func18, Tryd.ntmps18
  go_wp2_with fail
  refine HC.out.mono ?_
  rintro e w2 ⟨rfl, hb2⟩
  have z5 := zero_row w2 23
  have q5 : IRow ((w2.alloc (.cells zeroA 23)).setRow w2.heap.size (numA n)) w2.heap.size 23 .u8 (num n) := setRow_irow (ys := num n) z5
  have b3 := below_setRow (g := w2.heap.size) (hb2.alloc (o := .cells zeroA 23) hb2.size) hb2.size (numA n)
  have Z5 := Lib.hid z5
  have Q5 := Lib.hid q5
  have HB := Lib.hid b3
  clear z5 q5 b3 hb2 HC
  go_upto_region 2 with (refine wpList_store_irow rfl 23 (.tmp 5) (.tmp 12) rfl (g := w2.heap.size) (t := 23) (k := .u8) (xs := num 0) (ys := num n) rfl rfl Z5.out (size_num n) (same_length _ _) ?_)
  change Code.wp _ _ _ _ ((w2.alloc (.cells zeroA 23)).setRow w2.heap.size (numA n))
  obtain ⟨w3, hw3⟩ : ∃ w3, w3 = (w2.alloc (.cells zeroA 23)).setRow w2.heap.size (numA n) := ⟨_, rfl⟩
  obtain ⟨G5, hG⟩ : ∃ G, G = w2.heap.size := ⟨_, rfl⟩
  rw [← hw3] at Q5 HB ⊢
  rw [← hG] at Q5
  simp only [← hG]
  clear hw3 Z5 hG
  try dsimp only [Act.put]
  by_cases hok : tgtB bs = true
  · have hqq : qb = bitsN (holdN (scaleN n (clampS s) 4800)) := by rw [HQ.out]; unfold nextN; rw [if_pos hok, HN.out]
    have hok2 : ok = true := by rw [HOK.out, hok]
    subst hok2
    obtain ⟨m, hm⟩ : ∃ m, m = clampS s := ⟨_, rfl⟩
    obtain ⟨m1, m2⟩ := clampS_in s
    rw [← hm] at m1 m2 hqq
    obtain ⟨q, hqd⟩ : ∃ q, q = n * m / 4800 := ⟨_, rfl⟩
    obtain ⟨ft, hft⟩ : ∃ ft, ft = fitB (n * m) 4800 36 := ⟨_, rfl⟩
    have CT := Lib.hid (show ∀ W, Calls Tryd.prog 35 #[.agg (numA n), .int .i64 (m : Int)] W fun e w' => e = .returned (.agg (num36A (n * m))) ∧ Below W.heap.size W w' from fun W => times_any n m W HNT.out m2)
    have CSH := Lib.hid (show ∀ W, Calls Tryd.prog 34 #[.agg (num36A (n * m)), .int .i64 4800] W fun e w' => e = .returned (.tuple #[.agg (numA q), .bool ft]) ∧ Below W.heap.size W w' from fun W => by
      rw [hqd, hft]
      exact shared_any (n * m) 4800 W (times_fits HNT.out m2) (by omega) (by omega))
    have CB0 := Lib.hid (show ∀ W, Calls Tryd.prog 10 #[.agg (numA (holdN (scaleN n m 4800)))] W fun e w' => e = .returned (.int .u32 (qb : Int)) ∧ Below W.heap.size W w' from fun W => by rw [hqq]; exact refBits_any _ _ W (lzOf_is _))
    have HFT := Lib.hid (show ft = true → scaleN n m 4800 = q ∧ q < top from fun h => by rw [hqd]; exact next_fit (by rw [← hft]; exact h))
    have HFF := Lib.hid (show ft = false → holdN (scaleN n m 4800) = limitN from fun h => next_unfit (by rw [← hft]; exact h))
    have HM := Lib.hid hm
    clear hqq hqd hft hok HQ HN HOK m1 m2 hm
    by_cases hs1 : s < 1200
    · have hcm : clampS s = 1200 := by unfold clampS; rw [if_pos hs1]
      rw [hcm] at HM
      clear hcm
      go_upto_region 8 with fail
      rw [show (Value.int .i64 1200) = .int .i64 (m : Int) from by rw [HM.out]; rfl]
      go_upto_region 9 with (refine wpList_load_irow rfl 23 (.tmp 5) rfl (g := G5) (t := 23) (k := .u8) (xs := num n) rfl Q5.out Tryd.underlying23 (size_num n) ?_)
      refine (CT.out _).mono ?_
      rintro e w4 ⟨rfl, hb4⟩
      have q5 := Q5.out.below hb4 Q5.out.lt
      have bb := HB.out.trans (hb4.mono HB.out.size)
      clear Q5 HB hb4
      have Q5 := Lib.hid q5
      have HB := Lib.hid bb
      clear q5 bb
      go_upto_region 9 with fail
      refine (CSH.out _).mono ?_
      rintro e w5 ⟨rfl, hb5⟩
      have bb := HB.out.trans (hb5.mono HB.out.size)
      have z7 := zero_row w5 23
      have q7 : IRow ((w5.alloc (.cells zeroA 23)).setRow w5.heap.size (numA q)) w5.heap.size 23 .u8 (num q) := setRow_irow (ys := num q) z7
      have b7 := below_setRow (g := w5.heap.size) (bb.alloc (o := .cells zeroA 23) bb.size) bb.size (numA q)
      have hgw := bb.size
      clear Q5 HB hb5 bb
      have Z7 := Lib.hid z7
      have Q7 := Lib.hid q7
      have HB := Lib.hid b7
      have HGW := Lib.hid hgw
      clear z7 q7 b7 hgw
      go_upto_region 9 with (refine wpList_store_irow rfl 23 (.tmp 7) (.tmp 25) rfl (g := w5.heap.size) (t := 23) (k := .u8) (xs := num 0) (ys := num q) rfl rfl Z7.out (size_num q) (same_length _ _) ?_)
      change Code.wp _ _ _ _ ((w5.alloc (.cells zeroA 23)).setRow w5.heap.size (numA q))
      obtain ⟨w6, hw6⟩ : ∃ w6, w6 = (w5.alloc (.cells zeroA 23)).setRow w5.heap.size (numA q) := ⟨_, rfl⟩
      obtain ⟨G7, hG7⟩ : ∃ G, G = w5.heap.size := ⟨_, rfl⟩
      rw [← hw6] at Q7 HB ⊢
      rw [← hG7] at Q7 HGW
      simp only [← hG7]
      clear hw6 Z7 hG7 CT CSH
      try dsimp only [Act.put]
      have hzl : numV 0 = (.agg #[.int .u8 0, .int .u8 0, .int .u8 0, .int .u8 0, .int .u8 0, .int .u8 0, .int .u8 0, .int .u8 0, .int .u8 0, .int .u8 0, .int .u8 0, .int .u8 0, .int .u8 0, .int .u8 0, .int .u8 0, .int .u8 0, .int .u8 0, .int .u8 0, .int .u8 0, .int .u8 0, .int .u8 0, .int .u8 0, .int .u8 0, .int .u8 0, .int .u8 0, .int .u8 0, .int .u8 0, .int .u8 0, .int .u8 0, .int .u8 0, .int .u8 0, .int .u8 0]) := by unfold numV; rw [numA_zero]; rfl
      by_cases hft : ft = true
      · subst hft
        obtain ⟨hqx, hqt⟩ := HFT.out rfl
        by_cases hgt : limitN < q
        · have CL := Lib.hid (fun W => less_any limitN q W limit_lt hqt)
          rw [decide_eq_true hgt] at CL
          have hx0' : ¬ q = 0 := by omega
          have CB := Lib.hid (show ∀ W, Calls Tryd.prog 10 #[.agg (numA limitN)] W fun e w' => e = .returned (.int .u32 (qb : Int)) ∧ Below W.heap.size W w' from fun W => by
            have := CB0.out W
            rwa [hqx, show holdN q = limitN by unfold holdN; rw [if_neg hx0', if_pos hgt]] at this)
          clear hx0' hgt hqx hqt CB0
          refine wp_region_held_drew (S := (fun w' => IRow w' G7 23 .u8 (num q) ∧ Below w.heap.size w w')) (by kernel_rfl) ?_ (fun hHeld => ?_)
          · exact ⟨Q7.out.drew, below_drewN HB.out 1⟩
          refine wpAnyH_take (i := 0) (oi := { dst := some 27, op := Go.Op.move (Go.Operand.tmp 8), type := 4, pos := "ref.go:294", after := #[], guard := none }) (v := ?r1av0) rfl (by kernel_rfl) (by kernel_rfl) (by kernel_rfl) (fun _ _ _ h => h) (Or.inl ⟨by rfl, ?r1ay0⟩) (by assumption) ?r1ar0
          case r1ay0 => (intro w hSw; (try dsimp only at hSw); go_simp; try (with_reducible rfl))
          case r1ar0 =>
          try simp only [Act.put, List.setIfInBounds_toArray, List.set_cons_zero, List.set_cons_succ]
          refine wpAnyH_take (i := 1) (oi := { dst := some 28, op := Go.Op.unOp Go.UnOp.not 4 (Go.Operand.tmp 27), type := 4, pos := "ref.go:294", after := #[{ on := 0, ground := Go.Ground.data }], guard := none }) (v := ?r1av1) rfl (by kernel_rfl) (by kernel_rfl) (by kernel_rfl) (fun _ _ _ h => h) (Or.inl ⟨by rfl, ?r1ay1⟩) (by assumption) ?r1ar1
          case r1ay1 => (intro w hSw; (try dsimp only at hSw); go_simp; try (with_reducible rfl))
          case r1ar1 =>
          try simp only [Act.put, List.setIfInBounds_toArray, List.set_cons_zero, List.set_cons_succ]
          refine wpAnyH_take (i := 2) (oi := { dst := some 29, op := Go.Op.move (Go.Operand.tmp 28), type := 4, pos := "ref.go:294", after := #[{ on := 1, ground := Go.Ground.data }], guard := none }) (v := ?r1av2) rfl (by kernel_rfl) (by kernel_rfl) (by kernel_rfl) (fun _ _ _ h => h) (Or.inl ⟨by rfl, ?r1ay2⟩) (by assumption) ?r1ar2
          case r1ay2 => (intro w hSw; (try dsimp only at hSw); go_simp; try (with_reducible rfl))
          case r1ar2 =>
          try simp only [Act.put, List.setIfInBounds_toArray, List.set_cons_zero, List.set_cons_succ]
          refine wpAnyH_take (i := 4) (oi := { dst := some 31, op := Go.Op.load 23 (Go.Operand.tmp 7), type := 23, pos := "ref.go:294", after := #[{ on := 2, ground := Go.Ground.guard }], guard := some (2, false) }) (v := (.agg ((num q).map (Value.int .u8)).toArray)) rfl (by kernel_rfl) (by kernel_rfl) (by kernel_rfl) (fun _ _ _ h => h) (yieldsIf_load_mid (by rfl) 23 (.tmp 7) rfl G7 0 rfl ((num q).map (Value.int .u8)) _ (fun w' h => h.1.range) Tryd.underlying23 rfl (by rw [List.length_map]; exact size_num q)) (by assumption) ?_
          try simp only [Act.put, List.setIfInBounds_toArray, List.set_cons_zero, List.set_cons_succ]
          refine wpAnyH_ready (rs := [3]) (by kernel_rfl) (by simp) ?_
          refine AllReadyH.cons (o := { dst := some 30, op := Go.Op.call { callee := Go.Callee.value (Go.Operand.func 24), args := #[], argTypes := #[] }, type := 23, pos := "ref.go:294", after := #[{ on := 2, ground := Go.Ground.chain }, { on := 2, ground := Go.Ground.guard }], guard := some (2, false) }) rfl (fun K hK => ?_) (AllReadyH.nil)
          go_simp
          refine (refLimit_any _).mono ?_
          rintro e w4 ⟨rfl, hb4⟩
          go_simp
          refine hK.out _ _ ?_ (fun hHeld => ?_)
          · exact ⟨hHeld.1.below hb4 hHeld.1.lt, hHeld.2.trans (hb4.mono hHeld.2.size)⟩
          clear hK K
          try simp only [Act.put, List.setIfInBounds_toArray, List.set_cons_zero, List.set_cons_succ]
          refine wpAnyH_ready (rs := [5]) (by kernel_rfl) (by simp) ?_
          refine AllReadyH.cons (o := { dst := some 32, op := Go.Op.call { callee := Go.Callee.value (Go.Operand.func 14), args := #[Go.Operand.tmp 30, Go.Operand.tmp 31], argTypes := #[23, 23] }, type := 4, pos := "ref.go:294", after := #[{ on := 3, ground := Go.Ground.data }, { on := 4, ground := Go.Ground.data }, { on := 3, ground := Go.Ground.chain }, { on := 2, ground := Go.Ground.guard }], guard := some (2, false) }) rfl (fun K hK => ?_) (AllReadyH.nil)
          go_simp
          refine (CL.out _).mono ?_
          rintro e w4 ⟨rfl, hb4⟩
          go_simp
          refine hK.out _ _ ?_ (fun hHeld => ?_)
          · exact ⟨hHeld.1.below hb4 hHeld.1.lt, hHeld.2.trans (hb4.mono hHeld.2.size)⟩
          clear hK K
          try simp only [Act.put, List.setIfInBounds_toArray, List.set_cons_zero, List.set_cons_succ]
          refine wpAnyH_take (i := 6) (oi := { dst := some 33, op := Go.Op.pick (Go.Operand.tmp 29) (Go.Operand.const (Go.Value.bool true)) (Go.Operand.tmp 32), type := 4, pos := "ref.go:294", after := #[{ on := 2, ground := Go.Ground.data }, { on := 5, ground := Go.Ground.data }], guard := none }) (v := ?r1a_3_5v6) rfl (by kernel_rfl) (by kernel_rfl) (by kernel_rfl) (fun _ _ _ h => h) (Or.inl ⟨by rfl, ?r1a_3_5y6⟩) (by assumption) ?r1a_3_5r6
          case r1a_3_5y6 => (intro w hSw; (try dsimp only at hSw); go_simp; try (with_reducible rfl))
          case r1a_3_5r6 =>
          try simp only [Act.put, List.setIfInBounds_toArray, List.set_cons_zero, List.set_cons_succ]
          refine wpAnyH_done (by kernel_rfl) ?_ _
          have Q9 := Lib.hid hHeld.1
          have HB := Lib.hid hHeld.2
          clear hHeld Q7
          try dsimp only [Act.put]
          go_upto_region 11 with fail
          refine (refLimit_any _).mono ?_
          rintro e w7 ⟨rfl, hb7⟩
          have q7 := Q9.out.below hb7 Q9.out.lt
          have bb := HB.out.trans (hb7.mono HB.out.size)
          have q8 : IRow (w7.setRow G7 (numA limitN)) G7 23 .u8 (num limitN) := setRow_irow (ys := num limitN) q7
          have b8 := below_setRow (g := G7) bb HGW.out (numA limitN)
          clear Q9 HB hb7 bb
          have Q7 := Lib.hid q7
          have Q8 := Lib.hid q8
          have HB := Lib.hid b8
          clear q7 q8 b8
          go_upto_region 11 with (refine wpList_store_irow rfl 23 (.tmp 7) (.tmp 34) rfl (g := G7) (t := 23) (k := .u8) (xs := num q) (ys := num limitN) rfl rfl Q7.out (size_num limitN) (same_length _ _) ?_)
          change Code.wp _ _ _ _ (w7.setRow G7 (numA limitN))
          obtain ⟨w8, hw8⟩ : ∃ w8, w8 = w7.setRow G7 (numA limitN) := ⟨_, rfl⟩
          rw [← hw8] at Q8 HB ⊢
          clear hw8 Q7
          try dsimp only [Act.put]
          have hx0 : ¬ limitN = 0 := limit_pos
          have heq : ∀ U, (Op.equalIn 10000 23 (.agg ((num limitN).map (Value.int .u8)).toArray) (.agg #[.int .u8 0, .int .u8 0, .int .u8 0, .int .u8 0, .int .u8 0, .int .u8 0, .int .u8 0, .int .u8 0, .int .u8 0, .int .u8 0, .int .u8 0, .int .u8 0, .int .u8 0, .int .u8 0, .int .u8 0, .int .u8 0, .int .u8 0, .int .u8 0, .int .u8 0, .int .u8 0, .int .u8 0, .int .u8 0, .int .u8 0, .int .u8 0, .int .u8 0, .int .u8 0, .int .u8 0, .int .u8 0, .int .u8 0, .int .u8 0, .int .u8 0, .int .u8 0])).run Tryd.prog U = .ok false U := fun U => by
            have h := eq_num_at 23 Tryd.underlying23 limit_lt top_pos U
            rw [decide_eq_false hx0, hzl] at h
            exact h
          clear hx0 hzl
          go_upto_region 13 with (refine wpList_load_irow rfl 23 (.tmp 7) rfl (g := G7) (t := 23) (k := .u8) (xs := num limitN) rfl Q8.out Tryd.underlying23 (size_num limitN) ?_)
          go_wp2_with (refine wpList_load_irow rfl 23 (.tmp 7) rfl (g := G7) (t := 23) (k := .u8) (xs := num limitN) rfl Q8.out Tryd.underlying23 (size_num limitN) ?_)
          refine (CB.out _).mono ?_
          rintro e w9 ⟨rfl, hb9⟩
          have HF := Lib.hid (HB.out.trans (hb9.mono HB.out.size))
          clear hb9
          go_wp2_with fail
          go_ret
          exact ⟨rfl, HF.out⟩
        · have CL := Lib.hid (fun W => less_any limitN q W limit_lt hqt)
          rw [decide_eq_false hgt] at CL
          refine wp_region_held_drew (S := (fun w' => IRow w' G7 23 .u8 (num q) ∧ Below w.heap.size w w')) (by kernel_rfl) ?_ (fun hHeld => ?_)
          · exact ⟨Q7.out.drew, below_drewN HB.out 1⟩
          refine wpAnyH_take (i := 0) (oi := { dst := some 27, op := Go.Op.move (Go.Operand.tmp 8), type := 4, pos := "ref.go:294", after := #[], guard := none }) (v := ?r1bv0) rfl (by kernel_rfl) (by kernel_rfl) (by kernel_rfl) (fun _ _ _ h => h) (Or.inl ⟨by rfl, ?r1by0⟩) (by assumption) ?r1br0
          case r1by0 => (intro w hSw; (try dsimp only at hSw); go_simp; try (with_reducible rfl))
          case r1br0 =>
          try simp only [Act.put, List.setIfInBounds_toArray, List.set_cons_zero, List.set_cons_succ]
          refine wpAnyH_take (i := 1) (oi := { dst := some 28, op := Go.Op.unOp Go.UnOp.not 4 (Go.Operand.tmp 27), type := 4, pos := "ref.go:294", after := #[{ on := 0, ground := Go.Ground.data }], guard := none }) (v := ?r1bv1) rfl (by kernel_rfl) (by kernel_rfl) (by kernel_rfl) (fun _ _ _ h => h) (Or.inl ⟨by rfl, ?r1by1⟩) (by assumption) ?r1br1
          case r1by1 => (intro w hSw; (try dsimp only at hSw); go_simp; try (with_reducible rfl))
          case r1br1 =>
          try simp only [Act.put, List.setIfInBounds_toArray, List.set_cons_zero, List.set_cons_succ]
          refine wpAnyH_take (i := 2) (oi := { dst := some 29, op := Go.Op.move (Go.Operand.tmp 28), type := 4, pos := "ref.go:294", after := #[{ on := 1, ground := Go.Ground.data }], guard := none }) (v := ?r1bv2) rfl (by kernel_rfl) (by kernel_rfl) (by kernel_rfl) (fun _ _ _ h => h) (Or.inl ⟨by rfl, ?r1by2⟩) (by assumption) ?r1br2
          case r1by2 => (intro w hSw; (try dsimp only at hSw); go_simp; try (with_reducible rfl))
          case r1br2 =>
          try simp only [Act.put, List.setIfInBounds_toArray, List.set_cons_zero, List.set_cons_succ]
          refine wpAnyH_take (i := 4) (oi := { dst := some 31, op := Go.Op.load 23 (Go.Operand.tmp 7), type := 23, pos := "ref.go:294", after := #[{ on := 2, ground := Go.Ground.guard }], guard := some (2, false) }) (v := (.agg ((num q).map (Value.int .u8)).toArray)) rfl (by kernel_rfl) (by kernel_rfl) (by kernel_rfl) (fun _ _ _ h => h) (yieldsIf_load_mid (by rfl) 23 (.tmp 7) rfl G7 0 rfl ((num q).map (Value.int .u8)) _ (fun w' h => h.1.range) Tryd.underlying23 rfl (by rw [List.length_map]; exact size_num q)) (by assumption) ?_
          try simp only [Act.put, List.setIfInBounds_toArray, List.set_cons_zero, List.set_cons_succ]
          refine wpAnyH_ready (rs := [3]) (by kernel_rfl) (by simp) ?_
          refine AllReadyH.cons (o := { dst := some 30, op := Go.Op.call { callee := Go.Callee.value (Go.Operand.func 24), args := #[], argTypes := #[] }, type := 23, pos := "ref.go:294", after := #[{ on := 2, ground := Go.Ground.chain }, { on := 2, ground := Go.Ground.guard }], guard := some (2, false) }) rfl (fun K hK => ?_) (AllReadyH.nil)
          go_simp
          refine (refLimit_any _).mono ?_
          rintro e w4 ⟨rfl, hb4⟩
          go_simp
          refine hK.out _ _ ?_ (fun hHeld => ?_)
          · exact ⟨hHeld.1.below hb4 hHeld.1.lt, hHeld.2.trans (hb4.mono hHeld.2.size)⟩
          clear hK K
          try simp only [Act.put, List.setIfInBounds_toArray, List.set_cons_zero, List.set_cons_succ]
          refine wpAnyH_ready (rs := [5]) (by kernel_rfl) (by simp) ?_
          refine AllReadyH.cons (o := { dst := some 32, op := Go.Op.call { callee := Go.Callee.value (Go.Operand.func 14), args := #[Go.Operand.tmp 30, Go.Operand.tmp 31], argTypes := #[23, 23] }, type := 4, pos := "ref.go:294", after := #[{ on := 3, ground := Go.Ground.data }, { on := 4, ground := Go.Ground.data }, { on := 3, ground := Go.Ground.chain }, { on := 2, ground := Go.Ground.guard }], guard := some (2, false) }) rfl (fun K hK => ?_) (AllReadyH.nil)
          go_simp
          refine (CL.out _).mono ?_
          rintro e w4 ⟨rfl, hb4⟩
          go_simp
          refine hK.out _ _ ?_ (fun hHeld => ?_)
          · exact ⟨hHeld.1.below hb4 hHeld.1.lt, hHeld.2.trans (hb4.mono hHeld.2.size)⟩
          clear hK K
          try simp only [Act.put, List.setIfInBounds_toArray, List.set_cons_zero, List.set_cons_succ]
          refine wpAnyH_take (i := 6) (oi := { dst := some 33, op := Go.Op.pick (Go.Operand.tmp 29) (Go.Operand.const (Go.Value.bool true)) (Go.Operand.tmp 32), type := 4, pos := "ref.go:294", after := #[{ on := 2, ground := Go.Ground.data }, { on := 5, ground := Go.Ground.data }], guard := none }) (v := ?r1b_3_5v6) rfl (by kernel_rfl) (by kernel_rfl) (by kernel_rfl) (fun _ _ _ h => h) (Or.inl ⟨by rfl, ?r1b_3_5y6⟩) (by assumption) ?r1b_3_5r6
          case r1b_3_5y6 => (intro w hSw; (try dsimp only at hSw); go_simp; try (with_reducible rfl))
          case r1b_3_5r6 =>
          try simp only [Act.put, List.setIfInBounds_toArray, List.set_cons_zero, List.set_cons_succ]
          refine wpAnyH_done (by kernel_rfl) ?_ _
          have Q9 := Lib.hid hHeld.1
          have HB := Lib.hid hHeld.2
          clear hHeld Q7
          try dsimp only [Act.put]
          by_cases hx0 : q = 0
          · have CB := Lib.hid (show ∀ W, Calls Tryd.prog 10 #[.agg (numA 1)] W fun e w' => e = .returned (.int .u32 (qb : Int)) ∧ Below W.heap.size W w' from fun W => by
              have := CB0.out W
              rwa [hqx, show holdN q = 1 by unfold holdN; rw [if_pos hx0]] at this)
            have heq : ∀ U, (Op.equalIn 10000 23 (.agg ((num q).map (Value.int .u8)).toArray) (.agg #[.int .u8 0, .int .u8 0, .int .u8 0, .int .u8 0, .int .u8 0, .int .u8 0, .int .u8 0, .int .u8 0, .int .u8 0, .int .u8 0, .int .u8 0, .int .u8 0, .int .u8 0, .int .u8 0, .int .u8 0, .int .u8 0, .int .u8 0, .int .u8 0, .int .u8 0, .int .u8 0, .int .u8 0, .int .u8 0, .int .u8 0, .int .u8 0, .int .u8 0, .int .u8 0, .int .u8 0, .int .u8 0, .int .u8 0, .int .u8 0, .int .u8 0, .int .u8 0])).run Tryd.prog U = .ok true U := fun U => by
              have h := eq_num_at 23 Tryd.underlying23 hqt top_pos U
              rw [decide_eq_true hx0, hzl] at h
              exact h
            have hq1 : (num q).set 31 1 = num 1 := by rw [hx0]; exact num_one_set
            have c31 : ∀ U, IRow U G7 23 .u8 (num q) → U.cell? ⟨G7, 31, none⟩ = some (.int .u8 ((dg q 31 : Nat) : Int)) := fun U h => h.cell (num_at q (by omega))
            have f31 : ∀ U, IRow U G7 23 .u8 (num q) → U.frozen? ⟨G7, 31, none⟩ = false := fun U h => h.free 31
            have H1 := Lib.hid hq1
            clear hgt hqx hqt hx0 CB0 hzl CL hq1
            go_upto_region 12 with (refine wpList_load_irow rfl 23 (.tmp 7) rfl (g := G7) (t := 23) (k := .u8) (xs := num q) rfl Q9.out Tryd.underlying23 (size_num q) ?_)
            have c1 := c31 _ Q9.out
            have f1 := f31 _ Q9.out
            have Q8 := Lib.hid (Q9.out.set 31 1)
            rw [H1.out] at Q8
            have HB2 := Lib.hid (HB.out.setCell (p := ⟨G7, 31, none⟩) (by show w.heap.size ≤ G7; exact HGW.out) (.int .u8 1))
            clear c31 f31 HB
            have HB := HB2
            clear HB2
            go_upto_region 13 with fail
            go_wp2_with (refine wpList_load_irow rfl 23 (.tmp 7) rfl (g := G7) (t := 23) (k := .u8) (xs := num 1) rfl Q8.out Tryd.underlying23 (size_num 1) ?_)
            refine (CB.out _).mono ?_
            rintro e w9 ⟨rfl, hb9⟩
            have HF := Lib.hid (HB.out.trans (hb9.mono HB.out.size))
            clear hb9
            go_wp2_with fail
            go_ret
            exact ⟨rfl, HF.out⟩
          · have CB := Lib.hid (show ∀ W, Calls Tryd.prog 10 #[.agg (numA q)] W fun e w' => e = .returned (.int .u32 (qb : Int)) ∧ Below W.heap.size W w' from fun W => by
              have := CB0.out W
              rwa [hqx, show holdN q = q by unfold holdN; rw [if_neg hx0, if_neg hgt]] at this)
            have heq : ∀ U, (Op.equalIn 10000 23 (.agg ((num q).map (Value.int .u8)).toArray) (.agg #[.int .u8 0, .int .u8 0, .int .u8 0, .int .u8 0, .int .u8 0, .int .u8 0, .int .u8 0, .int .u8 0, .int .u8 0, .int .u8 0, .int .u8 0, .int .u8 0, .int .u8 0, .int .u8 0, .int .u8 0, .int .u8 0, .int .u8 0, .int .u8 0, .int .u8 0, .int .u8 0, .int .u8 0, .int .u8 0, .int .u8 0, .int .u8 0, .int .u8 0, .int .u8 0, .int .u8 0, .int .u8 0, .int .u8 0, .int .u8 0, .int .u8 0, .int .u8 0])).run Tryd.prog U = .ok false U := fun U => by
              have h := eq_num_at 23 Tryd.underlying23 hqt top_pos U
              rw [decide_eq_false hx0, hzl] at h
              exact h
            clear hgt hqx hqt hx0 CB0 hzl CL
            have Q8 := Q9
            clear Q9
            go_upto_region 13 with (refine wpList_load_irow rfl 23 (.tmp 7) rfl (g := G7) (t := 23) (k := .u8) (xs := num q) rfl Q8.out Tryd.underlying23 (size_num q) ?_)
            go_wp2_with (refine wpList_load_irow rfl 23 (.tmp 7) rfl (g := G7) (t := 23) (k := .u8) (xs := num q) rfl Q8.out Tryd.underlying23 (size_num q) ?_)
            refine (CB.out _).mono ?_
            rintro e w9 ⟨rfl, hb9⟩
            have HF := Lib.hid (HB.out.trans (hb9.mono HB.out.size))
            clear hb9
            go_wp2_with fail
            go_ret
            exact ⟨rfl, HF.out⟩
      · have hff : ft = false := by simpa using hft
        subst hff
        have CB := Lib.hid (show ∀ W, Calls Tryd.prog 10 #[.agg (numA limitN)] W fun e w' => e = .returned (.int .u32 (qb : Int)) ∧ Below W.heap.size W w' from fun W => by
          have := CB0.out W
          rwa [HFF.out rfl] at this)
        clear hft CB0
        refine wp_region_held_drew (S := (fun w' => IRow w' G7 23 .u8 (num q) ∧ Below w.heap.size w w')) (by kernel_rfl) ?_ (fun hHeld => ?_)
        · exact ⟨Q7.out.drew, below_drewN HB.out 1⟩
        refine wpAnyH_take (i := 0) (oi := { dst := some 27, op := Go.Op.move (Go.Operand.tmp 8), type := 4, pos := "ref.go:294", after := #[], guard := none }) (v := ?r1cv0) rfl (by kernel_rfl) (by kernel_rfl) (by kernel_rfl) (fun _ _ _ h => h) (Or.inl ⟨by rfl, ?r1cy0⟩) (by assumption) ?r1cr0
        case r1cy0 => (intro w hSw; (try dsimp only at hSw); go_simp; try (with_reducible rfl))
        case r1cr0 =>
        try simp only [Act.put, List.setIfInBounds_toArray, List.set_cons_zero, List.set_cons_succ]
        refine wpAnyH_take (i := 1) (oi := { dst := some 28, op := Go.Op.unOp Go.UnOp.not 4 (Go.Operand.tmp 27), type := 4, pos := "ref.go:294", after := #[{ on := 0, ground := Go.Ground.data }], guard := none }) (v := ?r1cv1) rfl (by kernel_rfl) (by kernel_rfl) (by kernel_rfl) (fun _ _ _ h => h) (Or.inl ⟨by rfl, ?r1cy1⟩) (by assumption) ?r1cr1
        case r1cy1 => (intro w hSw; (try dsimp only at hSw); go_simp; try (with_reducible rfl))
        case r1cr1 =>
        try simp only [Act.put, List.setIfInBounds_toArray, List.set_cons_zero, List.set_cons_succ]
        refine wpAnyH_take (i := 2) (oi := { dst := some 29, op := Go.Op.move (Go.Operand.tmp 28), type := 4, pos := "ref.go:294", after := #[{ on := 1, ground := Go.Ground.data }], guard := none }) (v := ?r1cv2) rfl (by kernel_rfl) (by kernel_rfl) (by kernel_rfl) (fun _ _ _ h => h) (Or.inl ⟨by rfl, ?r1cy2⟩) (by assumption) ?r1cr2
        case r1cy2 => (intro w hSw; (try dsimp only at hSw); go_simp; try (with_reducible rfl))
        case r1cr2 =>
        try simp only [Act.put, List.setIfInBounds_toArray, List.set_cons_zero, List.set_cons_succ]
        refine wpAnyH_take (i := 3) (oi := { dst := some 30, op := Go.Op.call { callee := Go.Callee.value (Go.Operand.func 24), args := #[], argTypes := #[] }, type := 23, pos := "ref.go:294", after := #[{ on := 2, ground := Go.Ground.chain }, { on := 2, ground := Go.Ground.guard }], guard := some (2, false) }) (v := undef) rfl (by kernel_rfl) (by kernel_rfl) (by kernel_rfl) (fun _ _ _ h => h) (Or.inr ⟨by rfl, rfl⟩) (by assumption) ?_
        try simp only [Act.put, List.setIfInBounds_toArray, List.set_cons_zero, List.set_cons_succ]
        refine wpAnyH_take (i := 4) (oi := { dst := some 31, op := Go.Op.load 23 (Go.Operand.tmp 7), type := 23, pos := "ref.go:294", after := #[{ on := 2, ground := Go.Ground.guard }], guard := some (2, false) }) (v := undef) rfl (by kernel_rfl) (by kernel_rfl) (by kernel_rfl) (fun _ _ _ h => h) (Or.inr ⟨by rfl, rfl⟩) (by assumption) ?_
        try simp only [Act.put, List.setIfInBounds_toArray, List.set_cons_zero, List.set_cons_succ]
        refine wpAnyH_take (i := 5) (oi := { dst := some 32, op := Go.Op.call { callee := Go.Callee.value (Go.Operand.func 14), args := #[Go.Operand.tmp 30, Go.Operand.tmp 31], argTypes := #[23, 23] }, type := 4, pos := "ref.go:294", after := #[{ on := 3, ground := Go.Ground.data }, { on := 4, ground := Go.Ground.data }, { on := 3, ground := Go.Ground.chain }, { on := 2, ground := Go.Ground.guard }], guard := some (2, false) }) (v := undef) rfl (by kernel_rfl) (by kernel_rfl) (by kernel_rfl) (fun _ _ _ h => h) (Or.inr ⟨by rfl, rfl⟩) (by assumption) ?_
        try simp only [Act.put, List.setIfInBounds_toArray, List.set_cons_zero, List.set_cons_succ]
        refine wpAnyH_take (i := 6) (oi := { dst := some 33, op := Go.Op.pick (Go.Operand.tmp 29) (Go.Operand.const (Go.Value.bool true)) (Go.Operand.tmp 32), type := 4, pos := "ref.go:294", after := #[{ on := 2, ground := Go.Ground.data }, { on := 5, ground := Go.Ground.data }], guard := none }) (v := ?r1cv6) rfl (by kernel_rfl) (by kernel_rfl) (by kernel_rfl) (fun _ _ _ h => h) (Or.inl ⟨by rfl, ?r1cy6⟩) (by assumption) ?r1cr6
        case r1cy6 => (intro w hSw; (try dsimp only at hSw); go_simp; try (with_reducible rfl))
        case r1cr6 =>
        try simp only [Act.put, List.setIfInBounds_toArray, List.set_cons_zero, List.set_cons_succ]
        refine wpAnyH_done (by kernel_rfl) ?_ _
        have Q9 := Lib.hid hHeld.1
        have HB := Lib.hid hHeld.2
        clear hHeld Q7
        try dsimp only [Act.put]
        go_upto_region 11 with fail
        refine (refLimit_any _).mono ?_
        rintro e w7 ⟨rfl, hb7⟩
        have q7 := Q9.out.below hb7 Q9.out.lt
        have bb := HB.out.trans (hb7.mono HB.out.size)
        have q8 : IRow (w7.setRow G7 (numA limitN)) G7 23 .u8 (num limitN) := setRow_irow (ys := num limitN) q7
        have b8 := below_setRow (g := G7) bb HGW.out (numA limitN)
        clear Q9 HB hb7 bb
        have Q7 := Lib.hid q7
        have Q8 := Lib.hid q8
        have HB := Lib.hid b8
        clear q7 q8 b8
        go_upto_region 11 with (refine wpList_store_irow rfl 23 (.tmp 7) (.tmp 34) rfl (g := G7) (t := 23) (k := .u8) (xs := num q) (ys := num limitN) rfl rfl Q7.out (size_num limitN) (same_length _ _) ?_)
        change Code.wp _ _ _ _ (w7.setRow G7 (numA limitN))
        obtain ⟨w8, hw8⟩ : ∃ w8, w8 = w7.setRow G7 (numA limitN) := ⟨_, rfl⟩
        rw [← hw8] at Q8 HB ⊢
        clear hw8 Q7
        try dsimp only [Act.put]
        have hx0 : ¬ limitN = 0 := limit_pos
        have heq : ∀ U, (Op.equalIn 10000 23 (.agg ((num limitN).map (Value.int .u8)).toArray) (.agg #[.int .u8 0, .int .u8 0, .int .u8 0, .int .u8 0, .int .u8 0, .int .u8 0, .int .u8 0, .int .u8 0, .int .u8 0, .int .u8 0, .int .u8 0, .int .u8 0, .int .u8 0, .int .u8 0, .int .u8 0, .int .u8 0, .int .u8 0, .int .u8 0, .int .u8 0, .int .u8 0, .int .u8 0, .int .u8 0, .int .u8 0, .int .u8 0, .int .u8 0, .int .u8 0, .int .u8 0, .int .u8 0, .int .u8 0, .int .u8 0, .int .u8 0, .int .u8 0])).run Tryd.prog U = .ok false U := fun U => by
          have h := eq_num_at 23 Tryd.underlying23 limit_lt top_pos U
          rw [decide_eq_false hx0, hzl] at h
          exact h
        clear hx0 hzl
        go_upto_region 13 with (refine wpList_load_irow rfl 23 (.tmp 7) rfl (g := G7) (t := 23) (k := .u8) (xs := num limitN) rfl Q8.out Tryd.underlying23 (size_num limitN) ?_)
        go_wp2_with (refine wpList_load_irow rfl 23 (.tmp 7) rfl (g := G7) (t := 23) (k := .u8) (xs := num limitN) rfl Q8.out Tryd.underlying23 (size_num limitN) ?_)
        refine (CB.out _).mono ?_
        rintro e w9 ⟨rfl, hb9⟩
        have HF := Lib.hid (HB.out.trans (hb9.mono HB.out.size))
        clear hb9
        go_wp2_with fail
        go_ret
        exact ⟨rfl, HF.out⟩
    · by_cases hs2 : 19200 < s
      · have hcm : clampS s = 19200 := by unfold clampS; rw [if_neg hs1, if_pos hs2]
        rw [hcm] at HM
        clear hcm
        go_upto_region 8 with fail
        rw [show (Value.int .i64 19200) = .int .i64 (m : Int) from by rw [HM.out]; rfl]
        go_upto_region 9 with (refine wpList_load_irow rfl 23 (.tmp 5) rfl (g := G5) (t := 23) (k := .u8) (xs := num n) rfl Q5.out Tryd.underlying23 (size_num n) ?_)
        refine (CT.out _).mono ?_
        rintro e w4 ⟨rfl, hb4⟩
        have q5 := Q5.out.below hb4 Q5.out.lt
        have bb := HB.out.trans (hb4.mono HB.out.size)
        clear Q5 HB hb4
        have Q5 := Lib.hid q5
        have HB := Lib.hid bb
        clear q5 bb
        go_upto_region 9 with fail
        refine (CSH.out _).mono ?_
        rintro e w5 ⟨rfl, hb5⟩
        have bb := HB.out.trans (hb5.mono HB.out.size)
        have z7 := zero_row w5 23
        have q7 : IRow ((w5.alloc (.cells zeroA 23)).setRow w5.heap.size (numA q)) w5.heap.size 23 .u8 (num q) := setRow_irow (ys := num q) z7
        have b7 := below_setRow (g := w5.heap.size) (bb.alloc (o := .cells zeroA 23) bb.size) bb.size (numA q)
        have hgw := bb.size
        clear Q5 HB hb5 bb
        have Z7 := Lib.hid z7
        have Q7 := Lib.hid q7
        have HB := Lib.hid b7
        have HGW := Lib.hid hgw
        clear z7 q7 b7 hgw
        go_upto_region 9 with (refine wpList_store_irow rfl 23 (.tmp 7) (.tmp 25) rfl (g := w5.heap.size) (t := 23) (k := .u8) (xs := num 0) (ys := num q) rfl rfl Z7.out (size_num q) (same_length _ _) ?_)
        change Code.wp _ _ _ _ ((w5.alloc (.cells zeroA 23)).setRow w5.heap.size (numA q))
        obtain ⟨w6, hw6⟩ : ∃ w6, w6 = (w5.alloc (.cells zeroA 23)).setRow w5.heap.size (numA q) := ⟨_, rfl⟩
        obtain ⟨G7, hG7⟩ : ∃ G, G = w5.heap.size := ⟨_, rfl⟩
        rw [← hw6] at Q7 HB ⊢
        rw [← hG7] at Q7 HGW
        simp only [← hG7]
        clear hw6 Z7 hG7 CT CSH
        try dsimp only [Act.put]
        have hzl : numV 0 = (.agg #[.int .u8 0, .int .u8 0, .int .u8 0, .int .u8 0, .int .u8 0, .int .u8 0, .int .u8 0, .int .u8 0, .int .u8 0, .int .u8 0, .int .u8 0, .int .u8 0, .int .u8 0, .int .u8 0, .int .u8 0, .int .u8 0, .int .u8 0, .int .u8 0, .int .u8 0, .int .u8 0, .int .u8 0, .int .u8 0, .int .u8 0, .int .u8 0, .int .u8 0, .int .u8 0, .int .u8 0, .int .u8 0, .int .u8 0, .int .u8 0, .int .u8 0, .int .u8 0]) := by unfold numV; rw [numA_zero]; rfl
        by_cases hft : ft = true
        · subst hft
          obtain ⟨hqx, hqt⟩ := HFT.out rfl
          by_cases hgt : limitN < q
          · have CL := Lib.hid (fun W => less_any limitN q W limit_lt hqt)
            rw [decide_eq_true hgt] at CL
            have hx0' : ¬ q = 0 := by omega
            have CB := Lib.hid (show ∀ W, Calls Tryd.prog 10 #[.agg (numA limitN)] W fun e w' => e = .returned (.int .u32 (qb : Int)) ∧ Below W.heap.size W w' from fun W => by
              have := CB0.out W
              rwa [hqx, show holdN q = limitN by unfold holdN; rw [if_neg hx0', if_pos hgt]] at this)
            clear hx0' hgt hqx hqt CB0
            refine wp_region_held_drew (S := (fun w' => IRow w' G7 23 .u8 (num q) ∧ Below w.heap.size w w')) (by kernel_rfl) ?_ (fun hHeld => ?_)
            · exact ⟨Q7.out.drew, below_drewN HB.out 1⟩
            refine wpAnyH_take (i := 0) (oi := { dst := some 27, op := Go.Op.move (Go.Operand.tmp 8), type := 4, pos := "ref.go:294", after := #[], guard := none }) (v := ?r2av0) rfl (by kernel_rfl) (by kernel_rfl) (by kernel_rfl) (fun _ _ _ h => h) (Or.inl ⟨by rfl, ?r2ay0⟩) (by assumption) ?r2ar0
            case r2ay0 => (intro w hSw; (try dsimp only at hSw); go_simp; try (with_reducible rfl))
            case r2ar0 =>
            try simp only [Act.put, List.setIfInBounds_toArray, List.set_cons_zero, List.set_cons_succ]
            refine wpAnyH_take (i := 1) (oi := { dst := some 28, op := Go.Op.unOp Go.UnOp.not 4 (Go.Operand.tmp 27), type := 4, pos := "ref.go:294", after := #[{ on := 0, ground := Go.Ground.data }], guard := none }) (v := ?r2av1) rfl (by kernel_rfl) (by kernel_rfl) (by kernel_rfl) (fun _ _ _ h => h) (Or.inl ⟨by rfl, ?r2ay1⟩) (by assumption) ?r2ar1
            case r2ay1 => (intro w hSw; (try dsimp only at hSw); go_simp; try (with_reducible rfl))
            case r2ar1 =>
            try simp only [Act.put, List.setIfInBounds_toArray, List.set_cons_zero, List.set_cons_succ]
            refine wpAnyH_take (i := 2) (oi := { dst := some 29, op := Go.Op.move (Go.Operand.tmp 28), type := 4, pos := "ref.go:294", after := #[{ on := 1, ground := Go.Ground.data }], guard := none }) (v := ?r2av2) rfl (by kernel_rfl) (by kernel_rfl) (by kernel_rfl) (fun _ _ _ h => h) (Or.inl ⟨by rfl, ?r2ay2⟩) (by assumption) ?r2ar2
            case r2ay2 => (intro w hSw; (try dsimp only at hSw); go_simp; try (with_reducible rfl))
            case r2ar2 =>
            try simp only [Act.put, List.setIfInBounds_toArray, List.set_cons_zero, List.set_cons_succ]
            refine wpAnyH_take (i := 4) (oi := { dst := some 31, op := Go.Op.load 23 (Go.Operand.tmp 7), type := 23, pos := "ref.go:294", after := #[{ on := 2, ground := Go.Ground.guard }], guard := some (2, false) }) (v := (.agg ((num q).map (Value.int .u8)).toArray)) rfl (by kernel_rfl) (by kernel_rfl) (by kernel_rfl) (fun _ _ _ h => h) (yieldsIf_load_mid (by rfl) 23 (.tmp 7) rfl G7 0 rfl ((num q).map (Value.int .u8)) _ (fun w' h => h.1.range) Tryd.underlying23 rfl (by rw [List.length_map]; exact size_num q)) (by assumption) ?_
            try simp only [Act.put, List.setIfInBounds_toArray, List.set_cons_zero, List.set_cons_succ]
            refine wpAnyH_ready (rs := [3]) (by kernel_rfl) (by simp) ?_
            refine AllReadyH.cons (o := { dst := some 30, op := Go.Op.call { callee := Go.Callee.value (Go.Operand.func 24), args := #[], argTypes := #[] }, type := 23, pos := "ref.go:294", after := #[{ on := 2, ground := Go.Ground.chain }, { on := 2, ground := Go.Ground.guard }], guard := some (2, false) }) rfl (fun K hK => ?_) (AllReadyH.nil)
            go_simp
            refine (refLimit_any _).mono ?_
            rintro e w4 ⟨rfl, hb4⟩
            go_simp
            refine hK.out _ _ ?_ (fun hHeld => ?_)
            · exact ⟨hHeld.1.below hb4 hHeld.1.lt, hHeld.2.trans (hb4.mono hHeld.2.size)⟩
            clear hK K
            try simp only [Act.put, List.setIfInBounds_toArray, List.set_cons_zero, List.set_cons_succ]
            refine wpAnyH_ready (rs := [5]) (by kernel_rfl) (by simp) ?_
            refine AllReadyH.cons (o := { dst := some 32, op := Go.Op.call { callee := Go.Callee.value (Go.Operand.func 14), args := #[Go.Operand.tmp 30, Go.Operand.tmp 31], argTypes := #[23, 23] }, type := 4, pos := "ref.go:294", after := #[{ on := 3, ground := Go.Ground.data }, { on := 4, ground := Go.Ground.data }, { on := 3, ground := Go.Ground.chain }, { on := 2, ground := Go.Ground.guard }], guard := some (2, false) }) rfl (fun K hK => ?_) (AllReadyH.nil)
            go_simp
            refine (CL.out _).mono ?_
            rintro e w4 ⟨rfl, hb4⟩
            go_simp
            refine hK.out _ _ ?_ (fun hHeld => ?_)
            · exact ⟨hHeld.1.below hb4 hHeld.1.lt, hHeld.2.trans (hb4.mono hHeld.2.size)⟩
            clear hK K
            try simp only [Act.put, List.setIfInBounds_toArray, List.set_cons_zero, List.set_cons_succ]
            refine wpAnyH_take (i := 6) (oi := { dst := some 33, op := Go.Op.pick (Go.Operand.tmp 29) (Go.Operand.const (Go.Value.bool true)) (Go.Operand.tmp 32), type := 4, pos := "ref.go:294", after := #[{ on := 2, ground := Go.Ground.data }, { on := 5, ground := Go.Ground.data }], guard := none }) (v := ?r2a_3_5v6) rfl (by kernel_rfl) (by kernel_rfl) (by kernel_rfl) (fun _ _ _ h => h) (Or.inl ⟨by rfl, ?r2a_3_5y6⟩) (by assumption) ?r2a_3_5r6
            case r2a_3_5y6 => (intro w hSw; (try dsimp only at hSw); go_simp; try (with_reducible rfl))
            case r2a_3_5r6 =>
            try simp only [Act.put, List.setIfInBounds_toArray, List.set_cons_zero, List.set_cons_succ]
            refine wpAnyH_done (by kernel_rfl) ?_ _
            have Q9 := Lib.hid hHeld.1
            have HB := Lib.hid hHeld.2
            clear hHeld Q7
            try dsimp only [Act.put]
            go_upto_region 11 with fail
            refine (refLimit_any _).mono ?_
            rintro e w7 ⟨rfl, hb7⟩
            have q7 := Q9.out.below hb7 Q9.out.lt
            have bb := HB.out.trans (hb7.mono HB.out.size)
            have q8 : IRow (w7.setRow G7 (numA limitN)) G7 23 .u8 (num limitN) := setRow_irow (ys := num limitN) q7
            have b8 := below_setRow (g := G7) bb HGW.out (numA limitN)
            clear Q9 HB hb7 bb
            have Q7 := Lib.hid q7
            have Q8 := Lib.hid q8
            have HB := Lib.hid b8
            clear q7 q8 b8
            go_upto_region 11 with (refine wpList_store_irow rfl 23 (.tmp 7) (.tmp 34) rfl (g := G7) (t := 23) (k := .u8) (xs := num q) (ys := num limitN) rfl rfl Q7.out (size_num limitN) (same_length _ _) ?_)
            change Code.wp _ _ _ _ (w7.setRow G7 (numA limitN))
            obtain ⟨w8, hw8⟩ : ∃ w8, w8 = w7.setRow G7 (numA limitN) := ⟨_, rfl⟩
            rw [← hw8] at Q8 HB ⊢
            clear hw8 Q7
            try dsimp only [Act.put]
            have hx0 : ¬ limitN = 0 := limit_pos
            have heq : ∀ U, (Op.equalIn 10000 23 (.agg ((num limitN).map (Value.int .u8)).toArray) (.agg #[.int .u8 0, .int .u8 0, .int .u8 0, .int .u8 0, .int .u8 0, .int .u8 0, .int .u8 0, .int .u8 0, .int .u8 0, .int .u8 0, .int .u8 0, .int .u8 0, .int .u8 0, .int .u8 0, .int .u8 0, .int .u8 0, .int .u8 0, .int .u8 0, .int .u8 0, .int .u8 0, .int .u8 0, .int .u8 0, .int .u8 0, .int .u8 0, .int .u8 0, .int .u8 0, .int .u8 0, .int .u8 0, .int .u8 0, .int .u8 0, .int .u8 0, .int .u8 0])).run Tryd.prog U = .ok false U := fun U => by
              have h := eq_num_at 23 Tryd.underlying23 limit_lt top_pos U
              rw [decide_eq_false hx0, hzl] at h
              exact h
            clear hx0 hzl
            go_upto_region 13 with (refine wpList_load_irow rfl 23 (.tmp 7) rfl (g := G7) (t := 23) (k := .u8) (xs := num limitN) rfl Q8.out Tryd.underlying23 (size_num limitN) ?_)
            go_wp2_with (refine wpList_load_irow rfl 23 (.tmp 7) rfl (g := G7) (t := 23) (k := .u8) (xs := num limitN) rfl Q8.out Tryd.underlying23 (size_num limitN) ?_)
            refine (CB.out _).mono ?_
            rintro e w9 ⟨rfl, hb9⟩
            have HF := Lib.hid (HB.out.trans (hb9.mono HB.out.size))
            clear hb9
            go_wp2_with fail
            go_ret
            exact ⟨rfl, HF.out⟩
          · have CL := Lib.hid (fun W => less_any limitN q W limit_lt hqt)
            rw [decide_eq_false hgt] at CL
            refine wp_region_held_drew (S := (fun w' => IRow w' G7 23 .u8 (num q) ∧ Below w.heap.size w w')) (by kernel_rfl) ?_ (fun hHeld => ?_)
            · exact ⟨Q7.out.drew, below_drewN HB.out 1⟩
            refine wpAnyH_take (i := 0) (oi := { dst := some 27, op := Go.Op.move (Go.Operand.tmp 8), type := 4, pos := "ref.go:294", after := #[], guard := none }) (v := ?r2bv0) rfl (by kernel_rfl) (by kernel_rfl) (by kernel_rfl) (fun _ _ _ h => h) (Or.inl ⟨by rfl, ?r2by0⟩) (by assumption) ?r2br0
            case r2by0 => (intro w hSw; (try dsimp only at hSw); go_simp; try (with_reducible rfl))
            case r2br0 =>
            try simp only [Act.put, List.setIfInBounds_toArray, List.set_cons_zero, List.set_cons_succ]
            refine wpAnyH_take (i := 1) (oi := { dst := some 28, op := Go.Op.unOp Go.UnOp.not 4 (Go.Operand.tmp 27), type := 4, pos := "ref.go:294", after := #[{ on := 0, ground := Go.Ground.data }], guard := none }) (v := ?r2bv1) rfl (by kernel_rfl) (by kernel_rfl) (by kernel_rfl) (fun _ _ _ h => h) (Or.inl ⟨by rfl, ?r2by1⟩) (by assumption) ?r2br1
            case r2by1 => (intro w hSw; (try dsimp only at hSw); go_simp; try (with_reducible rfl))
            case r2br1 =>
            try simp only [Act.put, List.setIfInBounds_toArray, List.set_cons_zero, List.set_cons_succ]
            refine wpAnyH_take (i := 2) (oi := { dst := some 29, op := Go.Op.move (Go.Operand.tmp 28), type := 4, pos := "ref.go:294", after := #[{ on := 1, ground := Go.Ground.data }], guard := none }) (v := ?r2bv2) rfl (by kernel_rfl) (by kernel_rfl) (by kernel_rfl) (fun _ _ _ h => h) (Or.inl ⟨by rfl, ?r2by2⟩) (by assumption) ?r2br2
            case r2by2 => (intro w hSw; (try dsimp only at hSw); go_simp; try (with_reducible rfl))
            case r2br2 =>
            try simp only [Act.put, List.setIfInBounds_toArray, List.set_cons_zero, List.set_cons_succ]
            refine wpAnyH_take (i := 4) (oi := { dst := some 31, op := Go.Op.load 23 (Go.Operand.tmp 7), type := 23, pos := "ref.go:294", after := #[{ on := 2, ground := Go.Ground.guard }], guard := some (2, false) }) (v := (.agg ((num q).map (Value.int .u8)).toArray)) rfl (by kernel_rfl) (by kernel_rfl) (by kernel_rfl) (fun _ _ _ h => h) (yieldsIf_load_mid (by rfl) 23 (.tmp 7) rfl G7 0 rfl ((num q).map (Value.int .u8)) _ (fun w' h => h.1.range) Tryd.underlying23 rfl (by rw [List.length_map]; exact size_num q)) (by assumption) ?_
            try simp only [Act.put, List.setIfInBounds_toArray, List.set_cons_zero, List.set_cons_succ]
            refine wpAnyH_ready (rs := [3]) (by kernel_rfl) (by simp) ?_
            refine AllReadyH.cons (o := { dst := some 30, op := Go.Op.call { callee := Go.Callee.value (Go.Operand.func 24), args := #[], argTypes := #[] }, type := 23, pos := "ref.go:294", after := #[{ on := 2, ground := Go.Ground.chain }, { on := 2, ground := Go.Ground.guard }], guard := some (2, false) }) rfl (fun K hK => ?_) (AllReadyH.nil)
            go_simp
            refine (refLimit_any _).mono ?_
            rintro e w4 ⟨rfl, hb4⟩
            go_simp
            refine hK.out _ _ ?_ (fun hHeld => ?_)
            · exact ⟨hHeld.1.below hb4 hHeld.1.lt, hHeld.2.trans (hb4.mono hHeld.2.size)⟩
            clear hK K
            try simp only [Act.put, List.setIfInBounds_toArray, List.set_cons_zero, List.set_cons_succ]
            refine wpAnyH_ready (rs := [5]) (by kernel_rfl) (by simp) ?_
            refine AllReadyH.cons (o := { dst := some 32, op := Go.Op.call { callee := Go.Callee.value (Go.Operand.func 14), args := #[Go.Operand.tmp 30, Go.Operand.tmp 31], argTypes := #[23, 23] }, type := 4, pos := "ref.go:294", after := #[{ on := 3, ground := Go.Ground.data }, { on := 4, ground := Go.Ground.data }, { on := 3, ground := Go.Ground.chain }, { on := 2, ground := Go.Ground.guard }], guard := some (2, false) }) rfl (fun K hK => ?_) (AllReadyH.nil)
            go_simp
            refine (CL.out _).mono ?_
            rintro e w4 ⟨rfl, hb4⟩
            go_simp
            refine hK.out _ _ ?_ (fun hHeld => ?_)
            · exact ⟨hHeld.1.below hb4 hHeld.1.lt, hHeld.2.trans (hb4.mono hHeld.2.size)⟩
            clear hK K
            try simp only [Act.put, List.setIfInBounds_toArray, List.set_cons_zero, List.set_cons_succ]
            refine wpAnyH_take (i := 6) (oi := { dst := some 33, op := Go.Op.pick (Go.Operand.tmp 29) (Go.Operand.const (Go.Value.bool true)) (Go.Operand.tmp 32), type := 4, pos := "ref.go:294", after := #[{ on := 2, ground := Go.Ground.data }, { on := 5, ground := Go.Ground.data }], guard := none }) (v := ?r2b_3_5v6) rfl (by kernel_rfl) (by kernel_rfl) (by kernel_rfl) (fun _ _ _ h => h) (Or.inl ⟨by rfl, ?r2b_3_5y6⟩) (by assumption) ?r2b_3_5r6
            case r2b_3_5y6 => (intro w hSw; (try dsimp only at hSw); go_simp; try (with_reducible rfl))
            case r2b_3_5r6 =>
            try simp only [Act.put, List.setIfInBounds_toArray, List.set_cons_zero, List.set_cons_succ]
            refine wpAnyH_done (by kernel_rfl) ?_ _
            have Q9 := Lib.hid hHeld.1
            have HB := Lib.hid hHeld.2
            clear hHeld Q7
            try dsimp only [Act.put]
            by_cases hx0 : q = 0
            · have CB := Lib.hid (show ∀ W, Calls Tryd.prog 10 #[.agg (numA 1)] W fun e w' => e = .returned (.int .u32 (qb : Int)) ∧ Below W.heap.size W w' from fun W => by
                have := CB0.out W
                rwa [hqx, show holdN q = 1 by unfold holdN; rw [if_pos hx0]] at this)
              have heq : ∀ U, (Op.equalIn 10000 23 (.agg ((num q).map (Value.int .u8)).toArray) (.agg #[.int .u8 0, .int .u8 0, .int .u8 0, .int .u8 0, .int .u8 0, .int .u8 0, .int .u8 0, .int .u8 0, .int .u8 0, .int .u8 0, .int .u8 0, .int .u8 0, .int .u8 0, .int .u8 0, .int .u8 0, .int .u8 0, .int .u8 0, .int .u8 0, .int .u8 0, .int .u8 0, .int .u8 0, .int .u8 0, .int .u8 0, .int .u8 0, .int .u8 0, .int .u8 0, .int .u8 0, .int .u8 0, .int .u8 0, .int .u8 0, .int .u8 0, .int .u8 0])).run Tryd.prog U = .ok true U := fun U => by
                have h := eq_num_at 23 Tryd.underlying23 hqt top_pos U
                rw [decide_eq_true hx0, hzl] at h
                exact h
              have hq1 : (num q).set 31 1 = num 1 := by rw [hx0]; exact num_one_set
              have c31 : ∀ U, IRow U G7 23 .u8 (num q) → U.cell? ⟨G7, 31, none⟩ = some (.int .u8 ((dg q 31 : Nat) : Int)) := fun U h => h.cell (num_at q (by omega))
              have f31 : ∀ U, IRow U G7 23 .u8 (num q) → U.frozen? ⟨G7, 31, none⟩ = false := fun U h => h.free 31
              have H1 := Lib.hid hq1
              clear hgt hqx hqt hx0 CB0 hzl CL hq1
              go_upto_region 12 with (refine wpList_load_irow rfl 23 (.tmp 7) rfl (g := G7) (t := 23) (k := .u8) (xs := num q) rfl Q9.out Tryd.underlying23 (size_num q) ?_)
              have c1 := c31 _ Q9.out
              have f1 := f31 _ Q9.out
              have Q8 := Lib.hid (Q9.out.set 31 1)
              rw [H1.out] at Q8
              have HB2 := Lib.hid (HB.out.setCell (p := ⟨G7, 31, none⟩) (by show w.heap.size ≤ G7; exact HGW.out) (.int .u8 1))
              clear c31 f31 HB
              have HB := HB2
              clear HB2
              go_upto_region 13 with fail
              go_wp2_with (refine wpList_load_irow rfl 23 (.tmp 7) rfl (g := G7) (t := 23) (k := .u8) (xs := num 1) rfl Q8.out Tryd.underlying23 (size_num 1) ?_)
              refine (CB.out _).mono ?_
              rintro e w9 ⟨rfl, hb9⟩
              have HF := Lib.hid (HB.out.trans (hb9.mono HB.out.size))
              clear hb9
              go_wp2_with fail
              go_ret
              exact ⟨rfl, HF.out⟩
            · have CB := Lib.hid (show ∀ W, Calls Tryd.prog 10 #[.agg (numA q)] W fun e w' => e = .returned (.int .u32 (qb : Int)) ∧ Below W.heap.size W w' from fun W => by
                have := CB0.out W
                rwa [hqx, show holdN q = q by unfold holdN; rw [if_neg hx0, if_neg hgt]] at this)
              have heq : ∀ U, (Op.equalIn 10000 23 (.agg ((num q).map (Value.int .u8)).toArray) (.agg #[.int .u8 0, .int .u8 0, .int .u8 0, .int .u8 0, .int .u8 0, .int .u8 0, .int .u8 0, .int .u8 0, .int .u8 0, .int .u8 0, .int .u8 0, .int .u8 0, .int .u8 0, .int .u8 0, .int .u8 0, .int .u8 0, .int .u8 0, .int .u8 0, .int .u8 0, .int .u8 0, .int .u8 0, .int .u8 0, .int .u8 0, .int .u8 0, .int .u8 0, .int .u8 0, .int .u8 0, .int .u8 0, .int .u8 0, .int .u8 0, .int .u8 0, .int .u8 0])).run Tryd.prog U = .ok false U := fun U => by
                have h := eq_num_at 23 Tryd.underlying23 hqt top_pos U
                rw [decide_eq_false hx0, hzl] at h
                exact h
              clear hgt hqx hqt hx0 CB0 hzl CL
              have Q8 := Q9
              clear Q9
              go_upto_region 13 with (refine wpList_load_irow rfl 23 (.tmp 7) rfl (g := G7) (t := 23) (k := .u8) (xs := num q) rfl Q8.out Tryd.underlying23 (size_num q) ?_)
              go_wp2_with (refine wpList_load_irow rfl 23 (.tmp 7) rfl (g := G7) (t := 23) (k := .u8) (xs := num q) rfl Q8.out Tryd.underlying23 (size_num q) ?_)
              refine (CB.out _).mono ?_
              rintro e w9 ⟨rfl, hb9⟩
              have HF := Lib.hid (HB.out.trans (hb9.mono HB.out.size))
              clear hb9
              go_wp2_with fail
              go_ret
              exact ⟨rfl, HF.out⟩
        · have hff : ft = false := by simpa using hft
          subst hff
          have CB := Lib.hid (show ∀ W, Calls Tryd.prog 10 #[.agg (numA limitN)] W fun e w' => e = .returned (.int .u32 (qb : Int)) ∧ Below W.heap.size W w' from fun W => by
            have := CB0.out W
            rwa [HFF.out rfl] at this)
          clear hft CB0
          refine wp_region_held_drew (S := (fun w' => IRow w' G7 23 .u8 (num q) ∧ Below w.heap.size w w')) (by kernel_rfl) ?_ (fun hHeld => ?_)
          · exact ⟨Q7.out.drew, below_drewN HB.out 1⟩
          refine wpAnyH_take (i := 0) (oi := { dst := some 27, op := Go.Op.move (Go.Operand.tmp 8), type := 4, pos := "ref.go:294", after := #[], guard := none }) (v := ?r2cv0) rfl (by kernel_rfl) (by kernel_rfl) (by kernel_rfl) (fun _ _ _ h => h) (Or.inl ⟨by rfl, ?r2cy0⟩) (by assumption) ?r2cr0
          case r2cy0 => (intro w hSw; (try dsimp only at hSw); go_simp; try (with_reducible rfl))
          case r2cr0 =>
          try simp only [Act.put, List.setIfInBounds_toArray, List.set_cons_zero, List.set_cons_succ]
          refine wpAnyH_take (i := 1) (oi := { dst := some 28, op := Go.Op.unOp Go.UnOp.not 4 (Go.Operand.tmp 27), type := 4, pos := "ref.go:294", after := #[{ on := 0, ground := Go.Ground.data }], guard := none }) (v := ?r2cv1) rfl (by kernel_rfl) (by kernel_rfl) (by kernel_rfl) (fun _ _ _ h => h) (Or.inl ⟨by rfl, ?r2cy1⟩) (by assumption) ?r2cr1
          case r2cy1 => (intro w hSw; (try dsimp only at hSw); go_simp; try (with_reducible rfl))
          case r2cr1 =>
          try simp only [Act.put, List.setIfInBounds_toArray, List.set_cons_zero, List.set_cons_succ]
          refine wpAnyH_take (i := 2) (oi := { dst := some 29, op := Go.Op.move (Go.Operand.tmp 28), type := 4, pos := "ref.go:294", after := #[{ on := 1, ground := Go.Ground.data }], guard := none }) (v := ?r2cv2) rfl (by kernel_rfl) (by kernel_rfl) (by kernel_rfl) (fun _ _ _ h => h) (Or.inl ⟨by rfl, ?r2cy2⟩) (by assumption) ?r2cr2
          case r2cy2 => (intro w hSw; (try dsimp only at hSw); go_simp; try (with_reducible rfl))
          case r2cr2 =>
          try simp only [Act.put, List.setIfInBounds_toArray, List.set_cons_zero, List.set_cons_succ]
          refine wpAnyH_take (i := 3) (oi := { dst := some 30, op := Go.Op.call { callee := Go.Callee.value (Go.Operand.func 24), args := #[], argTypes := #[] }, type := 23, pos := "ref.go:294", after := #[{ on := 2, ground := Go.Ground.chain }, { on := 2, ground := Go.Ground.guard }], guard := some (2, false) }) (v := undef) rfl (by kernel_rfl) (by kernel_rfl) (by kernel_rfl) (fun _ _ _ h => h) (Or.inr ⟨by rfl, rfl⟩) (by assumption) ?_
          try simp only [Act.put, List.setIfInBounds_toArray, List.set_cons_zero, List.set_cons_succ]
          refine wpAnyH_take (i := 4) (oi := { dst := some 31, op := Go.Op.load 23 (Go.Operand.tmp 7), type := 23, pos := "ref.go:294", after := #[{ on := 2, ground := Go.Ground.guard }], guard := some (2, false) }) (v := undef) rfl (by kernel_rfl) (by kernel_rfl) (by kernel_rfl) (fun _ _ _ h => h) (Or.inr ⟨by rfl, rfl⟩) (by assumption) ?_
          try simp only [Act.put, List.setIfInBounds_toArray, List.set_cons_zero, List.set_cons_succ]
          refine wpAnyH_take (i := 5) (oi := { dst := some 32, op := Go.Op.call { callee := Go.Callee.value (Go.Operand.func 14), args := #[Go.Operand.tmp 30, Go.Operand.tmp 31], argTypes := #[23, 23] }, type := 4, pos := "ref.go:294", after := #[{ on := 3, ground := Go.Ground.data }, { on := 4, ground := Go.Ground.data }, { on := 3, ground := Go.Ground.chain }, { on := 2, ground := Go.Ground.guard }], guard := some (2, false) }) (v := undef) rfl (by kernel_rfl) (by kernel_rfl) (by kernel_rfl) (fun _ _ _ h => h) (Or.inr ⟨by rfl, rfl⟩) (by assumption) ?_
          try simp only [Act.put, List.setIfInBounds_toArray, List.set_cons_zero, List.set_cons_succ]
          refine wpAnyH_take (i := 6) (oi := { dst := some 33, op := Go.Op.pick (Go.Operand.tmp 29) (Go.Operand.const (Go.Value.bool true)) (Go.Operand.tmp 32), type := 4, pos := "ref.go:294", after := #[{ on := 2, ground := Go.Ground.data }, { on := 5, ground := Go.Ground.data }], guard := none }) (v := ?r2cv6) rfl (by kernel_rfl) (by kernel_rfl) (by kernel_rfl) (fun _ _ _ h => h) (Or.inl ⟨by rfl, ?r2cy6⟩) (by assumption) ?r2cr6
          case r2cy6 => (intro w hSw; (try dsimp only at hSw); go_simp; try (with_reducible rfl))
          case r2cr6 =>
          try simp only [Act.put, List.setIfInBounds_toArray, List.set_cons_zero, List.set_cons_succ]
          refine wpAnyH_done (by kernel_rfl) ?_ _
          have Q9 := Lib.hid hHeld.1
          have HB := Lib.hid hHeld.2
          clear hHeld Q7
          try dsimp only [Act.put]
          go_upto_region 11 with fail
          refine (refLimit_any _).mono ?_
          rintro e w7 ⟨rfl, hb7⟩
          have q7 := Q9.out.below hb7 Q9.out.lt
          have bb := HB.out.trans (hb7.mono HB.out.size)
          have q8 : IRow (w7.setRow G7 (numA limitN)) G7 23 .u8 (num limitN) := setRow_irow (ys := num limitN) q7
          have b8 := below_setRow (g := G7) bb HGW.out (numA limitN)
          clear Q9 HB hb7 bb
          have Q7 := Lib.hid q7
          have Q8 := Lib.hid q8
          have HB := Lib.hid b8
          clear q7 q8 b8
          go_upto_region 11 with (refine wpList_store_irow rfl 23 (.tmp 7) (.tmp 34) rfl (g := G7) (t := 23) (k := .u8) (xs := num q) (ys := num limitN) rfl rfl Q7.out (size_num limitN) (same_length _ _) ?_)
          change Code.wp _ _ _ _ (w7.setRow G7 (numA limitN))
          obtain ⟨w8, hw8⟩ : ∃ w8, w8 = w7.setRow G7 (numA limitN) := ⟨_, rfl⟩
          rw [← hw8] at Q8 HB ⊢
          clear hw8 Q7
          try dsimp only [Act.put]
          have hx0 : ¬ limitN = 0 := limit_pos
          have heq : ∀ U, (Op.equalIn 10000 23 (.agg ((num limitN).map (Value.int .u8)).toArray) (.agg #[.int .u8 0, .int .u8 0, .int .u8 0, .int .u8 0, .int .u8 0, .int .u8 0, .int .u8 0, .int .u8 0, .int .u8 0, .int .u8 0, .int .u8 0, .int .u8 0, .int .u8 0, .int .u8 0, .int .u8 0, .int .u8 0, .int .u8 0, .int .u8 0, .int .u8 0, .int .u8 0, .int .u8 0, .int .u8 0, .int .u8 0, .int .u8 0, .int .u8 0, .int .u8 0, .int .u8 0, .int .u8 0, .int .u8 0, .int .u8 0, .int .u8 0, .int .u8 0])).run Tryd.prog U = .ok false U := fun U => by
            have h := eq_num_at 23 Tryd.underlying23 limit_lt top_pos U
            rw [decide_eq_false hx0, hzl] at h
            exact h
          clear hx0 hzl
          go_upto_region 13 with (refine wpList_load_irow rfl 23 (.tmp 7) rfl (g := G7) (t := 23) (k := .u8) (xs := num limitN) rfl Q8.out Tryd.underlying23 (size_num limitN) ?_)
          go_wp2_with (refine wpList_load_irow rfl 23 (.tmp 7) rfl (g := G7) (t := 23) (k := .u8) (xs := num limitN) rfl Q8.out Tryd.underlying23 (size_num limitN) ?_)
          refine (CB.out _).mono ?_
          rintro e w9 ⟨rfl, hb9⟩
          have HF := Lib.hid (HB.out.trans (hb9.mono HB.out.size))
          clear hb9
          go_wp2_with fail
          go_ret
          exact ⟨rfl, HF.out⟩
      · have hcm : s = (m : Int) := by rw [HM.out]; unfold clampS; rw [if_neg hs1, if_neg hs2]; omega
        subst hcm
        go_upto_region 8 with fail
        skip
        go_upto_region 9 with (refine wpList_load_irow rfl 23 (.tmp 5) rfl (g := G5) (t := 23) (k := .u8) (xs := num n) rfl Q5.out Tryd.underlying23 (size_num n) ?_)
        refine (CT.out _).mono ?_
        rintro e w4 ⟨rfl, hb4⟩
        have q5 := Q5.out.below hb4 Q5.out.lt
        have bb := HB.out.trans (hb4.mono HB.out.size)
        clear Q5 HB hb4
        have Q5 := Lib.hid q5
        have HB := Lib.hid bb
        clear q5 bb
        go_upto_region 9 with fail
        refine (CSH.out _).mono ?_
        rintro e w5 ⟨rfl, hb5⟩
        have bb := HB.out.trans (hb5.mono HB.out.size)
        have z7 := zero_row w5 23
        have q7 : IRow ((w5.alloc (.cells zeroA 23)).setRow w5.heap.size (numA q)) w5.heap.size 23 .u8 (num q) := setRow_irow (ys := num q) z7
        have b7 := below_setRow (g := w5.heap.size) (bb.alloc (o := .cells zeroA 23) bb.size) bb.size (numA q)
        have hgw := bb.size
        clear Q5 HB hb5 bb
        have Z7 := Lib.hid z7
        have Q7 := Lib.hid q7
        have HB := Lib.hid b7
        have HGW := Lib.hid hgw
        clear z7 q7 b7 hgw
        go_upto_region 9 with (refine wpList_store_irow rfl 23 (.tmp 7) (.tmp 25) rfl (g := w5.heap.size) (t := 23) (k := .u8) (xs := num 0) (ys := num q) rfl rfl Z7.out (size_num q) (same_length _ _) ?_)
        change Code.wp _ _ _ _ ((w5.alloc (.cells zeroA 23)).setRow w5.heap.size (numA q))
        obtain ⟨w6, hw6⟩ : ∃ w6, w6 = (w5.alloc (.cells zeroA 23)).setRow w5.heap.size (numA q) := ⟨_, rfl⟩
        obtain ⟨G7, hG7⟩ : ∃ G, G = w5.heap.size := ⟨_, rfl⟩
        rw [← hw6] at Q7 HB ⊢
        rw [← hG7] at Q7 HGW
        simp only [← hG7]
        clear hw6 Z7 hG7 CT CSH
        try dsimp only [Act.put]
        have hzl : numV 0 = (.agg #[.int .u8 0, .int .u8 0, .int .u8 0, .int .u8 0, .int .u8 0, .int .u8 0, .int .u8 0, .int .u8 0, .int .u8 0, .int .u8 0, .int .u8 0, .int .u8 0, .int .u8 0, .int .u8 0, .int .u8 0, .int .u8 0, .int .u8 0, .int .u8 0, .int .u8 0, .int .u8 0, .int .u8 0, .int .u8 0, .int .u8 0, .int .u8 0, .int .u8 0, .int .u8 0, .int .u8 0, .int .u8 0, .int .u8 0, .int .u8 0, .int .u8 0, .int .u8 0]) := by unfold numV; rw [numA_zero]; rfl
        by_cases hft : ft = true
        · subst hft
          obtain ⟨hqx, hqt⟩ := HFT.out rfl
          by_cases hgt : limitN < q
          · have CL := Lib.hid (fun W => less_any limitN q W limit_lt hqt)
            rw [decide_eq_true hgt] at CL
            have hx0' : ¬ q = 0 := by omega
            have CB := Lib.hid (show ∀ W, Calls Tryd.prog 10 #[.agg (numA limitN)] W fun e w' => e = .returned (.int .u32 (qb : Int)) ∧ Below W.heap.size W w' from fun W => by
              have := CB0.out W
              rwa [hqx, show holdN q = limitN by unfold holdN; rw [if_neg hx0', if_pos hgt]] at this)
            clear hx0' hgt hqx hqt CB0
            refine wp_region_held_drew (S := (fun w' => IRow w' G7 23 .u8 (num q) ∧ Below w.heap.size w w')) (by kernel_rfl) ?_ (fun hHeld => ?_)
            · exact ⟨Q7.out.drew, below_drewN HB.out 1⟩
            refine wpAnyH_take (i := 0) (oi := { dst := some 27, op := Go.Op.move (Go.Operand.tmp 8), type := 4, pos := "ref.go:294", after := #[], guard := none }) (v := ?r3av0) rfl (by kernel_rfl) (by kernel_rfl) (by kernel_rfl) (fun _ _ _ h => h) (Or.inl ⟨by rfl, ?r3ay0⟩) (by assumption) ?r3ar0
            case r3ay0 => (intro w hSw; (try dsimp only at hSw); go_simp; try (with_reducible rfl))
            case r3ar0 =>
            try simp only [Act.put, List.setIfInBounds_toArray, List.set_cons_zero, List.set_cons_succ]
            refine wpAnyH_take (i := 1) (oi := { dst := some 28, op := Go.Op.unOp Go.UnOp.not 4 (Go.Operand.tmp 27), type := 4, pos := "ref.go:294", after := #[{ on := 0, ground := Go.Ground.data }], guard := none }) (v := ?r3av1) rfl (by kernel_rfl) (by kernel_rfl) (by kernel_rfl) (fun _ _ _ h => h) (Or.inl ⟨by rfl, ?r3ay1⟩) (by assumption) ?r3ar1
            case r3ay1 => (intro w hSw; (try dsimp only at hSw); go_simp; try (with_reducible rfl))
            case r3ar1 =>
            try simp only [Act.put, List.setIfInBounds_toArray, List.set_cons_zero, List.set_cons_succ]
            refine wpAnyH_take (i := 2) (oi := { dst := some 29, op := Go.Op.move (Go.Operand.tmp 28), type := 4, pos := "ref.go:294", after := #[{ on := 1, ground := Go.Ground.data }], guard := none }) (v := ?r3av2) rfl (by kernel_rfl) (by kernel_rfl) (by kernel_rfl) (fun _ _ _ h => h) (Or.inl ⟨by rfl, ?r3ay2⟩) (by assumption) ?r3ar2
            case r3ay2 => (intro w hSw; (try dsimp only at hSw); go_simp; try (with_reducible rfl))
            case r3ar2 =>
            try simp only [Act.put, List.setIfInBounds_toArray, List.set_cons_zero, List.set_cons_succ]
            refine wpAnyH_take (i := 4) (oi := { dst := some 31, op := Go.Op.load 23 (Go.Operand.tmp 7), type := 23, pos := "ref.go:294", after := #[{ on := 2, ground := Go.Ground.guard }], guard := some (2, false) }) (v := (.agg ((num q).map (Value.int .u8)).toArray)) rfl (by kernel_rfl) (by kernel_rfl) (by kernel_rfl) (fun _ _ _ h => h) (yieldsIf_load_mid (by rfl) 23 (.tmp 7) rfl G7 0 rfl ((num q).map (Value.int .u8)) _ (fun w' h => h.1.range) Tryd.underlying23 rfl (by rw [List.length_map]; exact size_num q)) (by assumption) ?_
            try simp only [Act.put, List.setIfInBounds_toArray, List.set_cons_zero, List.set_cons_succ]
            refine wpAnyH_ready (rs := [3]) (by kernel_rfl) (by simp) ?_
            refine AllReadyH.cons (o := { dst := some 30, op := Go.Op.call { callee := Go.Callee.value (Go.Operand.func 24), args := #[], argTypes := #[] }, type := 23, pos := "ref.go:294", after := #[{ on := 2, ground := Go.Ground.chain }, { on := 2, ground := Go.Ground.guard }], guard := some (2, false) }) rfl (fun K hK => ?_) (AllReadyH.nil)
            go_simp
            refine (refLimit_any _).mono ?_
            rintro e w4 ⟨rfl, hb4⟩
            go_simp
            refine hK.out _ _ ?_ (fun hHeld => ?_)
            · exact ⟨hHeld.1.below hb4 hHeld.1.lt, hHeld.2.trans (hb4.mono hHeld.2.size)⟩
            clear hK K
            try simp only [Act.put, List.setIfInBounds_toArray, List.set_cons_zero, List.set_cons_succ]
            refine wpAnyH_ready (rs := [5]) (by kernel_rfl) (by simp) ?_
            refine AllReadyH.cons (o := { dst := some 32, op := Go.Op.call { callee := Go.Callee.value (Go.Operand.func 14), args := #[Go.Operand.tmp 30, Go.Operand.tmp 31], argTypes := #[23, 23] }, type := 4, pos := "ref.go:294", after := #[{ on := 3, ground := Go.Ground.data }, { on := 4, ground := Go.Ground.data }, { on := 3, ground := Go.Ground.chain }, { on := 2, ground := Go.Ground.guard }], guard := some (2, false) }) rfl (fun K hK => ?_) (AllReadyH.nil)
            go_simp
            refine (CL.out _).mono ?_
            rintro e w4 ⟨rfl, hb4⟩
            go_simp
            refine hK.out _ _ ?_ (fun hHeld => ?_)
            · exact ⟨hHeld.1.below hb4 hHeld.1.lt, hHeld.2.trans (hb4.mono hHeld.2.size)⟩
            clear hK K
            try simp only [Act.put, List.setIfInBounds_toArray, List.set_cons_zero, List.set_cons_succ]
            refine wpAnyH_take (i := 6) (oi := { dst := some 33, op := Go.Op.pick (Go.Operand.tmp 29) (Go.Operand.const (Go.Value.bool true)) (Go.Operand.tmp 32), type := 4, pos := "ref.go:294", after := #[{ on := 2, ground := Go.Ground.data }, { on := 5, ground := Go.Ground.data }], guard := none }) (v := ?r3a_3_5v6) rfl (by kernel_rfl) (by kernel_rfl) (by kernel_rfl) (fun _ _ _ h => h) (Or.inl ⟨by rfl, ?r3a_3_5y6⟩) (by assumption) ?r3a_3_5r6
            case r3a_3_5y6 => (intro w hSw; (try dsimp only at hSw); go_simp; try (with_reducible rfl))
            case r3a_3_5r6 =>
            try simp only [Act.put, List.setIfInBounds_toArray, List.set_cons_zero, List.set_cons_succ]
            refine wpAnyH_done (by kernel_rfl) ?_ _
            have Q9 := Lib.hid hHeld.1
            have HB := Lib.hid hHeld.2
            clear hHeld Q7
            try dsimp only [Act.put]
            go_upto_region 11 with fail
            refine (refLimit_any _).mono ?_
            rintro e w7 ⟨rfl, hb7⟩
            have q7 := Q9.out.below hb7 Q9.out.lt
            have bb := HB.out.trans (hb7.mono HB.out.size)
            have q8 : IRow (w7.setRow G7 (numA limitN)) G7 23 .u8 (num limitN) := setRow_irow (ys := num limitN) q7
            have b8 := below_setRow (g := G7) bb HGW.out (numA limitN)
            clear Q9 HB hb7 bb
            have Q7 := Lib.hid q7
            have Q8 := Lib.hid q8
            have HB := Lib.hid b8
            clear q7 q8 b8
            go_upto_region 11 with (refine wpList_store_irow rfl 23 (.tmp 7) (.tmp 34) rfl (g := G7) (t := 23) (k := .u8) (xs := num q) (ys := num limitN) rfl rfl Q7.out (size_num limitN) (same_length _ _) ?_)
            change Code.wp _ _ _ _ (w7.setRow G7 (numA limitN))
            obtain ⟨w8, hw8⟩ : ∃ w8, w8 = w7.setRow G7 (numA limitN) := ⟨_, rfl⟩
            rw [← hw8] at Q8 HB ⊢
            clear hw8 Q7
            try dsimp only [Act.put]
            have hx0 : ¬ limitN = 0 := limit_pos
            have heq : ∀ U, (Op.equalIn 10000 23 (.agg ((num limitN).map (Value.int .u8)).toArray) (.agg #[.int .u8 0, .int .u8 0, .int .u8 0, .int .u8 0, .int .u8 0, .int .u8 0, .int .u8 0, .int .u8 0, .int .u8 0, .int .u8 0, .int .u8 0, .int .u8 0, .int .u8 0, .int .u8 0, .int .u8 0, .int .u8 0, .int .u8 0, .int .u8 0, .int .u8 0, .int .u8 0, .int .u8 0, .int .u8 0, .int .u8 0, .int .u8 0, .int .u8 0, .int .u8 0, .int .u8 0, .int .u8 0, .int .u8 0, .int .u8 0, .int .u8 0, .int .u8 0])).run Tryd.prog U = .ok false U := fun U => by
              have h := eq_num_at 23 Tryd.underlying23 limit_lt top_pos U
              rw [decide_eq_false hx0, hzl] at h
              exact h
            clear hx0 hzl
            go_upto_region 13 with (refine wpList_load_irow rfl 23 (.tmp 7) rfl (g := G7) (t := 23) (k := .u8) (xs := num limitN) rfl Q8.out Tryd.underlying23 (size_num limitN) ?_)
            go_wp2_with (refine wpList_load_irow rfl 23 (.tmp 7) rfl (g := G7) (t := 23) (k := .u8) (xs := num limitN) rfl Q8.out Tryd.underlying23 (size_num limitN) ?_)
            refine (CB.out _).mono ?_
            rintro e w9 ⟨rfl, hb9⟩
            have HF := Lib.hid (HB.out.trans (hb9.mono HB.out.size))
            clear hb9
            go_wp2_with fail
            go_ret
            exact ⟨rfl, HF.out⟩
          · have CL := Lib.hid (fun W => less_any limitN q W limit_lt hqt)
            rw [decide_eq_false hgt] at CL
            refine wp_region_held_drew (S := (fun w' => IRow w' G7 23 .u8 (num q) ∧ Below w.heap.size w w')) (by kernel_rfl) ?_ (fun hHeld => ?_)
            · exact ⟨Q7.out.drew, below_drewN HB.out 1⟩
            refine wpAnyH_take (i := 0) (oi := { dst := some 27, op := Go.Op.move (Go.Operand.tmp 8), type := 4, pos := "ref.go:294", after := #[], guard := none }) (v := ?r3bv0) rfl (by kernel_rfl) (by kernel_rfl) (by kernel_rfl) (fun _ _ _ h => h) (Or.inl ⟨by rfl, ?r3by0⟩) (by assumption) ?r3br0
            case r3by0 => (intro w hSw; (try dsimp only at hSw); go_simp; try (with_reducible rfl))
            case r3br0 =>
            try simp only [Act.put, List.setIfInBounds_toArray, List.set_cons_zero, List.set_cons_succ]
            refine wpAnyH_take (i := 1) (oi := { dst := some 28, op := Go.Op.unOp Go.UnOp.not 4 (Go.Operand.tmp 27), type := 4, pos := "ref.go:294", after := #[{ on := 0, ground := Go.Ground.data }], guard := none }) (v := ?r3bv1) rfl (by kernel_rfl) (by kernel_rfl) (by kernel_rfl) (fun _ _ _ h => h) (Or.inl ⟨by rfl, ?r3by1⟩) (by assumption) ?r3br1
            case r3by1 => (intro w hSw; (try dsimp only at hSw); go_simp; try (with_reducible rfl))
            case r3br1 =>
            try simp only [Act.put, List.setIfInBounds_toArray, List.set_cons_zero, List.set_cons_succ]
            refine wpAnyH_take (i := 2) (oi := { dst := some 29, op := Go.Op.move (Go.Operand.tmp 28), type := 4, pos := "ref.go:294", after := #[{ on := 1, ground := Go.Ground.data }], guard := none }) (v := ?r3bv2) rfl (by kernel_rfl) (by kernel_rfl) (by kernel_rfl) (fun _ _ _ h => h) (Or.inl ⟨by rfl, ?r3by2⟩) (by assumption) ?r3br2
            case r3by2 => (intro w hSw; (try dsimp only at hSw); go_simp; try (with_reducible rfl))
            case r3br2 =>
            try simp only [Act.put, List.setIfInBounds_toArray, List.set_cons_zero, List.set_cons_succ]
            refine wpAnyH_take (i := 4) (oi := { dst := some 31, op := Go.Op.load 23 (Go.Operand.tmp 7), type := 23, pos := "ref.go:294", after := #[{ on := 2, ground := Go.Ground.guard }], guard := some (2, false) }) (v := (.agg ((num q).map (Value.int .u8)).toArray)) rfl (by kernel_rfl) (by kernel_rfl) (by kernel_rfl) (fun _ _ _ h => h) (yieldsIf_load_mid (by rfl) 23 (.tmp 7) rfl G7 0 rfl ((num q).map (Value.int .u8)) _ (fun w' h => h.1.range) Tryd.underlying23 rfl (by rw [List.length_map]; exact size_num q)) (by assumption) ?_
            try simp only [Act.put, List.setIfInBounds_toArray, List.set_cons_zero, List.set_cons_succ]
            refine wpAnyH_ready (rs := [3]) (by kernel_rfl) (by simp) ?_
            refine AllReadyH.cons (o := { dst := some 30, op := Go.Op.call { callee := Go.Callee.value (Go.Operand.func 24), args := #[], argTypes := #[] }, type := 23, pos := "ref.go:294", after := #[{ on := 2, ground := Go.Ground.chain }, { on := 2, ground := Go.Ground.guard }], guard := some (2, false) }) rfl (fun K hK => ?_) (AllReadyH.nil)
            go_simp
            refine (refLimit_any _).mono ?_
            rintro e w4 ⟨rfl, hb4⟩
            go_simp
            refine hK.out _ _ ?_ (fun hHeld => ?_)
            · exact ⟨hHeld.1.below hb4 hHeld.1.lt, hHeld.2.trans (hb4.mono hHeld.2.size)⟩
            clear hK K
            try simp only [Act.put, List.setIfInBounds_toArray, List.set_cons_zero, List.set_cons_succ]
            refine wpAnyH_ready (rs := [5]) (by kernel_rfl) (by simp) ?_
            refine AllReadyH.cons (o := { dst := some 32, op := Go.Op.call { callee := Go.Callee.value (Go.Operand.func 14), args := #[Go.Operand.tmp 30, Go.Operand.tmp 31], argTypes := #[23, 23] }, type := 4, pos := "ref.go:294", after := #[{ on := 3, ground := Go.Ground.data }, { on := 4, ground := Go.Ground.data }, { on := 3, ground := Go.Ground.chain }, { on := 2, ground := Go.Ground.guard }], guard := some (2, false) }) rfl (fun K hK => ?_) (AllReadyH.nil)
            go_simp
            refine (CL.out _).mono ?_
            rintro e w4 ⟨rfl, hb4⟩
            go_simp
            refine hK.out _ _ ?_ (fun hHeld => ?_)
            · exact ⟨hHeld.1.below hb4 hHeld.1.lt, hHeld.2.trans (hb4.mono hHeld.2.size)⟩
            clear hK K
            try simp only [Act.put, List.setIfInBounds_toArray, List.set_cons_zero, List.set_cons_succ]
            refine wpAnyH_take (i := 6) (oi := { dst := some 33, op := Go.Op.pick (Go.Operand.tmp 29) (Go.Operand.const (Go.Value.bool true)) (Go.Operand.tmp 32), type := 4, pos := "ref.go:294", after := #[{ on := 2, ground := Go.Ground.data }, { on := 5, ground := Go.Ground.data }], guard := none }) (v := ?r3b_3_5v6) rfl (by kernel_rfl) (by kernel_rfl) (by kernel_rfl) (fun _ _ _ h => h) (Or.inl ⟨by rfl, ?r3b_3_5y6⟩) (by assumption) ?r3b_3_5r6
            case r3b_3_5y6 => (intro w hSw; (try dsimp only at hSw); go_simp; try (with_reducible rfl))
            case r3b_3_5r6 =>
            try simp only [Act.put, List.setIfInBounds_toArray, List.set_cons_zero, List.set_cons_succ]
            refine wpAnyH_done (by kernel_rfl) ?_ _
            have Q9 := Lib.hid hHeld.1
            have HB := Lib.hid hHeld.2
            clear hHeld Q7
            try dsimp only [Act.put]
            by_cases hx0 : q = 0
            · have CB := Lib.hid (show ∀ W, Calls Tryd.prog 10 #[.agg (numA 1)] W fun e w' => e = .returned (.int .u32 (qb : Int)) ∧ Below W.heap.size W w' from fun W => by
                have := CB0.out W
                rwa [hqx, show holdN q = 1 by unfold holdN; rw [if_pos hx0]] at this)
              have heq : ∀ U, (Op.equalIn 10000 23 (.agg ((num q).map (Value.int .u8)).toArray) (.agg #[.int .u8 0, .int .u8 0, .int .u8 0, .int .u8 0, .int .u8 0, .int .u8 0, .int .u8 0, .int .u8 0, .int .u8 0, .int .u8 0, .int .u8 0, .int .u8 0, .int .u8 0, .int .u8 0, .int .u8 0, .int .u8 0, .int .u8 0, .int .u8 0, .int .u8 0, .int .u8 0, .int .u8 0, .int .u8 0, .int .u8 0, .int .u8 0, .int .u8 0, .int .u8 0, .int .u8 0, .int .u8 0, .int .u8 0, .int .u8 0, .int .u8 0, .int .u8 0])).run Tryd.prog U = .ok true U := fun U => by
                have h := eq_num_at 23 Tryd.underlying23 hqt top_pos U
                rw [decide_eq_true hx0, hzl] at h
                exact h
              have hq1 : (num q).set 31 1 = num 1 := by rw [hx0]; exact num_one_set
              have c31 : ∀ U, IRow U G7 23 .u8 (num q) → U.cell? ⟨G7, 31, none⟩ = some (.int .u8 ((dg q 31 : Nat) : Int)) := fun U h => h.cell (num_at q (by omega))
              have f31 : ∀ U, IRow U G7 23 .u8 (num q) → U.frozen? ⟨G7, 31, none⟩ = false := fun U h => h.free 31
              have H1 := Lib.hid hq1
              clear hgt hqx hqt hx0 CB0 hzl CL hq1
              go_upto_region 12 with (refine wpList_load_irow rfl 23 (.tmp 7) rfl (g := G7) (t := 23) (k := .u8) (xs := num q) rfl Q9.out Tryd.underlying23 (size_num q) ?_)
              have c1 := c31 _ Q9.out
              have f1 := f31 _ Q9.out
              have Q8 := Lib.hid (Q9.out.set 31 1)
              rw [H1.out] at Q8
              have HB2 := Lib.hid (HB.out.setCell (p := ⟨G7, 31, none⟩) (by show w.heap.size ≤ G7; exact HGW.out) (.int .u8 1))
              clear c31 f31 HB
              have HB := HB2
              clear HB2
              go_upto_region 13 with fail
              go_wp2_with (refine wpList_load_irow rfl 23 (.tmp 7) rfl (g := G7) (t := 23) (k := .u8) (xs := num 1) rfl Q8.out Tryd.underlying23 (size_num 1) ?_)
              refine (CB.out _).mono ?_
              rintro e w9 ⟨rfl, hb9⟩
              have HF := Lib.hid (HB.out.trans (hb9.mono HB.out.size))
              clear hb9
              go_wp2_with fail
              go_ret
              exact ⟨rfl, HF.out⟩
            · have CB := Lib.hid (show ∀ W, Calls Tryd.prog 10 #[.agg (numA q)] W fun e w' => e = .returned (.int .u32 (qb : Int)) ∧ Below W.heap.size W w' from fun W => by
                have := CB0.out W
                rwa [hqx, show holdN q = q by unfold holdN; rw [if_neg hx0, if_neg hgt]] at this)
              have heq : ∀ U, (Op.equalIn 10000 23 (.agg ((num q).map (Value.int .u8)).toArray) (.agg #[.int .u8 0, .int .u8 0, .int .u8 0, .int .u8 0, .int .u8 0, .int .u8 0, .int .u8 0, .int .u8 0, .int .u8 0, .int .u8 0, .int .u8 0, .int .u8 0, .int .u8 0, .int .u8 0, .int .u8 0, .int .u8 0, .int .u8 0, .int .u8 0, .int .u8 0, .int .u8 0, .int .u8 0, .int .u8 0, .int .u8 0, .int .u8 0, .int .u8 0, .int .u8 0, .int .u8 0, .int .u8 0, .int .u8 0, .int .u8 0, .int .u8 0, .int .u8 0])).run Tryd.prog U = .ok false U := fun U => by
                have h := eq_num_at 23 Tryd.underlying23 hqt top_pos U
                rw [decide_eq_false hx0, hzl] at h
                exact h
              clear hgt hqx hqt hx0 CB0 hzl CL
              have Q8 := Q9
              clear Q9
              go_upto_region 13 with (refine wpList_load_irow rfl 23 (.tmp 7) rfl (g := G7) (t := 23) (k := .u8) (xs := num q) rfl Q8.out Tryd.underlying23 (size_num q) ?_)
              go_wp2_with (refine wpList_load_irow rfl 23 (.tmp 7) rfl (g := G7) (t := 23) (k := .u8) (xs := num q) rfl Q8.out Tryd.underlying23 (size_num q) ?_)
              refine (CB.out _).mono ?_
              rintro e w9 ⟨rfl, hb9⟩
              have HF := Lib.hid (HB.out.trans (hb9.mono HB.out.size))
              clear hb9
              go_wp2_with fail
              go_ret
              exact ⟨rfl, HF.out⟩
        · have hff : ft = false := by simpa using hft
          subst hff
          have CB := Lib.hid (show ∀ W, Calls Tryd.prog 10 #[.agg (numA limitN)] W fun e w' => e = .returned (.int .u32 (qb : Int)) ∧ Below W.heap.size W w' from fun W => by
            have := CB0.out W
            rwa [HFF.out rfl] at this)
          clear hft CB0
          refine wp_region_held_drew (S := (fun w' => IRow w' G7 23 .u8 (num q) ∧ Below w.heap.size w w')) (by kernel_rfl) ?_ (fun hHeld => ?_)
          · exact ⟨Q7.out.drew, below_drewN HB.out 1⟩
          refine wpAnyH_take (i := 0) (oi := { dst := some 27, op := Go.Op.move (Go.Operand.tmp 8), type := 4, pos := "ref.go:294", after := #[], guard := none }) (v := ?r3cv0) rfl (by kernel_rfl) (by kernel_rfl) (by kernel_rfl) (fun _ _ _ h => h) (Or.inl ⟨by rfl, ?r3cy0⟩) (by assumption) ?r3cr0
          case r3cy0 => (intro w hSw; (try dsimp only at hSw); go_simp; try (with_reducible rfl))
          case r3cr0 =>
          try simp only [Act.put, List.setIfInBounds_toArray, List.set_cons_zero, List.set_cons_succ]
          refine wpAnyH_take (i := 1) (oi := { dst := some 28, op := Go.Op.unOp Go.UnOp.not 4 (Go.Operand.tmp 27), type := 4, pos := "ref.go:294", after := #[{ on := 0, ground := Go.Ground.data }], guard := none }) (v := ?r3cv1) rfl (by kernel_rfl) (by kernel_rfl) (by kernel_rfl) (fun _ _ _ h => h) (Or.inl ⟨by rfl, ?r3cy1⟩) (by assumption) ?r3cr1
          case r3cy1 => (intro w hSw; (try dsimp only at hSw); go_simp; try (with_reducible rfl))
          case r3cr1 =>
          try simp only [Act.put, List.setIfInBounds_toArray, List.set_cons_zero, List.set_cons_succ]
          refine wpAnyH_take (i := 2) (oi := { dst := some 29, op := Go.Op.move (Go.Operand.tmp 28), type := 4, pos := "ref.go:294", after := #[{ on := 1, ground := Go.Ground.data }], guard := none }) (v := ?r3cv2) rfl (by kernel_rfl) (by kernel_rfl) (by kernel_rfl) (fun _ _ _ h => h) (Or.inl ⟨by rfl, ?r3cy2⟩) (by assumption) ?r3cr2
          case r3cy2 => (intro w hSw; (try dsimp only at hSw); go_simp; try (with_reducible rfl))
          case r3cr2 =>
          try simp only [Act.put, List.setIfInBounds_toArray, List.set_cons_zero, List.set_cons_succ]
          refine wpAnyH_take (i := 3) (oi := { dst := some 30, op := Go.Op.call { callee := Go.Callee.value (Go.Operand.func 24), args := #[], argTypes := #[] }, type := 23, pos := "ref.go:294", after := #[{ on := 2, ground := Go.Ground.chain }, { on := 2, ground := Go.Ground.guard }], guard := some (2, false) }) (v := undef) rfl (by kernel_rfl) (by kernel_rfl) (by kernel_rfl) (fun _ _ _ h => h) (Or.inr ⟨by rfl, rfl⟩) (by assumption) ?_
          try simp only [Act.put, List.setIfInBounds_toArray, List.set_cons_zero, List.set_cons_succ]
          refine wpAnyH_take (i := 4) (oi := { dst := some 31, op := Go.Op.load 23 (Go.Operand.tmp 7), type := 23, pos := "ref.go:294", after := #[{ on := 2, ground := Go.Ground.guard }], guard := some (2, false) }) (v := undef) rfl (by kernel_rfl) (by kernel_rfl) (by kernel_rfl) (fun _ _ _ h => h) (Or.inr ⟨by rfl, rfl⟩) (by assumption) ?_
          try simp only [Act.put, List.setIfInBounds_toArray, List.set_cons_zero, List.set_cons_succ]
          refine wpAnyH_take (i := 5) (oi := { dst := some 32, op := Go.Op.call { callee := Go.Callee.value (Go.Operand.func 14), args := #[Go.Operand.tmp 30, Go.Operand.tmp 31], argTypes := #[23, 23] }, type := 4, pos := "ref.go:294", after := #[{ on := 3, ground := Go.Ground.data }, { on := 4, ground := Go.Ground.data }, { on := 3, ground := Go.Ground.chain }, { on := 2, ground := Go.Ground.guard }], guard := some (2, false) }) (v := undef) rfl (by kernel_rfl) (by kernel_rfl) (by kernel_rfl) (fun _ _ _ h => h) (Or.inr ⟨by rfl, rfl⟩) (by assumption) ?_
          try simp only [Act.put, List.setIfInBounds_toArray, List.set_cons_zero, List.set_cons_succ]
          refine wpAnyH_take (i := 6) (oi := { dst := some 33, op := Go.Op.pick (Go.Operand.tmp 29) (Go.Operand.const (Go.Value.bool true)) (Go.Operand.tmp 32), type := 4, pos := "ref.go:294", after := #[{ on := 2, ground := Go.Ground.data }, { on := 5, ground := Go.Ground.data }], guard := none }) (v := ?r3cv6) rfl (by kernel_rfl) (by kernel_rfl) (by kernel_rfl) (fun _ _ _ h => h) (Or.inl ⟨by rfl, ?r3cy6⟩) (by assumption) ?r3cr6
          case r3cy6 => (intro w hSw; (try dsimp only at hSw); go_simp; try (with_reducible rfl))
          case r3cr6 =>
          try simp only [Act.put, List.setIfInBounds_toArray, List.set_cons_zero, List.set_cons_succ]
          refine wpAnyH_done (by kernel_rfl) ?_ _
          have Q9 := Lib.hid hHeld.1
          have HB := Lib.hid hHeld.2
          clear hHeld Q7
          try dsimp only [Act.put]
          go_upto_region 11 with fail
          refine (refLimit_any _).mono ?_
          rintro e w7 ⟨rfl, hb7⟩
          have q7 := Q9.out.below hb7 Q9.out.lt
          have bb := HB.out.trans (hb7.mono HB.out.size)
          have q8 : IRow (w7.setRow G7 (numA limitN)) G7 23 .u8 (num limitN) := setRow_irow (ys := num limitN) q7
          have b8 := below_setRow (g := G7) bb HGW.out (numA limitN)
          clear Q9 HB hb7 bb
          have Q7 := Lib.hid q7
          have Q8 := Lib.hid q8
          have HB := Lib.hid b8
          clear q7 q8 b8
          go_upto_region 11 with (refine wpList_store_irow rfl 23 (.tmp 7) (.tmp 34) rfl (g := G7) (t := 23) (k := .u8) (xs := num q) (ys := num limitN) rfl rfl Q7.out (size_num limitN) (same_length _ _) ?_)
          change Code.wp _ _ _ _ (w7.setRow G7 (numA limitN))
          obtain ⟨w8, hw8⟩ : ∃ w8, w8 = w7.setRow G7 (numA limitN) := ⟨_, rfl⟩
          rw [← hw8] at Q8 HB ⊢
          clear hw8 Q7
          try dsimp only [Act.put]
          have hx0 : ¬ limitN = 0 := limit_pos
          have heq : ∀ U, (Op.equalIn 10000 23 (.agg ((num limitN).map (Value.int .u8)).toArray) (.agg #[.int .u8 0, .int .u8 0, .int .u8 0, .int .u8 0, .int .u8 0, .int .u8 0, .int .u8 0, .int .u8 0, .int .u8 0, .int .u8 0, .int .u8 0, .int .u8 0, .int .u8 0, .int .u8 0, .int .u8 0, .int .u8 0, .int .u8 0, .int .u8 0, .int .u8 0, .int .u8 0, .int .u8 0, .int .u8 0, .int .u8 0, .int .u8 0, .int .u8 0, .int .u8 0, .int .u8 0, .int .u8 0, .int .u8 0, .int .u8 0, .int .u8 0, .int .u8 0])).run Tryd.prog U = .ok false U := fun U => by
            have h := eq_num_at 23 Tryd.underlying23 limit_lt top_pos U
            rw [decide_eq_false hx0, hzl] at h
            exact h
          clear hx0 hzl
          go_upto_region 13 with (refine wpList_load_irow rfl 23 (.tmp 7) rfl (g := G7) (t := 23) (k := .u8) (xs := num limitN) rfl Q8.out Tryd.underlying23 (size_num limitN) ?_)
          go_wp2_with (refine wpList_load_irow rfl 23 (.tmp 7) rfl (g := G7) (t := 23) (k := .u8) (xs := num limitN) rfl Q8.out Tryd.underlying23 (size_num limitN) ?_)
          refine (CB.out _).mono ?_
          rintro e w9 ⟨rfl, hb9⟩
          have HF := Lib.hid (HB.out.trans (hb9.mono HB.out.size))
          clear hb9
          go_wp2_with fail
          go_ret
          exact ⟨rfl, HF.out⟩
  · have hok' : tgtB bs = false := by simpa using hok
    have hok2 : ok = false := by rw [HOK.out, hok']
    subst hok2
    have hqq : qb = 545259519 := by rw [HQ.out]; unfold nextN; rw [hok']; rfl
    subst hqq
    clear hok hok' HQ HOK
    go_wp2_with fail
    go_ret
    exact ⟨rfl, HB.out⟩
end Go.Proofs.YtgkocmljnoambaaDoor
