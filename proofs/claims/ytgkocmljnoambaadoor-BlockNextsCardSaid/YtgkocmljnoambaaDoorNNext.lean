/-
  block.Next: the next target's bits. Conditions: none.
-/
import Derived.Test.YtgkocmljnoambaaDoorNScl
import Derived.Test.YtgkocmljnoambaaDoorNTgtL
namespace Go.Proofs.YtgkocmljnoambaaDoor
open Go.RowKit

/-- A span, held between a quarter and four times what it should be. -/
def clampS (s : Int) : Nat := if s < 1200 then 1200 else if 19200 < s then 19200 else s.toNat
theorem clampS_in (s : Int) : 1200 ≤ clampS s ∧ clampS s ≤ 19200 := by
  unfold clampS
  split
  · omega
  · split <;> omega
/-- A target, held between 1 and the greatest. -/
def holdN (x : Nat) : Nat := if x = 0 then 1 else if limitN < x then limitN else x
theorem holdN_in (x : Nat) : 1 ≤ holdN x ∧ holdN x ≤ limitN := by
  have h : 1 ≤ limitN := by unfold limitN; decide
  unfold holdN
  split
  · omega
  · split <;> omega
noncomputable def lzOf (n : Nat) : Nat := Classical.choose (LZ.ex n)
theorem lzOf_is (n : Nat) : LZ n (lzOf n) := Classical.choose_spec (LZ.ex n)
/-- The bits that stand for a number. -/
noncomputable def bitsN (n : Nat) : Nat := bitsR n (lzOf n)
/-- What Next answers. -/
noncomputable def nextN (bs : Nat) (s : Int) : Nat := if tgtB bs then bitsN (holdN (scaleN (tgtN bs) (clampS s) 4800)) else 545259519
set_option maxRecDepth 100000 in
set_option maxHeartbeats 12800000 in
theorem next_any (bs : Nat) (s : Int) (w : World) (hb : bs < 4294967296) :
    Calls Tryd.prog 17 #[.int .u32 (bs : Int), .int .i64 s] w fun e w' => e = .returned (.int .u32 (nextN bs s : Nat)) ∧ Below w.heap.size w w' := by
  have HC := Lib.hid (target_any bs w hb)
  obtain ⟨n, hn⟩ : ∃ n, n = tgtN bs := ⟨_, rfl⟩
  obtain ⟨q, hq⟩ : ∃ q, q = nextN bs s := ⟨_, rfl⟩
  obtain ⟨er, her⟩ : ∃ er, er = tgtErr bs := ⟨_, rfl⟩
  rw [← hn, ← her] at HC
  rw [← hq]
  have hcase := tgt_cases bs
  rw [← her] at hcase
  have HCS := Lib.hid hcase
  have HNT := Lib.hid (show n < top by rw [hn]; exact tgtN_lt bs)
  have HN := Lib.hid hn
  have HQ := Lib.hid hq
  clear hn hq her hcase
  unfold numV at HC
  go_enter Tryd.func17, Tryd.ntmps17
  go_wp2_with fail
  refine HC.out.mono ?_
  rintro e w2 ⟨rfl, hb2⟩
  have z5 := zero_row w2 24
  have q5 : IRow ((w2.alloc (.cells zeroA 24)).setRow w2.heap.size (numA n)) w2.heap.size 24 .u8 (num n) := setRow_irow (ys := num n) z5
  have b3 := below_setRow (g := w2.heap.size) (hb2.alloc (o := .cells zeroA 24) hb2.size) hb2.size (numA n)
  have hgw := hb2.size
  have Z5 := Lib.hid z5
  have Q5 := Lib.hid q5
  have HB := Lib.hid b3
  have HGW := Lib.hid hgw
  clear z5 q5 b3 hb2 HC hgw
  go_upto_region 2 with (refine wpList_store_irow rfl 24 (.tmp 5) (.tmp 10) rfl (g := w2.heap.size) (t := 24) (k := .u8) (xs := num 0) (ys := num n) rfl rfl Z5.out (size_numN n) (same_length _ _) ?_)
  change Code.wp _ _ _ _ ((w2.alloc (.cells zeroA 24)).setRow w2.heap.size (numA n))
  obtain ⟨w3, hw3⟩ : ∃ w3, w3 = (w2.alloc (.cells zeroA 24)).setRow w2.heap.size (numA n) := ⟨_, rfl⟩
  obtain ⟨G, hG⟩ : ∃ G, G = w2.heap.size := ⟨_, rfl⟩
  rw [← hw3] at Q5 HB ⊢
  rw [← hG] at Q5 HGW
  simp only [← hG]
  clear hw3 Z5 hG
  try dsimp only [Act.put]
  rcases HCS.out with ⟨hok, her⟩ | ⟨hok, her⟩
  · have hqq : q = bitsN (holdN (scaleN n (clampS s) 4800)) := by rw [HQ.out]; unfold nextN; rw [if_pos hok, HN.out]
    obtain ⟨m, hm⟩ : ∃ m, m = clampS s := ⟨_, rfl⟩
    obtain ⟨m1, m2⟩ := clampS_in s
    rw [← hm] at m1 m2 hqq
    obtain ⟨x, hx⟩ : ∃ x, x = scaleN n m 4800 := ⟨_, rfl⟩
    rw [← hx] at hqq
    have hxt : x < top := by rw [hx]; exact scaleN_lt _ _ _ (by omega)
    have CS := Lib.hid (show ∀ W, Calls Tryd.prog 33 #[.agg (numA n), .int .u32 (m : Int), .int .u32 4800] W fun e w' => e = .returned (.agg (numA x)) ∧ Below W.heap.size W w' from fun W => by rw [hx]; exact scale_any n m 4800 W HNT.out m2 (by omega) (by omega))
    subst her
    have HQQ := Lib.hid hqq
    have HX := Lib.hid hxt
    clear HCS hok hqq hx hxt HQ HN
    have hcl : (if 19200 < (if s < 1200 then (1200 : Int) else s) then (19200 : Int) else if s < 1200 then 1200 else s) = (m : Int) := by
      rw [hm]
      unfold clampS
      split <;> split <;> omega
    have HCL := Lib.hid hcl
    have wm : IntKind.u32.wrap (m : Int) = m := u32_in (by omega) (by omega)
    clear hm hcl
    go_upto_region 5 with fail
    simp only [HCL.out]
    generalize (if s < 1200 then (1200 : Int) else s) = y
    go_upto_region 6 with (refine wpList_load_irow rfl 24 (.tmp 5) rfl (g := G) (t := 24) (k := .u8) (xs := num n) rfl Q5.out Tryd.underlying24 (size_numN n) ?_)
    refine (CS.out _).mono ?_
    rintro e w4 ⟨rfl, hb4⟩
    have q4 := Q5.out.below hb4 Q5.out.lt
    have bb := HB.out.trans (hb4.mono HB.out.size)
    have q6 : IRow (w4.setRow G (numA x)) G 24 .u8 (num x) := setRow_irow (ys := num x) q4
    have b6 := below_setRow (g := G) bb HGW.out (numA x)
    clear Q5 HB hb4 bb CS
    have Q4 := Lib.hid q4
    have Q6 := Lib.hid q6
    have HB := Lib.hid b6
    clear q4 q6 b6
    go_upto_region 6 with (refine wpList_store_irow rfl 24 (.tmp 5) (.tmp 20) rfl (g := G) (t := 24) (k := .u8) (xs := num n) (ys := num x) rfl rfl Q4.out (size_numN x) (same_length _ _) ?_)
    change Code.wp _ _ _ _ (w4.setRow G (numA x))
    obtain ⟨w6, hw6⟩ : ∃ w6, w6 = w4.setRow G (numA x) := ⟨_, rfl⟩
    rw [← hw6] at Q6 HB ⊢
    clear hw6 Q4
    try dsimp only [Act.put]
    have hzl : numV 0 = (.agg #[.int .u8 0, .int .u8 0, .int .u8 0, .int .u8 0, .int .u8 0, .int .u8 0, .int .u8 0, .int .u8 0, .int .u8 0, .int .u8 0, .int .u8 0, .int .u8 0, .int .u8 0, .int .u8 0, .int .u8 0, .int .u8 0, .int .u8 0, .int .u8 0, .int .u8 0, .int .u8 0, .int .u8 0, .int .u8 0, .int .u8 0, .int .u8 0, .int .u8 0, .int .u8 0, .int .u8 0, .int .u8 0, .int .u8 0, .int .u8 0, .int .u8 0, .int .u8 0]) := by unfold numV; rw [numA_zero]; rfl
    have CB := Lib.hid (show ∀ W, Calls Tryd.prog 9 #[.agg (numA (holdN x))] W fun e w' => e = .returned (.int .u32 (q : Int)) ∧ Below W.heap.size W w' from fun W => by rw [HQQ.out]; exact bits_any _ _ W (lzOf_is _))
    by_cases hx0 : x = 0
    · have heq : ∀ U, (Op.equalIn 10000 24 (.agg ((num x).map (Value.int .u8)).toArray) (.agg #[.int .u8 0, .int .u8 0, .int .u8 0, .int .u8 0, .int .u8 0, .int .u8 0, .int .u8 0, .int .u8 0, .int .u8 0, .int .u8 0, .int .u8 0, .int .u8 0, .int .u8 0, .int .u8 0, .int .u8 0, .int .u8 0, .int .u8 0, .int .u8 0, .int .u8 0, .int .u8 0, .int .u8 0, .int .u8 0, .int .u8 0, .int .u8 0, .int .u8 0, .int .u8 0, .int .u8 0, .int .u8 0, .int .u8 0, .int .u8 0, .int .u8 0, .int .u8 0])).run Tryd.prog U = .ok true U := fun U => by
        have h := eq_num_at 24 Tryd.underlying24 HX.out top_pos U
        rw [decide_eq_true hx0, hzl] at h
        exact h
      have hv : holdN x = 1 := by unfold holdN; rw [if_pos hx0]
      rw [hv] at CB
      clear hx0 hzl hv
      go_upto_region 7 with (refine wpList_load_irow rfl 24 (.tmp 5) rfl (g := G) (t := 24) (k := .u8) (xs := num x) rfl Q6.out Tryd.underlying24 (size_numN x) ?_)
      go_upto_region 10 with fail
      refine (one_any _).mono ?_
      rintro e w7 ⟨rfl, hb7⟩
      have q7 := Q6.out.below hb7 Q6.out.lt
      have bb := HB.out.trans (hb7.mono HB.out.size)
      have q8 : IRow (w7.setRow G (numA 1)) G 24 .u8 (num 1) := setRow_irow (ys := num 1) q7
      have b8 := below_setRow (g := G) bb HGW.out (numA 1)
      clear Q6 HB hb7 bb
      have Q7 := Lib.hid q7
      have Q8 := Lib.hid q8
      have HB := Lib.hid b8
      clear q7 q8 b8
      go_upto_region 10 with (refine wpList_store_irow rfl 24 (.tmp 5) (.tmp 25) rfl (g := G) (t := 24) (k := .u8) (xs := num x) (ys := num 1) rfl rfl Q7.out (size_numN 1) (same_length _ _) ?_)
      change Code.wp _ _ _ _ (w7.setRow G (numA 1))
      obtain ⟨w8, hw8⟩ : ∃ w8, w8 = w7.setRow G (numA 1) := ⟨_, rfl⟩
      rw [← hw8] at Q8 HB ⊢
      clear hw8 Q7
      try dsimp only [Act.put]
      go_wp2_with (refine wpList_load_irow rfl 24 (.tmp 5) rfl (g := G) (t := 24) (k := .u8) (xs := num 1) rfl Q8.out Tryd.underlying24 (size_numN 1) ?_)
      refine (CB.out _).mono ?_
      rintro e w9 ⟨rfl, hb9⟩
      have HF := Lib.hid (HB.out.trans (hb9.mono HB.out.size))
      clear hb9
      go_wp2_with fail
      go_ret
      exact ⟨rfl, HF.out⟩
    · have heq : ∀ U, (Op.equalIn 10000 24 (.agg ((num x).map (Value.int .u8)).toArray) (.agg #[.int .u8 0, .int .u8 0, .int .u8 0, .int .u8 0, .int .u8 0, .int .u8 0, .int .u8 0, .int .u8 0, .int .u8 0, .int .u8 0, .int .u8 0, .int .u8 0, .int .u8 0, .int .u8 0, .int .u8 0, .int .u8 0, .int .u8 0, .int .u8 0, .int .u8 0, .int .u8 0, .int .u8 0, .int .u8 0, .int .u8 0, .int .u8 0, .int .u8 0, .int .u8 0, .int .u8 0, .int .u8 0, .int .u8 0, .int .u8 0, .int .u8 0, .int .u8 0])).run Tryd.prog U = .ok false U := fun U => by
        have h := eq_num_at 24 Tryd.underlying24 HX.out top_pos U
        rw [decide_eq_false hx0, hzl] at h
        exact h
      clear hzl
      have HCP := Lib.hid (fun W => cmp_any x limitN W HX.out limit_lt)
      obtain ⟨c, hc⟩ : ∃ c, c = cmpN x limitN := ⟨_, rfl⟩
      rw [← hc] at HCP
      by_cases hgt : limitN < x
      · have hv : holdN x = limitN := by unfold holdN; rw [if_neg hx0, if_pos hgt]
        rw [hv] at CB
        have hcd : decide (0 < c) = true := by rw [hc, cmp_gt]; exact decide_eq_true hgt
        clear hx0 hv hgt hc
        go_upto_region 8 with (refine wpList_load_irow rfl 24 (.tmp 5) rfl (g := G) (t := 24) (k := .u8) (xs := num x) rfl Q6.out Tryd.underlying24 (size_numN x) ?_)
        refine wp_region_held_drew (S := (fun w' => IRow w' G 24 .u8 (num x) ∧ Below w.heap.size w w')) (by kernel_rfl) ?_ (fun hHeld => ?_)
        · exact ⟨Q6.out.drew, below_drewN HB.out 1⟩
        refine wpAnyH_take (i := 0) (oi := { dst := some 27, op := Go.Op.load 24 (Go.Operand.tmp 5), type := 24, pos := "work.go:138", after := #[], guard := none }) (v := (.agg ((num x).map (Value.int .u8)).toArray)) rfl (by kernel_rfl) (by kernel_rfl) (by kernel_rfl) (fun _ _ _ h => h) (yieldsIf_load_mid (by rfl) 24 (.tmp 5) rfl G 0 rfl ((num x).map (Value.int .u8)) _ (fun w' h => h.1.range) Tryd.underlying24 rfl (by rw [List.length_map]; exact size_numN x)) (by assumption) ?_
        try simp only [Act.put, List.setIfInBounds_toArray, List.set_cons_zero, List.set_cons_succ]
        refine wpAnyH_ready (rs := [1]) (by kernel_rfl) (by simp) ?_
        refine AllReadyH.cons (o := { dst := some 28, op := Go.Op.call { callee := Go.Callee.value (Go.Operand.func 23), args := #[], argTypes := #[] }, type := 24, pos := "work.go:138", after := #[], guard := none }) rfl (fun K hK => ?_) (AllReadyH.nil)
        go_simp
        refine (limit_any _).mono ?_
        rintro e w4 ⟨rfl, hb4⟩
        go_simp
        refine hK.out _ _ ?_ (fun hHeld => ?_)
        · exact ⟨hHeld.1.below hb4 hHeld.1.lt, hHeld.2.trans (hb4.mono hHeld.2.size)⟩
        clear hK K
        try simp only [Act.put, List.setIfInBounds_toArray, List.set_cons_zero, List.set_cons_succ]
        refine wpAnyH_ready (rs := [2]) (by kernel_rfl) (by simp) ?_
        refine AllReadyH.cons (o := { dst := some 29, op := Go.Op.call { callee := Go.Callee.value (Go.Operand.func 13), args := #[Go.Operand.tmp 27, Go.Operand.tmp 28], argTypes := #[24, 24] }, type := 3, pos := "work.go:138", after := #[{ on := 0, ground := Go.Ground.data }, { on := 1, ground := Go.Ground.data }, { on := 1, ground := Go.Ground.chain }], guard := none }) rfl (fun K hK => ?_) (AllReadyH.nil)
        go_simp
        refine (HCP.out _).mono ?_
        rintro e w5 ⟨rfl, hb5⟩
        go_simp
        refine hK.out _ _ ?_ (fun hHeld => ?_)
        · exact ⟨hHeld.1.below hb5 hHeld.1.lt, hHeld.2.trans (hb5.mono hHeld.2.size)⟩
        clear hK K
        try simp only [Act.put, List.setIfInBounds_toArray, List.set_cons_zero, List.set_cons_succ]
        refine wpAnyH_take (i := 3) (oi := { dst := some 30, op := Go.Op.binOp Go.BinOp.gtr 3 (Go.Operand.tmp 29) (Go.Operand.const (Go.Value.int Go.IntKind.i64 0)) 3, type := 4, pos := "work.go:138", after := #[{ on := 2, ground := Go.Ground.data }], guard := none }) (v := ?a_1_2v3) rfl (by kernel_rfl) (by kernel_rfl) (by kernel_rfl) (fun _ _ _ h => h) (Or.inl ⟨by rfl, ?a_1_2y3⟩) (by assumption) ?a_1_2r3
        case a_1_2y3 => (intro w hSw; (try dsimp only at hSw); go_simp; try (with_reducible rfl))
        case a_1_2r3 =>
        try simp only [Act.put, List.setIfInBounds_toArray, List.set_cons_zero, List.set_cons_succ]
        refine wpAnyH_take (i := 4) (oi := { dst := some 26, op := Go.Op.assign (Go.Operand.tmp 30), type := 4, pos := "work.go:138", after := #[{ on := 3, ground := Go.Ground.data }, { on := 2, ground := Go.Ground.chain }], guard := none }) (v := ?a_1_2v4) rfl (by kernel_rfl) (by kernel_rfl) (by kernel_rfl) (fun _ _ _ h => h) (Or.inl ⟨by rfl, ?a_1_2y4⟩) (by assumption) ?a_1_2r4
        case a_1_2y4 => (intro w hSw; (try dsimp only at hSw); go_simp; try (with_reducible rfl))
        case a_1_2r4 =>
        try simp only [Act.put, List.setIfInBounds_toArray, List.set_cons_zero, List.set_cons_succ]
        refine wpAnyH_done (by kernel_rfl) ?_ _
        have Q9 := Lib.hid hHeld.1
        have HB := Lib.hid hHeld.2
        clear hHeld Q6
        try dsimp only [Act.put]
        go_upto_region 10 with fail
        refine (limit_any _).mono ?_
        rintro e w7 ⟨rfl, hb7⟩
        have q7 := Q9.out.below hb7 Q9.out.lt
        have bb := HB.out.trans (hb7.mono HB.out.size)
        have q8 : IRow (w7.setRow G (numA limitN)) G 24 .u8 (num limitN) := setRow_irow (ys := num limitN) q7
        have b8 := below_setRow (g := G) bb HGW.out (numA limitN)
        clear Q9 HB hb7 bb
        have Q7 := Lib.hid q7
        have Q8 := Lib.hid q8
        have HB := Lib.hid b8
        clear q7 q8 b8
        go_upto_region 10 with (refine wpList_store_irow rfl 24 (.tmp 5) (.tmp 31) rfl (g := G) (t := 24) (k := .u8) (xs := num x) (ys := num limitN) rfl rfl Q7.out (size_numN limitN) (same_length _ _) ?_)
        change Code.wp _ _ _ _ (w7.setRow G (numA limitN))
        obtain ⟨w8, hw8⟩ : ∃ w8, w8 = w7.setRow G (numA limitN) := ⟨_, rfl⟩
        rw [← hw8] at Q8 HB ⊢
        clear hw8 Q7
        try dsimp only [Act.put]
        go_wp2_with (refine wpList_load_irow rfl 24 (.tmp 5) rfl (g := G) (t := 24) (k := .u8) (xs := num limitN) rfl Q8.out Tryd.underlying24 (size_numN limitN) ?_)
        refine (CB.out _).mono ?_
        rintro e w9 ⟨rfl, hb9⟩
        have HF := Lib.hid (HB.out.trans (hb9.mono HB.out.size))
        clear hb9
        go_wp2_with fail
        go_ret
        exact ⟨rfl, HF.out⟩
      · have hv : holdN x = x := by unfold holdN; rw [if_neg hx0, if_neg hgt]
        rw [hv] at CB
        have hcd : ¬ (0 < c) := by
          have h := cmp_gt x limitN
          rw [decide_eq_false hgt, ← hc] at h
          exact of_decide_eq_false h
        clear hx0 hv hgt hc
        go_upto_region 8 with (refine wpList_load_irow rfl 24 (.tmp 5) rfl (g := G) (t := 24) (k := .u8) (xs := num x) rfl Q6.out Tryd.underlying24 (size_numN x) ?_)
        refine wp_region_held_drew (S := (fun w' => IRow w' G 24 .u8 (num x) ∧ Below w.heap.size w w')) (by kernel_rfl) ?_ (fun hHeld => ?_)
        · exact ⟨Q6.out.drew, below_drewN HB.out 1⟩
        refine wpAnyH_take (i := 0) (oi := { dst := some 27, op := Go.Op.load 24 (Go.Operand.tmp 5), type := 24, pos := "work.go:138", after := #[], guard := none }) (v := (.agg ((num x).map (Value.int .u8)).toArray)) rfl (by kernel_rfl) (by kernel_rfl) (by kernel_rfl) (fun _ _ _ h => h) (yieldsIf_load_mid (by rfl) 24 (.tmp 5) rfl G 0 rfl ((num x).map (Value.int .u8)) _ (fun w' h => h.1.range) Tryd.underlying24 rfl (by rw [List.length_map]; exact size_numN x)) (by assumption) ?_
        try simp only [Act.put, List.setIfInBounds_toArray, List.set_cons_zero, List.set_cons_succ]
        refine wpAnyH_ready (rs := [1]) (by kernel_rfl) (by simp) ?_
        refine AllReadyH.cons (o := { dst := some 28, op := Go.Op.call { callee := Go.Callee.value (Go.Operand.func 23), args := #[], argTypes := #[] }, type := 24, pos := "work.go:138", after := #[], guard := none }) rfl (fun K hK => ?_) (AllReadyH.nil)
        go_simp
        refine (limit_any _).mono ?_
        rintro e w4 ⟨rfl, hb4⟩
        go_simp
        refine hK.out _ _ ?_ (fun hHeld => ?_)
        · exact ⟨hHeld.1.below hb4 hHeld.1.lt, hHeld.2.trans (hb4.mono hHeld.2.size)⟩
        clear hK K
        try simp only [Act.put, List.setIfInBounds_toArray, List.set_cons_zero, List.set_cons_succ]
        refine wpAnyH_ready (rs := [2]) (by kernel_rfl) (by simp) ?_
        refine AllReadyH.cons (o := { dst := some 29, op := Go.Op.call { callee := Go.Callee.value (Go.Operand.func 13), args := #[Go.Operand.tmp 27, Go.Operand.tmp 28], argTypes := #[24, 24] }, type := 3, pos := "work.go:138", after := #[{ on := 0, ground := Go.Ground.data }, { on := 1, ground := Go.Ground.data }, { on := 1, ground := Go.Ground.chain }], guard := none }) rfl (fun K hK => ?_) (AllReadyH.nil)
        go_simp
        refine (HCP.out _).mono ?_
        rintro e w5 ⟨rfl, hb5⟩
        go_simp
        refine hK.out _ _ ?_ (fun hHeld => ?_)
        · exact ⟨hHeld.1.below hb5 hHeld.1.lt, hHeld.2.trans (hb5.mono hHeld.2.size)⟩
        clear hK K
        try simp only [Act.put, List.setIfInBounds_toArray, List.set_cons_zero, List.set_cons_succ]
        refine wpAnyH_take (i := 3) (oi := { dst := some 30, op := Go.Op.binOp Go.BinOp.gtr 3 (Go.Operand.tmp 29) (Go.Operand.const (Go.Value.int Go.IntKind.i64 0)) 3, type := 4, pos := "work.go:138", after := #[{ on := 2, ground := Go.Ground.data }], guard := none }) (v := ?b_1_2v3) rfl (by kernel_rfl) (by kernel_rfl) (by kernel_rfl) (fun _ _ _ h => h) (Or.inl ⟨by rfl, ?b_1_2y3⟩) (by assumption) ?b_1_2r3
        case b_1_2y3 => (intro w hSw; (try dsimp only at hSw); go_simp; try (with_reducible rfl))
        case b_1_2r3 =>
        try simp only [Act.put, List.setIfInBounds_toArray, List.set_cons_zero, List.set_cons_succ]
        refine wpAnyH_take (i := 4) (oi := { dst := some 26, op := Go.Op.assign (Go.Operand.tmp 30), type := 4, pos := "work.go:138", after := #[{ on := 3, ground := Go.Ground.data }, { on := 2, ground := Go.Ground.chain }], guard := none }) (v := ?b_1_2v4) rfl (by kernel_rfl) (by kernel_rfl) (by kernel_rfl) (fun _ _ _ h => h) (Or.inl ⟨by rfl, ?b_1_2y4⟩) (by assumption) ?b_1_2r4
        case b_1_2y4 => (intro w hSw; (try dsimp only at hSw); go_simp; try (with_reducible rfl))
        case b_1_2r4 =>
        try simp only [Act.put, List.setIfInBounds_toArray, List.set_cons_zero, List.set_cons_succ]
        refine wpAnyH_done (by kernel_rfl) ?_ _
        have Q8 := Lib.hid hHeld.1
        have HB := Lib.hid hHeld.2
        clear hHeld Q6
        try dsimp only [Act.put]
        go_wp2_with (refine wpList_load_irow rfl 24 (.tmp 5) rfl (g := G) (t := 24) (k := .u8) (xs := num x) rfl Q8.out Tryd.underlying24 (size_numN x) ?_)
        refine (CB.out _).mono ?_
        rintro e w9 ⟨rfl, hb9⟩
        have HF := Lib.hid (HB.out.trans (hb9.mono HB.out.size))
        clear hb9
        go_wp2_with fail
        go_ret
        exact ⟨rfl, HF.out⟩
  · have hqq : q = 545259519 := by rw [HQ.out]; unfold nextN; rw [hok]; rfl
    subst her
    subst hqq
    clear HCS hok HQ
    go_wp2_with fail
    go_ret
    exact ⟨rfl, HB.out⟩
end Go.Proofs.YtgkocmljnoambaaDoor
