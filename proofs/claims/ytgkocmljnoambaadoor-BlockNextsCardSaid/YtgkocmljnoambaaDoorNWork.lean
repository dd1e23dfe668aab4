/-
  block.Work. Conditions: none.
-/
import Derived.Test.YtgkocmljnoambaaDoorNInvC
namespace Go.Proofs.YtgkocmljnoambaaDoor
open Go.RowKit

/-- The work that these bits are for. -/
def workN (bs : Nat) : Nat := if tgtB bs then top / (tgtN bs + 1) else 0
theorem limit_half : 2 * (limitN + 1) ≤ top := by unfold limitN top; decide
theorem work_low {bs : Nat} (h : tgtB bs = true) : 2 ≤ tgtN bs + 1 ∧ 2 * (tgtN bs + 1) ≤ top ∧ tgtN bs + 1 < top := by
  have h1 := limit_half
  have h2 : expN bs ≠ 0 ∧ expN bs ≤ limitN := by
    unfold tgtB at h
    rw [decide_eq_true_eq] at h
    exact h.2
  unfold tgtN
  rw [if_pos h]
  omega
set_option maxRecDepth 100000 in
set_option maxHeartbeats 12800000 in
theorem work_any (bs : Nat) (w : World) (hb : bs < 4294967296) :
    Calls Tryd.prog 11 #[.int .u32 (bs : Int)] w fun e w' => e = .returned (numV (workN bs)) ∧ Below w.heap.size w w' := by
  have hZ := zero_row w 24
  obtain ⟨W, hW⟩ : ∃ W, w.alloc (.cells zeroA 24) = W := ⟨_, rfl⟩
  have hB : Below w.heap.size w W := by rw [← hW]; exact (Below.refl _ w).alloc (Nat.le_refl _) _
  have hs : W.heap.size = w.heap.size + 1 := by rw [← hW]; simp
  rw [hW] at hZ
  have HC := Lib.hid (target_any bs W hb)
  obtain ⟨n, hn⟩ : ∃ n, n = tgtN bs := ⟨_, rfl⟩
  obtain ⟨q, hq⟩ : ∃ q, q = workN bs := ⟨_, rfl⟩
  rw [← hn] at HC
  rw [← hq]
  have HN := Lib.hid hn
  have HQ := Lib.hid hq
  have HW := Lib.hid hW
  have HS := Lib.hid hs
  have HZ := Lib.hid hZ
  have HB := Lib.hid hB
  clear hW hZ hB hs hn hq
  unfold numV at HC ⊢
  obtain ⟨er, her⟩ : ∃ er, er = tgtErr bs := ⟨_, rfl⟩
  rw [← her] at HC
  have HER := Lib.hid her
  clear her
  go_enter Tryd.func11, Tryd.ntmps11
  go_wp2_with fail
  have C2 := HC.out
  rw [← HW.out] at C2
  refine C2.mono ?_
  rw [HW.out]
  rintro e w2 ⟨rfl, hb2⟩
  obtain ⟨G, hG⟩ : ∃ G, G = w2.heap.size := ⟨_, rfl⟩
  have hv0 := zero_row w2 24
  rw [← hG] at hv0
  have hqz : IRow (w2.alloc (.cells zeroA 24)) w.heap.size 24 .u8 (num 0) := (HZ.out.below hb2 HZ.out.lt).alloc _
  have hbz : Below w.heap.size w (w2.alloc (.cells zeroA 24)) := (HB.out.trans (hb2.mono HB.out.size)).alloc (by have := hb2.size; have := HS.out; omega) _
  have hgw : w.heap.size < G := by have := hb2.size; have := HS.out; omega
  have HZ0 := Lib.hid hv0
  have HQZ := Lib.hid hqz
  have HBZ := Lib.hid hbz
  have HG := Lib.hid hG
  have HGW := Lib.hid hgw
  clear hv0 hqz hbz hb2 C2 hgw
  go_upto_region 2 with (rw [← HG.out]; (refine wpList_store_irow rfl 24 (.tmp 3) (.tmp 8) rfl (g := G) (t := 24) (k := .u8) (xs := num 0) (ys := num n) rfl rfl HZ0.out (size_numN n) (same_length _ _) ?_))
  have hG2 := HG.out
  clear HG
  subst hG2
  change Code.wp _ _ _ _ ((w2.alloc (.cells zeroA 24)).setRow w2.heap.size (numA n))
  obtain ⟨w3, hw3⟩ : ∃ w3, w3 = (w2.alloc (.cells zeroA 24)).setRow w2.heap.size (numA n) := ⟨_, rfl⟩
  have qv : IRow w3 w2.heap.size 24 .u8 (num n) := by rw [hw3]; exact setRow_irow HZ0.out
  have qz : IRow w3 w.heap.size 24 .u8 (num 0) := by rw [hw3]; exact HQZ.out.setRow (by have := HGW.out; omega) _
  have bz : Below w.heap.size w w3 := by rw [hw3]; exact below_setRow HBZ.out (by have := HGW.out; omega) _
  rw [← hw3]
  clear hw3 HC HZ HB HZ0 HQZ HBZ HW
  try dsimp only [Act.put]
  by_cases hok : tgtB bs = true
  · have her0 : er = .int .i64 0 := by rw [HER.out]; unfold tgtErr; rw [if_pos hok]
    obtain ⟨l1, l2, l3⟩ := work_low hok
    rw [← HN.out] at l1 l2 l3
    have hqq : q = top / (n + 1) := by rw [HQ.out]; unfold workN; rw [if_pos hok, HN.out]
    have CA := Lib.hid (show ∀ W, Calls Tryd.prog 15 #[.agg (numA n), numV 1] W fun e w' => e = .returned (.agg (numA (n + 1))) ∧ Below W.heap.size W w' from fun W => by
      have := add_any n 1 W (by omega) (by omega)
      rwa [sumN, if_pos l3] at this)
    have CI := Lib.hid (show ∀ W, Calls Tryd.prog 26 #[.agg (numA (n + 1))] W fun e w' => e = .returned (.agg (numA q)) ∧ Below W.heap.size W w' from fun W => by
      have := invert_any (n + 1) W l1 l2
      rwa [← hqq] at this)
    have HI := Lib.hid (show IRow w3.drew w2.heap.size 24 .u8 (num n) ∧ IRow w3.drew w.heap.size 24 .u8 (num 0) ∧ Below w.heap.size w w3.drew from ⟨qv.drew, qz.drew, below_drewN bz 1⟩)
    subst her0
    clear l1 l2 l3 hqq qv qz bz hok HER HQ
    go_upto_region 4 with fail
    refine wp_region_held_drew (S := AnyW) (by kernel_rfl) ?_ (fun hHeld => ?_)
    · exact anyW _
    refine wpAnyH_ready (rs := [0, 1]) (by kernel_rfl) (by simp) ?_
    refine AllReadyH.cons (o := { dst := some 13, op := Go.Op.load 24 (Go.Operand.tmp 3), type := 24, pos := "work.go:76", after := #[], guard := none }) rfl (fun K hK => ?_) (AllReadyH.cons (o := { dst := some 14, op := Go.Op.call { callee := Go.Callee.value (Go.Operand.func 27), args := #[], argTypes := #[] }, type := 24, pos := "work.go:76", after := #[], guard := none }) rfl (fun K hK => ?_) (AllReadyH.nil))
    · as_aux_lemma =>
      simp only [Region.wanted, if_true]
      refine wp_load_mid 24 (.tmp 3) rfl w2.heap.size 0 rfl ((num n).map (Value.int .u8)) _ HI.out.1.range Tryd.underlying24 rfl (by rw [List.length_map]; exact size_numN n) ?_
      refine hK.out _ _ ?_ (fun hHeld => ?_)
      · exact anyW _
      clear hK K
      try simp only [Act.put, List.setIfInBounds_toArray, List.set_cons_zero, List.set_cons_succ]
      refine wpAnyH_ready (rs := [1]) (by kernel_rfl) (by simp) ?_
      refine AllReadyH.cons (o := { dst := some 14, op := Go.Op.call { callee := Go.Callee.value (Go.Operand.func 27), args := #[], argTypes := #[] }, type := 24, pos := "work.go:76", after := #[], guard := none }) rfl (fun K hK => ?_) (AllReadyH.nil)
      go_simp
      refine (one_any _).mono ?_
      rintro e w4 ⟨rfl, hb4⟩
      have HI := Lib.hid (And.intro (HI.out.1.below hb4 HI.out.1.lt) (And.intro (HI.out.2.1.below hb4 HI.out.2.1.lt) (HI.out.2.2.trans (hb4.mono HI.out.2.2.size))))
      clear hb4
      go_simp
      refine hK.out _ _ ?_ (fun hHeld => ?_)
      · exact anyW _
      clear hK K
      try simp only [Act.put, List.setIfInBounds_toArray, List.set_cons_zero, List.set_cons_succ]
      refine wpAnyH_ready (rs := [2]) (by kernel_rfl) (by simp) ?_
      refine AllReadyH.cons (o := { dst := some 15, op := Go.Op.call { callee := Go.Callee.value (Go.Operand.func 15), args := #[Go.Operand.tmp 13, Go.Operand.tmp 14], argTypes := #[24, 24] }, type := 24, pos := "work.go:76", after := #[{ on := 0, ground := Go.Ground.data }, { on := 1, ground := Go.Ground.data }, { on := 1, ground := Go.Ground.chain }], guard := none }) rfl (fun K hK => ?_) (AllReadyH.nil)
      go_simp
      refine (CA.out _).mono ?_
      rintro e w4 ⟨rfl, hb4⟩
      have HI := Lib.hid (And.intro (HI.out.1.below hb4 HI.out.1.lt) (And.intro (HI.out.2.1.below hb4 HI.out.2.1.lt) (HI.out.2.2.trans (hb4.mono HI.out.2.2.size))))
      clear hb4
      go_simp
      refine hK.out _ _ ?_ (fun hHeld => ?_)
      · exact anyW _
      clear hK K
      try simp only [Act.put, List.setIfInBounds_toArray, List.set_cons_zero, List.set_cons_succ]
      refine wpAnyH_ready (rs := [3]) (by kernel_rfl) (by simp) ?_
      refine AllReadyH.cons (o := { dst := some 16, op := Go.Op.call { callee := Go.Callee.value (Go.Operand.func 26), args := #[Go.Operand.tmp 15], argTypes := #[24] }, type := 24, pos := "work.go:76", after := #[{ on := 2, ground := Go.Ground.data }, { on := 2, ground := Go.Ground.chain }], guard := none }) rfl (fun K hK => ?_) (AllReadyH.nil)
      go_simp
      refine (CI.out _).mono ?_
      rintro e w4 ⟨rfl, hb4⟩
      have HI := Lib.hid (And.intro (HI.out.1.below hb4 HI.out.1.lt) (And.intro (HI.out.2.1.below hb4 HI.out.2.1.lt) (HI.out.2.2.trans (hb4.mono HI.out.2.2.size))))
      clear hb4
      go_simp
      refine hK.out _ _ ?_ (fun hHeld => ?_)
      · exact anyW _
      clear hK K
      try simp only [Act.put, List.setIfInBounds_toArray, List.set_cons_zero, List.set_cons_succ]
      refine wpAnyH_ready (rs := [4]) (by kernel_rfl) (by simp) ?_
      refine AllReadyH.cons (o := { dst := none, op := Go.Op.store 24 (Go.Operand.tmp 2) (Go.Operand.tmp 16), type := 0, pos := "work.go:76", after := #[{ on := 3, ground := Go.Ground.data }, { on := 3, ground := Go.Ground.chain }, { on := 0, ground := Go.Ground.phase }, { on := 1, ground := Go.Ground.phase }, { on := 2, ground := Go.Ground.phase }, { on := 3, ground := Go.Ground.phase }], guard := none }) rfl (fun K hK => ?_) (AllReadyH.nil)
      simp only [Region.wanted, if_true]
      refine op_store_irow 24 (.tmp 2) (.tmp 16) rfl (g := w.heap.size) (t := 24) (k := .u8) (xs := num 0) (ys := num q) rfl rfl HI.out.2.1 (size_numN q) (same_length _ _) ?_
      have QF := Lib.hid (setRow_irow (ys := num q) HI.out.2.1)
      have HBF := Lib.hid (below_setRow (g := w.heap.size) HI.out.2.2 (Nat.le_refl _) (numA q))
      refine hK.out _ _ ?_ (fun hHeld => ?_)
      · exact anyW _
      clear hK K
      try simp only [Act.put]
      refine wpAnyH_done (by kernel_rfl) ?_ _
      try dsimp only [Act.put]
      go_wp2_with fail
      refine bodyPost_ret (v := numV q) ?_ rfl ⟨rfl, HBF.out⟩
      exact results_cell_row Tryd.results11 _ _ w.heap.size 24 (numA q) (0, 0) _ rfl QF.out Tryd.underlying24 rfl (size_numNA q)
    · as_aux_lemma =>
      go_simp
      refine (one_any _).mono ?_
      rintro e w4 ⟨rfl, hb4⟩
      have HI := Lib.hid (And.intro (HI.out.1.below hb4 HI.out.1.lt) (And.intro (HI.out.2.1.below hb4 HI.out.2.1.lt) (HI.out.2.2.trans (hb4.mono HI.out.2.2.size))))
      clear hb4
      go_simp
      refine hK.out _ _ ?_ (fun hHeld => ?_)
      · exact anyW _
      clear hK K
      try simp only [Act.put, List.setIfInBounds_toArray, List.set_cons_zero, List.set_cons_succ]
      refine wpAnyH_ready (rs := [0]) (by kernel_rfl) (by simp) ?_
      refine AllReadyH.cons (o := { dst := some 13, op := Go.Op.load 24 (Go.Operand.tmp 3), type := 24, pos := "work.go:76", after := #[], guard := none }) rfl (fun K hK => ?_) (AllReadyH.nil)
      simp only [Region.wanted, if_true]
      refine wp_load_mid 24 (.tmp 3) rfl w2.heap.size 0 rfl ((num n).map (Value.int .u8)) _ HI.out.1.range Tryd.underlying24 rfl (by rw [List.length_map]; exact size_numN n) ?_
      refine hK.out _ _ ?_ (fun hHeld => ?_)
      · exact anyW _
      clear hK K
      try simp only [Act.put, List.setIfInBounds_toArray, List.set_cons_zero, List.set_cons_succ]
      refine wpAnyH_ready (rs := [2]) (by kernel_rfl) (by simp) ?_
      refine AllReadyH.cons (o := { dst := some 15, op := Go.Op.call { callee := Go.Callee.value (Go.Operand.func 15), args := #[Go.Operand.tmp 13, Go.Operand.tmp 14], argTypes := #[24, 24] }, type := 24, pos := "work.go:76", after := #[{ on := 0, ground := Go.Ground.data }, { on := 1, ground := Go.Ground.data }, { on := 1, ground := Go.Ground.chain }], guard := none }) rfl (fun K hK => ?_) (AllReadyH.nil)
      go_simp
      refine (CA.out _).mono ?_
      rintro e w4 ⟨rfl, hb4⟩
      have HI := Lib.hid (And.intro (HI.out.1.below hb4 HI.out.1.lt) (And.intro (HI.out.2.1.below hb4 HI.out.2.1.lt) (HI.out.2.2.trans (hb4.mono HI.out.2.2.size))))
      clear hb4
      go_simp
      refine hK.out _ _ ?_ (fun hHeld => ?_)
      · exact anyW _
      clear hK K
      try simp only [Act.put, List.setIfInBounds_toArray, List.set_cons_zero, List.set_cons_succ]
      refine wpAnyH_ready (rs := [3]) (by kernel_rfl) (by simp) ?_
      refine AllReadyH.cons (o := { dst := some 16, op := Go.Op.call { callee := Go.Callee.value (Go.Operand.func 26), args := #[Go.Operand.tmp 15], argTypes := #[24] }, type := 24, pos := "work.go:76", after := #[{ on := 2, ground := Go.Ground.data }, { on := 2, ground := Go.Ground.chain }], guard := none }) rfl (fun K hK => ?_) (AllReadyH.nil)
      go_simp
      refine (CI.out _).mono ?_
      rintro e w4 ⟨rfl, hb4⟩
      have HI := Lib.hid (And.intro (HI.out.1.below hb4 HI.out.1.lt) (And.intro (HI.out.2.1.below hb4 HI.out.2.1.lt) (HI.out.2.2.trans (hb4.mono HI.out.2.2.size))))
      clear hb4
      go_simp
      refine hK.out _ _ ?_ (fun hHeld => ?_)
      · exact anyW _
      clear hK K
      try simp only [Act.put, List.setIfInBounds_toArray, List.set_cons_zero, List.set_cons_succ]
      refine wpAnyH_ready (rs := [4]) (by kernel_rfl) (by simp) ?_
      refine AllReadyH.cons (o := { dst := none, op := Go.Op.store 24 (Go.Operand.tmp 2) (Go.Operand.tmp 16), type := 0, pos := "work.go:76", after := #[{ on := 3, ground := Go.Ground.data }, { on := 3, ground := Go.Ground.chain }, { on := 0, ground := Go.Ground.phase }, { on := 1, ground := Go.Ground.phase }, { on := 2, ground := Go.Ground.phase }, { on := 3, ground := Go.Ground.phase }], guard := none }) rfl (fun K hK => ?_) (AllReadyH.nil)
      simp only [Region.wanted, if_true]
      refine op_store_irow 24 (.tmp 2) (.tmp 16) rfl (g := w.heap.size) (t := 24) (k := .u8) (xs := num 0) (ys := num q) rfl rfl HI.out.2.1 (size_numN q) (same_length _ _) ?_
      have QF := Lib.hid (setRow_irow (ys := num q) HI.out.2.1)
      have HBF := Lib.hid (below_setRow (g := w.heap.size) HI.out.2.2 (Nat.le_refl _) (numA q))
      refine hK.out _ _ ?_ (fun hHeld => ?_)
      · exact anyW _
      clear hK K
      try simp only [Act.put]
      refine wpAnyH_done (by kernel_rfl) ?_ _
      try dsimp only [Act.put]
      go_wp2_with fail
      refine bodyPost_ret (v := numV q) ?_ rfl ⟨rfl, HBF.out⟩
      exact results_cell_row Tryd.results11 _ _ w.heap.size 24 (numA q) (0, 0) _ rfl QF.out Tryd.underlying24 rfl (size_numNA q)
  · have hok' : tgtB bs = false := by simpa using hok
    have her3 : er = .int .i64 3 := by rw [HER.out]; unfold tgtErr; rw [hok']; rfl
    have hq0 : q = 0 := by rw [HQ.out]; unfold workN; rw [hok']; rfl
    subst her3
    have QZ5 := Lib.hid qz
    have QF := Lib.hid (irow_as (setRow_irow (ys := List.replicate 32 0) qz) (show num q = _ by rw [hq0, num_zero]))
    have HBF := Lib.hid (below_setRow bz (Nat.le_refl _) zeroA)
    clear qv qz bz hq0 hok hok' HER HQ
    go_wp2_with (refine wpList_store_irow rfl 24 (.tmp 2) (.tmp 12) rfl (g := w.heap.size) (t := 24) (k := .u8) (xs := num 0) (ys := List.replicate 32 0) rfl rfl QZ5.out info_num (by rw [num_length]; rfl) ?_)
    refine bodyPost_ret (v := numV q) ?_ rfl ⟨rfl, HBF.out⟩
    exact results_cell_row Tryd.results11 _ _ w.heap.size 24 (numA q) (0, 0) _ rfl QF.out Tryd.underlying24 rfl (size_numNA q)
end Go.Proofs.YtgkocmljnoambaaDoor
