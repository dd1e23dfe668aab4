/-
  The law on targets. Conditions: none.
-/
import Derived.Test.YtgkocmljnoambaaDoorNTgts
namespace Go.Proofs.YtgkocmljnoambaaDoor
open Go.RowKit

theorem tgt_cases (bs : Nat) : (tgtB bs = true ∧ tgtErr bs = .int .i64 0) ∨ (tgtB bs = false ∧ tgtErr bs = .int .i64 3) := by
  unfold tgtErr
  cases tgtB bs
  · exact .inr ⟨rfl, rfl⟩
  · exact .inl ⟨rfl, rfl⟩
set_option maxRecDepth 100000 in
set_option maxHeartbeats 12800000 in
theorem targets_law (bs n : Nat) (w : World) (hbs : bs < 4294967296) (hn : n < top) :
    Calls Tryd.prog 3 #[.int .u32 (bs : Int), numV n] w fun e w' => e = .returned (.bool true) ∧ Below w.heap.size w w' := by
  obtain ⟨f, hf⟩ := LZ.ex n
  obtain ⟨B, hB⟩ : ∃ B, B = w.heap.size := ⟨_, rfl⟩
  obtain ⟨W, hW⟩ : ∃ W, W = w.alloc (.cells (numA n) 24) := ⟨_, rfl⟩
  have qn : IRow W B 24 .u8 (num n) := by rw [hW, hB]; exact IRow.new w 24 .u8 (num n)
  have bA : Below w.heap.size w W := by rw [hW]; exact (Below.refl _ w).alloc (Nat.le_refl _) _
  obtain ⟨R, hR⟩ : ∃ R, R = bitsR n f := ⟨_, rfl⟩
  obtain ⟨t, ht⟩ : ∃ t, t = tgtN bs := ⟨_, rfl⟩
  obtain ⟨tn, htn⟩ : ∃ tn, tn = tgtN R := ⟨_, rfl⟩
  obtain ⟨q, hq⟩ : ∃ q, q = workN bs := ⟨_, rfl⟩
  obtain ⟨e5, he5⟩ : ∃ e5, e5 = tgtErr R := ⟨_, rfl⟩
  obtain ⟨er, her⟩ : ∃ er, er = tgtErr bs := ⟨_, rfl⟩
  obtain ⟨ok, hok⟩ : ∃ ok, ok = tgtB bs := ⟨_, rfl⟩
  have htt : t < top := by rw [ht]; exact tgtN_lt bs
  have hqt : q < top := by rw [hq]; exact workN_lt bs
  have hRl : R < 4294967296 := by rw [hR]; exact bitsR_lt n f
  have htl : tn ≤ n := by rw [htn, hR]; exact tgt_below hn hf
  obtain ⟨c, hc⟩ : ∃ c, c = cmpN tn n := ⟨_, rfl⟩
  have hc0 : c ≤ 0 := by
    rw [hc]
    unfold cmpN
    split
    · omega
    · rw [if_neg (by omega)]
      omega
  have C1 := Lib.hid (fun W => bits_any n f W hf)
  have C2 := Lib.hid (fun W => refBits_any n f W hf)
  rw [← hR] at C1 C2
  have C3 := Lib.hid (fun W => work_any bs W hbs)
  have C4 := Lib.hid (fun W => refWork_any bs W hbs)
  rw [← hq] at C3 C4
  have C5 := Lib.hid (fun W => target_any R W hRl)
  rw [← htn, ← he5] at C5
  have C6 := Lib.hid (fun W => cmp_any tn n W (by omega) hn)
  rw [← hc] at C6
  have C7 := Lib.hid (fun W => target_any bs W hbs)
  rw [← ht, ← her] at C7
  have C8 := Lib.hid (fun W => refTarget_any bs W hbs)
  rw [← ht, ← hok] at C8
  have heq1 : ∀ U, (Op.equalIn 10000 24 (.agg (numA q)) (.agg (numA q))).run Tryd.prog U = .ok true U := fun U => by
    have h := eq_num_at 24 Tryd.underlying24 hqt hqt U
    rw [decide_eq_true rfl] at h
    exact h
  have heq2 : ∀ U, (Op.equalIn 10000 24 (.agg ((num t).map (Value.int .u8)).toArray) (.agg ((num t).map (Value.int .u8)).toArray)).run Tryd.prog U = .ok true U := fun U => by
    have h := eq_num_at 24 Tryd.underlying24 htt htt U
    rw [decide_eq_true rfl] at h
    exact h
  have hcase := tgt_cases bs
  rw [← hok, ← her] at hcase
  have HCS := Lib.hid hcase
  have HE5 := Lib.hid he5
  have CA := Lib.hid (awake_any W)
  have QN := Lib.hid qn
  have HB := Lib.hid bA
  have HW := Lib.hid hW
  have HBB := Lib.hid hB
  clear hf qn bA hR ht htn hq hc hok her he5 hcase hW hB htt hqt hRl htl hn hbs
  unfold numV at C1 C2 C3 C4 C5 C6 C7 C8 ⊢
  go_enter Tryd.func3, Tryd.ntmps3
  go_wp2_with fail
  rw [← HW.out, ← HBB.out]
  refine CA.out.mono ?_
  rintro e w1 ⟨rfl, hb⟩
  have qa := QN.out.below hb QN.out.lt
  have bb := HB.out.trans (hb.mono HB.out.size)
  clear QN HB hb CA HW
  have QN := Lib.hid qa
  have HB := Lib.hid bb
  clear qa bb
  go_wp2_with fail
  refine (C7.out _).mono ?_
  rintro e w2 ⟨rfl, hb⟩
  have qa := (QN.out.below hb QN.out.lt).alloc (.cells zeroA 24)
  have bb := HB.out.trans (hb.mono HB.out.size)
  have hBl : B < w2.heap.size := (QN.out.below hb QN.out.lt).lt
  have z5 := zero_row w2 24
  have qb := qa.setRow (g2 := w2.heap.size) (by omega) (numA t)
  have q5 : IRow ((w2.alloc (.cells zeroA 24)).setRow w2.heap.size (numA t)) w2.heap.size 24 .u8 (num t) := setRow_irow (ys := num t) z5
  have b3 := below_setRow (g := w2.heap.size) (bb.alloc (o := .cells zeroA 24) bb.size) bb.size (numA t)
  clear QN HB hb qa bb hBl C7
  have Z5 := Lib.hid z5
  have QN := Lib.hid qb
  have Q5 := Lib.hid q5
  have HB := Lib.hid b3
  clear z5 qb q5 b3
  go_upto_region 4 with (refine wpList_store_irow rfl 24 (.tmp 5) (.tmp 16) rfl (g := w2.heap.size) (t := 24) (k := .u8) (xs := num 0) (ys := num t) rfl rfl Z5.out (size_numN t) (same_length _ _) ?_)
  change Code.wp _ _ _ _ ((w2.alloc (.cells zeroA 24)).setRow w2.heap.size (numA t))
  obtain ⟨w3, hw3⟩ : ∃ w3, w3 = (w2.alloc (.cells zeroA 24)).setRow w2.heap.size (numA t) := ⟨_, rfl⟩
  obtain ⟨G5, hG5⟩ : ∃ G, G = w2.heap.size := ⟨_, rfl⟩
  rw [← hw3] at QN Q5 HB ⊢
  rw [← hG5] at Q5
  simp only [← hG5]
  clear hw3 Z5 hG5
  try dsimp only [Act.put]
  go_upto_region 5 with fail
  refine (C8.out _).mono ?_
  rintro e w4 ⟨rfl, hb⟩
  have qa := (QN.out.below hb QN.out.lt).alloc (.cells zeroA 23)
  have qc := (Q5.out.below hb Q5.out.lt).alloc (.cells zeroA 23)
  have bb := HB.out.trans (hb.mono HB.out.size)
  have hBl : B < w4.heap.size := (QN.out.below hb QN.out.lt).lt
  have hGl : G5 < w4.heap.size := (Q5.out.below hb Q5.out.lt).lt
  have z7 := zero_row w4 23
  have qb := qa.setRow (g2 := w4.heap.size) (by omega) (numA t)
  have qd := qc.setRow (g2 := w4.heap.size) (by omega) (numA t)
  have q7 : IRow ((w4.alloc (.cells zeroA 23)).setRow w4.heap.size (numA t)) w4.heap.size 23 .u8 (num t) := setRow_irow (ys := num t) z7
  have b3 := below_setRow (g := w4.heap.size) (bb.alloc (o := .cells zeroA 23) bb.size) bb.size (numA t)
  clear QN HB Q5 hb qa qc bb hBl hGl C8
  have Z7 := Lib.hid z7
  have QN := Lib.hid qb
  have Q5 := Lib.hid qd
  have Q7 := Lib.hid q7
  have HB := Lib.hid b3
  clear z7 qb qd q7 b3
  go_upto_region 5 with (refine wpList_store_irow rfl 23 (.tmp 7) (.tmp 21) rfl (g := w4.heap.size) (t := 23) (k := .u8) (xs := num 0) (ys := num t) rfl rfl Z7.out (size_num t) (same_length _ _) ?_)
  change Code.wp _ _ _ _ ((w4.alloc (.cells zeroA 23)).setRow w4.heap.size (numA t))
  obtain ⟨w5, hw5⟩ : ∃ w5, w5 = (w4.alloc (.cells zeroA 23)).setRow w4.heap.size (numA t) := ⟨_, rfl⟩
  obtain ⟨G7, hG7⟩ : ∃ G, G = w4.heap.size := ⟨_, rfl⟩
  rw [← hw5] at QN Q5 Q7 HB ⊢
  rw [← hG7] at Q7
  simp only [← hG7]
  clear hw5 Z7 hG7
  try dsimp only [Act.put]
  rcases HCS.out with ⟨hok, her⟩ | ⟨hok, her⟩
  · clear HCS
    subst hok
    subst her
    try dsimp only [Act.put]
    go_upto_region 7 with (first
      | (refine wpList_load_irow rfl 24 (.tmp 5) rfl (g := G5) (t := 24) (k := .u8) (xs := num t) rfl Q5.out Tryd.underlying24 (size_numN t) ?_)
      | (refine wpList_load_irow rfl 23 (.tmp 7) rfl (g := G7) (t := 23) (k := .u8) (xs := num t) rfl Q7.out Tryd.underlying23 (size_num t) ?_))
    clear Q5 Q7
    refine wp_region_held_drew (S := (fun w' => IRow w' B 24 .u8 (num n) ∧ Below w.heap.size w w')) (by kernel_rfl) ?_ (fun hHeld => ?_)
    · exact ⟨QN.out.drew, below_drewN HB.out 1⟩
    refine wpAnyH_take (i := 0) (oi := { dst := some 40, op := Go.Op.load 24 (Go.Operand.tmp 3), type := 24, pos := "law.go:112", after := #[], guard := none }) (v := (.agg ((num n).map (Value.int .u8)).toArray)) rfl (by kernel_rfl) (by kernel_rfl) (by kernel_rfl) (fun _ _ _ h => h) (yieldsIf_load_mid (by rfl) 24 (.tmp 3) rfl B 0 rfl ((num n).map (Value.int .u8)) _ (fun w' h => h.1.range) Tryd.underlying24 rfl (by rw [List.length_map]; exact size_numN n)) (by assumption) ?_
    try simp only [Act.put, List.setIfInBounds_toArray, List.set_cons_zero, List.set_cons_succ]
    refine wpAnyH_take (i := 2) (oi := { dst := some 42, op := Go.Op.load 24 (Go.Operand.tmp 3), type := 24, pos := "law.go:112", after := #[], guard := none }) (v := (.agg ((num n).map (Value.int .u8)).toArray)) rfl (by kernel_rfl) (by kernel_rfl) (by kernel_rfl) (fun _ _ _ h => h) (yieldsIf_load_mid (by rfl) 24 (.tmp 3) rfl B 0 rfl ((num n).map (Value.int .u8)) _ (fun w' h => h.1.range) Tryd.underlying24 rfl (by rw [List.length_map]; exact size_numN n)) (by assumption) ?_
    try simp only [Act.put, List.setIfInBounds_toArray, List.set_cons_zero, List.set_cons_succ]
    refine wpAnyH_ready (rs := [1]) (by kernel_rfl) (by simp) ?_
    refine AllReadyH.cons (o := { dst := some 41, op := Go.Op.call { callee := Go.Callee.value (Go.Operand.func 9), args := #[Go.Operand.tmp 40], argTypes := #[24] }, type := 22, pos := "law.go:112", after := #[{ on := 0, ground := Go.Ground.data }], guard := none }) rfl (fun K hK => ?_) (AllReadyH.nil)
    go_simp
    refine (C1.out _).mono ?_
    rintro e w4 ⟨rfl, hb4⟩
    go_simp
    refine hK.out _ _ ?_ (fun hHeld => ?_)
    · exact ⟨hHeld.1.below hb4 hHeld.1.lt, hHeld.2.trans (hb4.mono hHeld.2.size)⟩
    clear hK K
    try simp only [Act.put, List.setIfInBounds_toArray, List.set_cons_zero, List.set_cons_succ]
    refine wpAnyH_ready (rs := [3]) (by kernel_rfl) (by simp) ?_
    refine AllReadyH.cons (o := { dst := some 43, op := Go.Op.call { callee := Go.Callee.value (Go.Operand.func 10), args := #[Go.Operand.tmp 42], argTypes := #[23] }, type := 22, pos := "law.go:112", after := #[{ on := 2, ground := Go.Ground.data }, { on := 1, ground := Go.Ground.chain }], guard := none }) rfl (fun K hK => ?_) (AllReadyH.nil)
    go_simp
    refine (C2.out _).mono ?_
    rintro e w4 ⟨rfl, hb4⟩
    go_simp
    refine hK.out _ _ ?_ (fun hHeld => ?_)
    · exact ⟨hHeld.1.below hb4 hHeld.1.lt, hHeld.2.trans (hb4.mono hHeld.2.size)⟩
    clear hK K
    try simp only [Act.put, List.setIfInBounds_toArray, List.set_cons_zero, List.set_cons_succ]
    refine wpAnyH_take (i := 4) (oi := { dst := some 44, op := Go.Op.binOp Go.BinOp.neq 22 (Go.Operand.tmp 41) (Go.Operand.tmp 43) 22, type := 4, pos := "law.go:112", after := #[{ on := 1, ground := Go.Ground.data }, { on := 3, ground := Go.Ground.data }], guard := none }) (v := ?a_1_3v4) rfl (by kernel_rfl) (by kernel_rfl) (by kernel_rfl) (fun _ _ _ h => h) (Or.inl ⟨by rfl, ?a_1_3y4⟩) (by assumption) ?a_1_3r4
    case a_1_3y4 => (intro w hSw; (try dsimp only at hSw); go_simp; try (with_reducible rfl))
    case a_1_3r4 =>
    try simp only [Act.put, List.setIfInBounds_toArray, List.set_cons_zero, List.set_cons_succ]
    refine wpAnyH_take (i := 5) (oi := { dst := some 45, op := Go.Op.move (Go.Operand.tmp 44), type := 4, pos := "law.go:112", after := #[{ on := 4, ground := Go.Ground.data }, { on := 3, ground := Go.Ground.chain }], guard := none }) (v := ?a_1_3v5) rfl (by kernel_rfl) (by kernel_rfl) (by kernel_rfl) (fun _ _ _ h => h) (Or.inl ⟨by rfl, ?a_1_3y5⟩) (by assumption) ?a_1_3r5
    case a_1_3y5 => (intro w hSw; (try dsimp only at hSw); go_simp; try (with_reducible rfl))
    case a_1_3r5 =>
    try simp only [Act.put, List.setIfInBounds_toArray, List.set_cons_zero, List.set_cons_succ]
    refine wpAnyH_take (i := 6) (oi := { dst := some 46, op := Go.Op.move (Go.Operand.tmp 0), type := 22, pos := "law.go:112", after := #[{ on := 5, ground := Go.Ground.guard }], guard := some (5, false) }) (v := ?a_1_3v6) rfl (by kernel_rfl) (by kernel_rfl) (by kernel_rfl) (fun _ _ _ h => h) (Or.inl ⟨by rfl, ?a_1_3y6⟩) (by assumption) ?a_1_3r6
    case a_1_3y6 => (intro w hSw; (try dsimp only at hSw); go_simp; try (with_reducible rfl))
    case a_1_3r6 =>
    try simp only [Act.put, List.setIfInBounds_toArray, List.set_cons_zero, List.set_cons_succ]
    refine wpAnyH_take (i := 8) (oi := { dst := some 48, op := Go.Op.move (Go.Operand.tmp 0), type := 22, pos := "law.go:112", after := #[{ on := 5, ground := Go.Ground.guard }], guard := some (5, false) }) (v := ?a_1_3v8) rfl (by kernel_rfl) (by kernel_rfl) (by kernel_rfl) (fun _ _ _ h => h) (Or.inl ⟨by rfl, ?a_1_3y8⟩) (by assumption) ?a_1_3r8
    case a_1_3y8 => (intro w hSw; (try dsimp only at hSw); go_simp; try (with_reducible rfl))
    case a_1_3r8 =>
    try simp only [Act.put, List.setIfInBounds_toArray, List.set_cons_zero, List.set_cons_succ]
    refine wpAnyH_ready (rs := [7]) (by kernel_rfl) (by simp) ?_
    refine AllReadyH.cons (o := { dst := some 47, op := Go.Op.call { callee := Go.Callee.value (Go.Operand.func 11), args := #[Go.Operand.tmp 46], argTypes := #[22] }, type := 24, pos := "law.go:112", after := #[{ on := 6, ground := Go.Ground.data }, { on := 5, ground := Go.Ground.chain }, { on := 5, ground := Go.Ground.guard }], guard := some (5, false) }) rfl (fun K hK => ?_) (AllReadyH.nil)
    go_simp
    refine (C3.out _).mono ?_
    rintro e w4 ⟨rfl, hb4⟩
    go_simp
    refine hK.out _ _ ?_ (fun hHeld => ?_)
    · exact ⟨hHeld.1.below hb4 hHeld.1.lt, hHeld.2.trans (hb4.mono hHeld.2.size)⟩
    clear hK K
    try simp only [Act.put, List.setIfInBounds_toArray, List.set_cons_zero, List.set_cons_succ]
    refine wpAnyH_ready (rs := [9]) (by kernel_rfl) (by simp) ?_
    refine AllReadyH.cons (o := { dst := some 49, op := Go.Op.call { callee := Go.Callee.value (Go.Operand.func 12), args := #[Go.Operand.tmp 48], argTypes := #[22] }, type := 23, pos := "law.go:112", after := #[{ on := 8, ground := Go.Ground.data }, { on := 7, ground := Go.Ground.chain }, { on := 5, ground := Go.Ground.guard }], guard := some (5, false) }) rfl (fun K hK => ?_) (AllReadyH.nil)
    go_simp
    refine (C4.out _).mono ?_
    rintro e w4 ⟨rfl, hb4⟩
    go_simp
    refine hK.out _ _ ?_ (fun hHeld => ?_)
    · exact ⟨hHeld.1.below hb4 hHeld.1.lt, hHeld.2.trans (hb4.mono hHeld.2.size)⟩
    clear hK K
    try simp only [Act.put, List.setIfInBounds_toArray, List.set_cons_zero, List.set_cons_succ]
    refine wpAnyH_take (i := 10) (oi := { dst := some 50, op := Go.Op.binOp Go.BinOp.neq 24 (Go.Operand.tmp 47) (Go.Operand.tmp 49) 24, type := 4, pos := "law.go:112", after := #[{ on := 7, ground := Go.Ground.data }, { on := 9, ground := Go.Ground.data }, { on := 5, ground := Go.Ground.guard }], guard := some (5, false) }) (v := ?a_1_3_7_9v10) rfl (by kernel_rfl) (by kernel_rfl) (by kernel_rfl) (fun _ _ _ h => h) (Or.inl ⟨by rfl, ?a_1_3_7_9y10⟩) (by assumption) ?a_1_3_7_9r10
    case a_1_3_7_9y10 => (intro w hSw; (try dsimp only at hSw); go_simp; try (with_reducible rfl))
    case a_1_3_7_9r10 =>
    try simp only [Act.put, List.setIfInBounds_toArray, List.set_cons_zero, List.set_cons_succ]
    refine wpAnyH_take (i := 11) (oi := { dst := some 51, op := Go.Op.pick (Go.Operand.tmp 45) (Go.Operand.const (Go.Value.bool true)) (Go.Operand.tmp 50), type := 4, pos := "law.go:112", after := #[{ on := 5, ground := Go.Ground.data }, { on := 10, ground := Go.Ground.data }], guard := none }) (v := ?a_1_3_7_9v11) rfl (by kernel_rfl) (by kernel_rfl) (by kernel_rfl) (fun _ _ _ h => h) (Or.inl ⟨by rfl, ?a_1_3_7_9y11⟩) (by assumption) ?a_1_3_7_9r11
    case a_1_3_7_9y11 => (intro w hSw; (try dsimp only at hSw); go_simp; try (with_reducible rfl))
    case a_1_3_7_9r11 =>
    try simp only [Act.put, List.setIfInBounds_toArray, List.set_cons_zero, List.set_cons_succ]
    refine wpAnyH_done (by kernel_rfl) ?_ _
    have QN := Lib.hid hHeld.1
    have HB := Lib.hid hHeld.2
    clear hHeld
    go_upto_region 9 with fail
    go_upto_region 10 with (refine wpList_load_irow rfl 24 (.tmp 3) rfl (g := B) (t := 24) (k := .u8) (xs := num n) rfl QN.out Tryd.underlying24 (size_numN n) ?_)
    refine (C1.out _).mono ?_
    rintro e u1 ⟨rfl, hb1⟩
    have qa := QN.out.below hb1 QN.out.lt
    have bb := HB.out.trans (hb1.mono HB.out.size)
    clear QN HB hb1
    have QN := Lib.hid qa
    have HB := Lib.hid bb
    clear qa bb
    go_upto_region 10 with fail
    refine (C5.out _).mono ?_
    rintro e u2 ⟨rfl, hb2⟩
    have qa := (QN.out.below hb2 QN.out.lt).alloc (.cells zeroA 24)
    have bb := HB.out.trans (hb2.mono HB.out.size)
    have z9 := zero_row u2 24
    have hBl : B < u2.heap.size := (QN.out.below hb2 QN.out.lt).lt
    have bb2 := bb.alloc (o := .cells zeroA 24) bb.size
    have qb := qa.setRow (g2 := u2.heap.size) (by omega) (numA tn)
    have q9 : IRow ((u2.alloc (.cells zeroA 24)).setRow u2.heap.size (numA tn)) u2.heap.size 24 .u8 (num tn) := setRow_irow (ys := num tn) z9
    have b3 := below_setRow (g := u2.heap.size) bb2 bb.size (numA tn)
    clear QN HB hb2 qa bb bb2 hBl
    have Z9 := Lib.hid z9
    have QN := Lib.hid qb
    have Q9 := Lib.hid q9
    have HB := Lib.hid b3
    clear z9 qb q9 b3
    go_upto_region 10 with (refine wpList_store_irow rfl 24 (.tmp 9) (.tmp 56) rfl (g := u2.heap.size) (t := 24) (k := .u8) (xs := num 0) (ys := num tn) rfl rfl Z9.out (size_numN tn) (same_length _ _) ?_)
    change Code.wp _ _ _ _ ((u2.alloc (.cells zeroA 24)).setRow u2.heap.size (numA tn))
    obtain ⟨u3, hu3⟩ : ∃ u3, u3 = (u2.alloc (.cells zeroA 24)).setRow u2.heap.size (numA tn) := ⟨_, rfl⟩
    rw [← hu3] at QN Q9 HB ⊢
    clear hu3 Z9
    try dsimp only [Act.put]
    by_cases hbk : tgtB R = true
    · have he5 : e5 = .int .i64 0 := by rw [HE5.out]; unfold tgtErr; rw [if_pos hbk]
      subst he5
      clear hbk
      go_wp2_with (first
        | (refine wpList_load_irow_g rfl 24 (.tmp 9) rfl (g := u2.heap.size) (t := 24) (k := .u8) (xs := num tn) rfl Q9.out Tryd.underlying24 (size_numN tn) ?_)
        | (refine wpList_load_irow_g rfl 24 (.tmp 3) rfl (g := B) (t := 24) (k := .u8) (xs := num n) rfl QN.out Tryd.underlying24 (size_numN n) ?_))
      refine (C6.out _).mono ?_
      rintro e u4 ⟨rfl, hb4⟩
      have HBF := Lib.hid (HB.out.trans (hb4.mono HB.out.size))
      clear hb4
      go_wp2_with fail
      go_ret
      exact ⟨rfl, HBF.out⟩
    · have he5 : e5 = .int .i64 3 := by rw [HE5.out]; unfold tgtErr; rw [if_neg hbk]
      subst he5
      clear hbk
      go_wp2_with fail
      go_ret
      exact ⟨rfl, HB.out⟩
  · clear HCS
    subst hok
    subst her
    try dsimp only [Act.put]
    go_upto_region 7 with (first
      | (refine wpList_load_irow rfl 24 (.tmp 5) rfl (g := G5) (t := 24) (k := .u8) (xs := num t) rfl Q5.out Tryd.underlying24 (size_numN t) ?_)
      | (refine wpList_load_irow rfl 23 (.tmp 7) rfl (g := G7) (t := 23) (k := .u8) (xs := num t) rfl Q7.out Tryd.underlying23 (size_num t) ?_))
    clear Q5 Q7
    refine wp_region_held_drew (S := (fun w' => IRow w' B 24 .u8 (num n) ∧ Below w.heap.size w w')) (by kernel_rfl) ?_ (fun hHeld => ?_)
    · exact ⟨QN.out.drew, below_drewN HB.out 1⟩
    refine wpAnyH_take (i := 0) (oi := { dst := some 40, op := Go.Op.load 24 (Go.Operand.tmp 3), type := 24, pos := "law.go:112", after := #[], guard := none }) (v := (.agg ((num n).map (Value.int .u8)).toArray)) rfl (by kernel_rfl) (by kernel_rfl) (by kernel_rfl) (fun _ _ _ h => h) (yieldsIf_load_mid (by rfl) 24 (.tmp 3) rfl B 0 rfl ((num n).map (Value.int .u8)) _ (fun w' h => h.1.range) Tryd.underlying24 rfl (by rw [List.length_map]; exact size_numN n)) (by assumption) ?_
    try simp only [Act.put, List.setIfInBounds_toArray, List.set_cons_zero, List.set_cons_succ]
    refine wpAnyH_take (i := 2) (oi := { dst := some 42, op := Go.Op.load 24 (Go.Operand.tmp 3), type := 24, pos := "law.go:112", after := #[], guard := none }) (v := (.agg ((num n).map (Value.int .u8)).toArray)) rfl (by kernel_rfl) (by kernel_rfl) (by kernel_rfl) (fun _ _ _ h => h) (yieldsIf_load_mid (by rfl) 24 (.tmp 3) rfl B 0 rfl ((num n).map (Value.int .u8)) _ (fun w' h => h.1.range) Tryd.underlying24 rfl (by rw [List.length_map]; exact size_numN n)) (by assumption) ?_
    try simp only [Act.put, List.setIfInBounds_toArray, List.set_cons_zero, List.set_cons_succ]
    refine wpAnyH_ready (rs := [1]) (by kernel_rfl) (by simp) ?_
    refine AllReadyH.cons (o := { dst := some 41, op := Go.Op.call { callee := Go.Callee.value (Go.Operand.func 9), args := #[Go.Operand.tmp 40], argTypes := #[24] }, type := 22, pos := "law.go:112", after := #[{ on := 0, ground := Go.Ground.data }], guard := none }) rfl (fun K hK => ?_) (AllReadyH.nil)
    go_simp
    refine (C1.out _).mono ?_
    rintro e w4 ⟨rfl, hb4⟩
    go_simp
    refine hK.out _ _ ?_ (fun hHeld => ?_)
    · exact ⟨hHeld.1.below hb4 hHeld.1.lt, hHeld.2.trans (hb4.mono hHeld.2.size)⟩
    clear hK K
    try simp only [Act.put, List.setIfInBounds_toArray, List.set_cons_zero, List.set_cons_succ]
    refine wpAnyH_ready (rs := [3]) (by kernel_rfl) (by simp) ?_
    refine AllReadyH.cons (o := { dst := some 43, op := Go.Op.call { callee := Go.Callee.value (Go.Operand.func 10), args := #[Go.Operand.tmp 42], argTypes := #[23] }, type := 22, pos := "law.go:112", after := #[{ on := 2, ground := Go.Ground.data }, { on := 1, ground := Go.Ground.chain }], guard := none }) rfl (fun K hK => ?_) (AllReadyH.nil)
    go_simp
    refine (C2.out _).mono ?_
    rintro e w4 ⟨rfl, hb4⟩
    go_simp
    refine hK.out _ _ ?_ (fun hHeld => ?_)
    · exact ⟨hHeld.1.below hb4 hHeld.1.lt, hHeld.2.trans (hb4.mono hHeld.2.size)⟩
    clear hK K
    try simp only [Act.put, List.setIfInBounds_toArray, List.set_cons_zero, List.set_cons_succ]
    refine wpAnyH_take (i := 4) (oi := { dst := some 44, op := Go.Op.binOp Go.BinOp.neq 22 (Go.Operand.tmp 41) (Go.Operand.tmp 43) 22, type := 4, pos := "law.go:112", after := #[{ on := 1, ground := Go.Ground.data }, { on := 3, ground := Go.Ground.data }], guard := none }) (v := ?b_1_3v4) rfl (by kernel_rfl) (by kernel_rfl) (by kernel_rfl) (fun _ _ _ h => h) (Or.inl ⟨by rfl, ?b_1_3y4⟩) (by assumption) ?b_1_3r4
    case b_1_3y4 => (intro w hSw; (try dsimp only at hSw); go_simp; try (with_reducible rfl))
    case b_1_3r4 =>
    try simp only [Act.put, List.setIfInBounds_toArray, List.set_cons_zero, List.set_cons_succ]
    refine wpAnyH_take (i := 5) (oi := { dst := some 45, op := Go.Op.move (Go.Operand.tmp 44), type := 4, pos := "law.go:112", after := #[{ on := 4, ground := Go.Ground.data }, { on := 3, ground := Go.Ground.chain }], guard := none }) (v := ?b_1_3v5) rfl (by kernel_rfl) (by kernel_rfl) (by kernel_rfl) (fun _ _ _ h => h) (Or.inl ⟨by rfl, ?b_1_3y5⟩) (by assumption) ?b_1_3r5
    case b_1_3y5 => (intro w hSw; (try dsimp only at hSw); go_simp; try (with_reducible rfl))
    case b_1_3r5 =>
    try simp only [Act.put, List.setIfInBounds_toArray, List.set_cons_zero, List.set_cons_succ]
    refine wpAnyH_take (i := 6) (oi := { dst := some 46, op := Go.Op.move (Go.Operand.tmp 0), type := 22, pos := "law.go:112", after := #[{ on := 5, ground := Go.Ground.guard }], guard := some (5, false) }) (v := ?b_1_3v6) rfl (by kernel_rfl) (by kernel_rfl) (by kernel_rfl) (fun _ _ _ h => h) (Or.inl ⟨by rfl, ?b_1_3y6⟩) (by assumption) ?b_1_3r6
    case b_1_3y6 => (intro w hSw; (try dsimp only at hSw); go_simp; try (with_reducible rfl))
    case b_1_3r6 =>
    try simp only [Act.put, List.setIfInBounds_toArray, List.set_cons_zero, List.set_cons_succ]
    refine wpAnyH_take (i := 8) (oi := { dst := some 48, op := Go.Op.move (Go.Operand.tmp 0), type := 22, pos := "law.go:112", after := #[{ on := 5, ground := Go.Ground.guard }], guard := some (5, false) }) (v := ?b_1_3v8) rfl (by kernel_rfl) (by kernel_rfl) (by kernel_rfl) (fun _ _ _ h => h) (Or.inl ⟨by rfl, ?b_1_3y8⟩) (by assumption) ?b_1_3r8
    case b_1_3y8 => (intro w hSw; (try dsimp only at hSw); go_simp; try (with_reducible rfl))
    case b_1_3r8 =>
    try simp only [Act.put, List.setIfInBounds_toArray, List.set_cons_zero, List.set_cons_succ]
    refine wpAnyH_ready (rs := [7]) (by kernel_rfl) (by simp) ?_
    refine AllReadyH.cons (o := { dst := some 47, op := Go.Op.call { callee := Go.Callee.value (Go.Operand.func 11), args := #[Go.Operand.tmp 46], argTypes := #[22] }, type := 24, pos := "law.go:112", after := #[{ on := 6, ground := Go.Ground.data }, { on := 5, ground := Go.Ground.chain }, { on := 5, ground := Go.Ground.guard }], guard := some (5, false) }) rfl (fun K hK => ?_) (AllReadyH.nil)
    go_simp
    refine (C3.out _).mono ?_
    rintro e w4 ⟨rfl, hb4⟩
    go_simp
    refine hK.out _ _ ?_ (fun hHeld => ?_)
    · exact ⟨hHeld.1.below hb4 hHeld.1.lt, hHeld.2.trans (hb4.mono hHeld.2.size)⟩
    clear hK K
    try simp only [Act.put, List.setIfInBounds_toArray, List.set_cons_zero, List.set_cons_succ]
    refine wpAnyH_ready (rs := [9]) (by kernel_rfl) (by simp) ?_
    refine AllReadyH.cons (o := { dst := some 49, op := Go.Op.call { callee := Go.Callee.value (Go.Operand.func 12), args := #[Go.Operand.tmp 48], argTypes := #[22] }, type := 23, pos := "law.go:112", after := #[{ on := 8, ground := Go.Ground.data }, { on := 7, ground := Go.Ground.chain }, { on := 5, ground := Go.Ground.guard }], guard := some (5, false) }) rfl (fun K hK => ?_) (AllReadyH.nil)
    go_simp
    refine (C4.out _).mono ?_
    rintro e w4 ⟨rfl, hb4⟩
    go_simp
    refine hK.out _ _ ?_ (fun hHeld => ?_)
    · exact ⟨hHeld.1.below hb4 hHeld.1.lt, hHeld.2.trans (hb4.mono hHeld.2.size)⟩
    clear hK K
    try simp only [Act.put, List.setIfInBounds_toArray, List.set_cons_zero, List.set_cons_succ]
    refine wpAnyH_take (i := 10) (oi := { dst := some 50, op := Go.Op.binOp Go.BinOp.neq 24 (Go.Operand.tmp 47) (Go.Operand.tmp 49) 24, type := 4, pos := "law.go:112", after := #[{ on := 7, ground := Go.Ground.data }, { on := 9, ground := Go.Ground.data }, { on := 5, ground := Go.Ground.guard }], guard := some (5, false) }) (v := ?b_1_3_7_9v10) rfl (by kernel_rfl) (by kernel_rfl) (by kernel_rfl) (fun _ _ _ h => h) (Or.inl ⟨by rfl, ?b_1_3_7_9y10⟩) (by assumption) ?b_1_3_7_9r10
    case b_1_3_7_9y10 => (intro w hSw; (try dsimp only at hSw); go_simp; try (with_reducible rfl))
    case b_1_3_7_9r10 =>
    try simp only [Act.put, List.setIfInBounds_toArray, List.set_cons_zero, List.set_cons_succ]
    refine wpAnyH_take (i := 11) (oi := { dst := some 51, op := Go.Op.pick (Go.Operand.tmp 45) (Go.Operand.const (Go.Value.bool true)) (Go.Operand.tmp 50), type := 4, pos := "law.go:112", after := #[{ on := 5, ground := Go.Ground.data }, { on := 10, ground := Go.Ground.data }], guard := none }) (v := ?b_1_3_7_9v11) rfl (by kernel_rfl) (by kernel_rfl) (by kernel_rfl) (fun _ _ _ h => h) (Or.inl ⟨by rfl, ?b_1_3_7_9y11⟩) (by assumption) ?b_1_3_7_9r11
    case b_1_3_7_9y11 => (intro w hSw; (try dsimp only at hSw); go_simp; try (with_reducible rfl))
    case b_1_3_7_9r11 =>
    try simp only [Act.put, List.setIfInBounds_toArray, List.set_cons_zero, List.set_cons_succ]
    refine wpAnyH_done (by kernel_rfl) ?_ _
    have QN := Lib.hid hHeld.1
    have HB := Lib.hid hHeld.2
    clear hHeld
    go_upto_region 9 with fail
    go_upto_region 10 with (refine wpList_load_irow rfl 24 (.tmp 3) rfl (g := B) (t := 24) (k := .u8) (xs := num n) rfl QN.out Tryd.underlying24 (size_numN n) ?_)
    refine (C1.out _).mono ?_
    rintro e u1 ⟨rfl, hb1⟩
    have qa := QN.out.below hb1 QN.out.lt
    have bb := HB.out.trans (hb1.mono HB.out.size)
    clear QN HB hb1
    have QN := Lib.hid qa
    have HB := Lib.hid bb
    clear qa bb
    go_upto_region 10 with fail
    refine (C5.out _).mono ?_
    rintro e u2 ⟨rfl, hb2⟩
    have qa := (QN.out.below hb2 QN.out.lt).alloc (.cells zeroA 24)
    have bb := HB.out.trans (hb2.mono HB.out.size)
    have z9 := zero_row u2 24
    have hBl : B < u2.heap.size := (QN.out.below hb2 QN.out.lt).lt
    have bb2 := bb.alloc (o := .cells zeroA 24) bb.size
    have qb := qa.setRow (g2 := u2.heap.size) (by omega) (numA tn)
    have q9 : IRow ((u2.alloc (.cells zeroA 24)).setRow u2.heap.size (numA tn)) u2.heap.size 24 .u8 (num tn) := setRow_irow (ys := num tn) z9
    have b3 := below_setRow (g := u2.heap.size) bb2 bb.size (numA tn)
    clear QN HB hb2 qa bb bb2 hBl
    have Z9 := Lib.hid z9
    have QN := Lib.hid qb
    have Q9 := Lib.hid q9
    have HB := Lib.hid b3
    clear z9 qb q9 b3
    go_upto_region 10 with (refine wpList_store_irow rfl 24 (.tmp 9) (.tmp 56) rfl (g := u2.heap.size) (t := 24) (k := .u8) (xs := num 0) (ys := num tn) rfl rfl Z9.out (size_numN tn) (same_length _ _) ?_)
    change Code.wp _ _ _ _ ((u2.alloc (.cells zeroA 24)).setRow u2.heap.size (numA tn))
    obtain ⟨u3, hu3⟩ : ∃ u3, u3 = (u2.alloc (.cells zeroA 24)).setRow u2.heap.size (numA tn) := ⟨_, rfl⟩
    rw [← hu3] at QN Q9 HB ⊢
    clear hu3 Z9
    try dsimp only [Act.put]
    by_cases hbk : tgtB R = true
    · have he5 : e5 = .int .i64 0 := by rw [HE5.out]; unfold tgtErr; rw [if_pos hbk]
      subst he5
      clear hbk
      go_wp2_with (first
        | (refine wpList_load_irow_g rfl 24 (.tmp 9) rfl (g := u2.heap.size) (t := 24) (k := .u8) (xs := num tn) rfl Q9.out Tryd.underlying24 (size_numN tn) ?_)
        | (refine wpList_load_irow_g rfl 24 (.tmp 3) rfl (g := B) (t := 24) (k := .u8) (xs := num n) rfl QN.out Tryd.underlying24 (size_numN n) ?_))
      refine (C6.out _).mono ?_
      rintro e u4 ⟨rfl, hb4⟩
      have HBF := Lib.hid (HB.out.trans (hb4.mono HB.out.size))
      clear hb4
      go_wp2_with fail
      go_ret
      exact ⟨rfl, HBF.out⟩
    · have he5 : e5 = .int .i64 3 := by rw [HE5.out]; unfold tgtErr; rw [if_neg hbk]
      subst he5
      clear hbk
      go_wp2_with fail
      go_ret
      exact ⟨rfl, HB.out⟩
end Go.Proofs.YtgkocmljnoambaaDoor
