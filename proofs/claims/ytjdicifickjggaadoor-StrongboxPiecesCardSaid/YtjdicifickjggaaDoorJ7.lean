/-
  Texts joined: SumH, Sum2, Double, FromT, FromT2. Conditions: those of each.
-/
import Derived.Test.YtjdicifickjggaaDoorJ6
import Derived.Lib.Bytealg
import Derived.Lib.IndexBytes
/-
  hash.Sum: Hash. Conditions: the size stays below 2^59; the roots are laid.
-/
namespace Go.Proofs.YtjdicifickjggaaDoor
open Go.RowKit

/-- A digest as a value. -/
def digV (bs : List UInt8) : Value := .agg ((nums bs).map (Value.int .u8)).toArray
def zIn : List Value := inRow (List.replicate 8 0) (List.replicate 128 0) 0
theorem info_in : (Tryd.prog.info? 32).map (·.size) = some 137 := by kernel_rfl
theorem info_h : (Tryd.prog.info? 41).map (·.size) = some 32 := by kernel_rfl

theorem zero_in (W : World) : (zeroValue 32).run Tryd.prog W = .ok (.agg zIn.toArray) W := by kernel_rfl
theorem zero_sum (W : World) : (zeroValue 34).run Tryd.prog W = .ok (.agg zIn.toArray) W := by kernel_rfl
theorem zero_hash (W : World) : (zeroValue 41).run Tryd.prog W = .ok (.agg ((List.replicate 32 (0 : Int)).map (Value.int .u8)).toArray) W := by kernel_rfl
theorem inRow_one (ws rest : List Int) (n : Nat) : (inRow ws rest n).toArray.all (·.oneCell') = true := by
  refine all_oneCell_toArray fun v hv => ?_
  unfold inRow at hv
  rcases List.mem_append.1 hv with h | h
  · obtain ⟨x, _, rfl⟩ := List.mem_map.1 h; rfl
  · rcases List.mem_append.1 h with h | h
    · obtain ⟨x, _, rfl⟩ := List.mem_map.1 h; rfl
    · rw [List.mem_singleton.1 h]; rfl
theorem S8.mem_ok {s : S8} (h : s.Ok) {x : Int} (hx : x ∈ [s.a, s.b, s.c, s.d, s.e, s.f, s.g, s.h]) : U32 x := by
  simp only [List.mem_cons, List.not_mem_nil, or_false] at hx
  rcases hx with rfl | rfl | rfl | rfl | rfl | rfl | rfl | rfl
  · exact h.a
  · exact h.b
  · exact h.c
  · exact h.d
  · exact h.e
  · exact h.f
  · exact h.g
  · exact h.h
theorem pad_src {w : World} {gp g n z : Nat} (h : IRow w gp 5 .u8 (padI n z 8)) (hz : z = (119 - n % 64) % 64) (hne : g ≠ gp) : Src w g (.slice (some ⟨gp, 0, none⟩) (z + 9) (z + 9)) (padB n) := by
  have e : padI n z 8 = nums (padB n) := by rw [hz]; exact padI_full n
  have hl : (padB n).length = z + 9 := by rw [← nums_length, ← e, padI_length]
  rw [e] at h
  refine ⟨_, z + 9, by rw [hl], by omega, by unfold maxLen; omega, (by intro h; cases h), fun _ => ⟨gp, 0, rfl, h.lt, Ne.symm hne, fun j u hu => ?_⟩⟩
  rw [Nat.zero_add]
  have := h.cell (i := j) (z := (u.toNat : Int)) (by unfold nums; rw [List.getElem?_map, hu]; rfl)
  exact this
set_option maxRecDepth 100000 in
set_option maxHeartbeats 6400000 in
theorem sumHash_any (g : Nat) (t : TypeId) (m : List UInt8) (W0 : World) (hsum : SumIs W0 g t m) (hm : m.length < 576460752303423488) (hroots : Roots W0) :
    Calls Tryd.prog 12 #[.pointer (some ⟨g, 0, none⟩)] W0 fun e w' => e = .returned (digV (sha256 m)) ∧ Below W0.heap.size W0 w' := by
  obtain ⟨ws, rest, ht, hws, hrow⟩ := hsum
  have HT := Lib.hid ht
  have HWS := Lib.hid hws
  have hg := hrow.lt
  have HROW := Lib.hid hrow
  have HROOTS := Lib.hid hroots
  clear ht hws hrow hroots
  go_enter Tryd.func12, Tryd.ntmps12
  go_upto_region 1 with fail
  change Code.wp _ _ _ _ (W0.alloc (.cells ((List.replicate 32 (0 : Int)).map (Value.int .u8)).toArray 41))
  have rA := IRow.new W0 41 .u8 (List.replicate 32 0)
  have bA : Below W0.heap.size W0 (W0.alloc (.cells ((List.replicate 32 (0 : Int)).map (Value.int .u8)).toArray 41)) := (Below.refl _ W0).alloc (Nat.le_refl _) _
  have sA : (W0.alloc (.cells ((List.replicate 32 (0 : Int)).map (Value.int .u8)).toArray 41)).heap.size = W0.heap.size + 1 := by simp
  obtain ⟨wA, hwA⟩ : ∃ x, x = W0.alloc (.cells ((List.replicate 32 (0 : Int)).map (Value.int .u8)).toArray 41) := ⟨_, rfl⟩
  rw [← hwA] at rA bA sA ⊢
  obtain ⟨B0, hB0⟩ : ∃ B0, B0 = W0.heap.size := ⟨_, rfl⟩
  rw [← hB0] at rA bA sA hg ⊢
  have hgr := HROW.out.below (hB0 ▸ bA) HROW.out.lt
  have rZ := VRow.new wA 32 zIn
  have bB : Below wA.heap.size wA ((wA.alloc (.cells zIn.toArray 32)).setRow wA.heap.size (inRow ws rest m.length).toArray) := by
    exact below_setRow ((Below.refl _ wA).alloc (Nat.le_refl _) _) (Nat.le_refl _) _
  have rB := rZ.setRow (inRow ws rest m.length)
  have HI := Lib.hid (show (Tryd.prog.info? 32).map (·.size) = some (inRow ws rest m.length).length by rw [inRow_length _ HWS.out HT.out.size]; exact info_in)
  have HL := Lib.hid (show zIn.length = (inRow ws rest m.length).length by rw [inRow_length _ HWS.out HT.out.size]; rfl)
  have HO := Lib.hid (inRow_one ws rest m.length)
  obtain ⟨L, hL⟩ : ∃ L, L = inRow ws rest m.length := ⟨_, rfl⟩
  rw [← hL] at hgr rB bB HI HL HO
  have HGR := Lib.hid hgr
  have RZ := Lib.hid rZ
  have RB := Lib.hid rB
  have BB := Lib.hid bB
  have RA := Lib.hid rA
  have BA := Lib.hid bA
  have SA := Lib.hid sA
  have HB0 := Lib.hid hB0
  have HLL := Lib.hid hL
  clear hgr rZ rB bB rA bA sA hB0 hL hwA
  have hzv := zero_in
  go_upto_region 2 with (first
    | (refine wpList_load_vrow rfl 32 (.tmp 9) rfl (g := g) (t := t) (vs := L) rfl HGR.out Tryd.underlying32 HI.out ?_)
    | (refine wpList_store_vrow rfl 32 (.tmp 3) (.tmp 10) rfl (g := wA.heap.size) (t := 32) (vs := zIn) (us := L) rfl rfl RZ.out HI.out HL.out HO.out ?_))
  change Code.wp _ _ _ _ ((wA.alloc (.cells zIn.toArray 32)).setRow wA.heap.size L.toArray)
  obtain ⟨wB, hwB⟩ : ∃ x, x = (wA.alloc (.cells zIn.toArray 32)).setRow wA.heap.size L.toArray := ⟨_, rfl⟩
  have rB : VRow wB wA.heap.size 32 L := by rw [hwB]; exact RB.out
  have bB : Below wA.heap.size wA wB := by rw [hwB]; exact BB.out
  rw [← hwB]
  obtain ⟨B1, hB1⟩ : ∃ B1, B1 = wA.heap.size := ⟨_, rfl⟩
  rw [← hB1] at rB bB ⊢
  have h10 : B1 = B0 + 1 := by rw [hB1, SA.out]
  have rA := RA.out.below bB (by omega)
  have bA := BA.out.trans (bB.mono (by omega : B0 ≤ B1))
  have hB1s := rB.lt
  have ro : Roots wB := HROOTS.out.below (by rw [← HB0.out]; exact bA)
  have zc : wB.cell? ⟨B1, 136, none⟩ = some (.int .u64 (m.length : Int)) := by
    refine rB.cell ?_
    rw [HLL.out]
    exact inRow_size _ HWS.out HT.out.size
  have rB' : VRow wB B1 32 (inRow ws rest m.length) := by rw [← HLL.out]; exact rB
  obtain ⟨z, hz⟩ : ∃ z, z = (119 - m.length % 64) % 64 := ⟨_, rfl⟩
  obtain ⟨n, hn⟩ : ∃ n, n = m.length := ⟨_, rfl⟩
  rw [← hn] at zc hz
  have hpl : (padB n).length = z + 9 := by
    have h := padI_length n z 8
    rw [hz, padI_full, nums_length] at h
    rw [h, hz]
  have RB2 := Lib.hid rB'
  have RA2 := Lib.hid rA
  have BA2 := Lib.hid bA
  have RO := Lib.hid ro
  have HZ := Lib.hid hz
  have HN := Lib.hid hn
  have HPL := Lib.hid hpl
  have H10 := Lib.hid h10
  clear hwB rB rB' bB rA bA ro hz hn hpl HGR RZ RB BB RA BA HI HL HO HLL HROW hB1 h10 SA
  dsimp only [Act.put]
  go_cut [2, 3] (fun s2 s3 wx => s2 = .pointer (some ⟨B0, 0, none⟩) ∧ s3 = .pointer (some ⟨B1, 0, none⟩) ∧ SumIs wx B1 32 (full m) ∧ IRow wx B0 41 .u8 (List.replicate 32 0) ∧ Below B0 W0 wx ∧ B1 < wx.heap.size)
  case first =>
    refine wp_region_held_drew (S := AnyW) (by kernel_rfl) ?_ (fun hHeld => ?_)
    · exact anyW _
    refine wpAnyH_take (i := 1) (oi := { dst := some 12, op := Go.Op.fieldAddr 32 (Go.Operand.tmp 3) 2, type := 0, pos := "sha256.go:21", after := #[], guard := none }) (v := ?av1) rfl (by kernel_rfl) (by kernel_rfl) (by kernel_rfl) (fun _ _ _ h => h) (Or.inl ⟨by rfl, ?ay1⟩) (by assumption) ?ar1
    case ay1 => (intro w hSw; (try dsimp only at hSw); go_simp; try (with_reducible rfl))
    case ar1 =>
    try simp only [Act.put, List.setIfInBounds_toArray, List.set_cons_zero, List.set_cons_succ]
    refine wpAnyH_ready (rs := [0, 2]) (by kernel_rfl) (by simp) ?_
    refine AllReadyH.cons (o := { dst := some 11, op := Go.Op.call { callee := Go.Callee.value (Go.Operand.func 27), args := #[], argTypes := #[] }, type := 65, pos := "sha256.go:21", after := #[], guard := none }) rfl (fun K hK => ?_) (AllReadyH.cons (o := { dst := some 13, op := Go.Op.load 30 (Go.Operand.tmp 12), type := 30, pos := "sha256.go:21", after := #[{ on := 1, ground := Go.Ground.data }], guard := none }) rfl (fun K hK => ?_) (AllReadyH.nil))
    · as_aux_lemma =>
      go_simp
      refine (kind256_any wB.drew RO.out.root).mono ?_
      rintro e w2 ⟨rfl, hb2⟩
      go_simp
      have B2 := Lib.hid (show Below wB.heap.size wB w2 from ⟨hb2.os, hb2.tape, hb2.output, hb2.size, hb2.block⟩)
      have zc2 : w2.cell? ⟨B1, 136, none⟩ = some (.int .u64 (n : Int)) := (B2.out.cell (p := ⟨B1, 136, none⟩) hB1s).trans zc
      clear hb2
      refine hK.out _ _ ?_ (fun hHeld => ?_)
      · exact anyW _
      clear hK K
      try simp only [Act.put, List.setIfInBounds_toArray, List.set_cons_zero, List.set_cons_succ]
      refine wpAnyH_ready (rs := [2]) (by kernel_rfl) (by simp) ?_
      refine AllReadyH.cons (o := { dst := some 13, op := Go.Op.load 30 (Go.Operand.tmp 12), type := 30, pos := "sha256.go:21", after := #[{ on := 1, ground := Go.Ground.data }], guard := none }) rfl (fun K hK => ?_) (AllReadyH.nil)
      go_simp
      refine hK.out _ _ ?_ (fun hHeld => ?_)
      · exact anyW _
      clear hK K
      try simp only [Act.put, List.setIfInBounds_toArray, List.set_cons_zero, List.set_cons_succ]
      refine wpAnyH_ready (rs := [3]) (by kernel_rfl) (by simp) ?_
      refine AllReadyH.cons (o := { dst := some 14, op := Go.Op.call { callee := Go.Callee.value (Go.Operand.func 31), args := #[Go.Operand.tmp 13, Go.Operand.const (Go.Value.int Go.IntKind.i64 64), Go.Operand.const (Go.Value.int Go.IntKind.i64 8)], argTypes := #[30, 3, 3] }, type := 24, pos := "sha256.go:21", after := #[{ on := 2, ground := Go.Ground.data }, { on := 0, ground := Go.Ground.chain }], guard := none }) rfl (fun K hK => ?_) (AllReadyH.nil)
      go_simp
      refine (padding_any n z w2 (by have := HN.out; omega) HZ.out).mono ?_
      rintro e w3 ⟨gp, rfl, hrow3, hb3, hge⟩
      go_simp
      have BQ := Lib.hid (B2.out.trans (hb3.mono B2.out.size))
      have PROW := Lib.hid hrow3
      have GE := Lib.hid (Nat.le_trans B2.out.size hge)
      clear hb3 hrow3 hge
      refine hK.out _ _ ?_ (fun hHeld => ?_)
      · exact anyW _
      clear hK K
      try simp only [Act.put, List.setIfInBounds_toArray, List.set_cons_zero, List.set_cons_succ]
      refine wpAnyH_ready (rs := [4]) (by kernel_rfl) (by simp) ?_
      refine AllReadyH.cons (o := { dst := some 15, op := Go.Op.call { callee := Go.Callee.value (Go.Operand.func 26), args := #[Go.Operand.tmp 3, Go.Operand.tmp 11, Go.Operand.tmp 14], argTypes := #[32, 65, 24] }, type := 0, pos := "sha256.go:21", after := #[{ on := 0, ground := Go.Ground.data }, { on := 3, ground := Go.Ground.data }, { on := 3, ground := Go.Ground.chain }], guard := none }) rfl (fun K hK => ?_) (AllReadyH.nil)
      go_simp
      have SRC := pad_src PROW.out HZ.out (show B1 ≠ gp by have := GE.out; omega)
      refine (add_any B1 _ m (padB n) ws rest _ w3 HT.out HWS.out (RB2.out.below BQ.out hB1s) SRC (by rw [HPL.out]; have := HZ.out; omega) (RO.out.below BQ.out).cube (HROOTS.out.off (by rw [← HB0.out]; have := H10.out; omega)).cube).mono ?_
      rintro e w4 ⟨rfl, ws4, rest4, t4, l4, r4, tt4⟩
      go_simp
      refine hK.out _ _ ?_ (fun hHeld => ?_)
      · exact anyW _
      clear hK K
      try simp only [Act.put, List.setIfInBounds_toArray, List.set_cons_zero, List.set_cons_succ]
      refine wpAnyH_done (by kernel_rfl) ?_ _
      have hsum : SumIs w4 B1 32 (full m) := ⟨ws4, rest4, by unfold full; rw [← HN.out]; exact t4, l4, by unfold full; rw [← HN.out]; exact r4⟩
      have htt : Turns (· = B1) wB w4 := (Turns.of_below (S := (· = B1)) BQ.out).trans tt4 (fun _ _ h => h)
      have hra : IRow w4 B0 41 .u8 (List.replicate 32 0) := RA2.out.turns htt (by have := H10.out; omega)
      have hb0 : Below B0 W0 w4 := BA2.out.trans (htt.below_of (by have := H10.out; omega) (by intro i hi h; have := H10.out; omega))
      have hlt : B1 < w4.heap.size := Nat.lt_of_lt_of_le hB1s htt.size
      have HF := Lib.hid (⟨hsum, hra, hb0, hlt⟩ : SumIs w4 B1 32 (full m) ∧ IRow w4 B0 41 .u8 (List.replicate 32 0) ∧ Below B0 W0 w4 ∧ B1 < w4.heap.size)
      clear hsum htt hra hb0 hlt t4 l4 r4 tt4
      go_wp2_with fail
      go_meet
      exact ⟨rfl, rfl, HF.out⟩
    · as_aux_lemma =>
      go_simp
      refine hK.out _ _ ?_ (fun hHeld => ?_)
      · exact anyW _
      clear hK K
      try simp only [Act.put, List.setIfInBounds_toArray, List.set_cons_zero, List.set_cons_succ]
      refine wpAnyH_ready (rs := [0]) (by kernel_rfl) (by simp) ?_
      refine AllReadyH.cons (o := { dst := some 11, op := Go.Op.call { callee := Go.Callee.value (Go.Operand.func 27), args := #[], argTypes := #[] }, type := 65, pos := "sha256.go:21", after := #[], guard := none }) rfl (fun K hK => ?_) (AllReadyH.nil)
      go_simp
      refine (kind256_any wB.drew RO.out.root).mono ?_
      rintro e w2 ⟨rfl, hb2⟩
      go_simp
      have B2 := Lib.hid (show Below wB.heap.size wB w2 from ⟨hb2.os, hb2.tape, hb2.output, hb2.size, hb2.block⟩)
      clear hb2
      refine hK.out _ _ ?_ (fun hHeld => ?_)
      · exact anyW _
      clear hK K
      try simp only [Act.put, List.setIfInBounds_toArray, List.set_cons_zero, List.set_cons_succ]
      refine wpAnyH_ready (rs := [3]) (by kernel_rfl) (by simp) ?_
      refine AllReadyH.cons (o := { dst := some 14, op := Go.Op.call { callee := Go.Callee.value (Go.Operand.func 31), args := #[Go.Operand.tmp 13, Go.Operand.const (Go.Value.int Go.IntKind.i64 64), Go.Operand.const (Go.Value.int Go.IntKind.i64 8)], argTypes := #[30, 3, 3] }, type := 24, pos := "sha256.go:21", after := #[{ on := 2, ground := Go.Ground.data }, { on := 0, ground := Go.Ground.chain }], guard := none }) rfl (fun K hK => ?_) (AllReadyH.nil)
      go_simp
      refine (padding_any n z w2 (by have := HN.out; omega) HZ.out).mono ?_
      rintro e w3 ⟨gp, rfl, hrow3, hb3, hge⟩
      go_simp
      have BQ := Lib.hid (B2.out.trans (hb3.mono B2.out.size))
      have PROW := Lib.hid hrow3
      have GE := Lib.hid (Nat.le_trans B2.out.size hge)
      clear hb3 hrow3 hge
      refine hK.out _ _ ?_ (fun hHeld => ?_)
      · exact anyW _
      clear hK K
      try simp only [Act.put, List.setIfInBounds_toArray, List.set_cons_zero, List.set_cons_succ]
      refine wpAnyH_ready (rs := [4]) (by kernel_rfl) (by simp) ?_
      refine AllReadyH.cons (o := { dst := some 15, op := Go.Op.call { callee := Go.Callee.value (Go.Operand.func 26), args := #[Go.Operand.tmp 3, Go.Operand.tmp 11, Go.Operand.tmp 14], argTypes := #[32, 65, 24] }, type := 0, pos := "sha256.go:21", after := #[{ on := 0, ground := Go.Ground.data }, { on := 3, ground := Go.Ground.data }, { on := 3, ground := Go.Ground.chain }], guard := none }) rfl (fun K hK => ?_) (AllReadyH.nil)
      go_simp
      have SRC := pad_src PROW.out HZ.out (show B1 ≠ gp by have := GE.out; omega)
      refine (add_any B1 _ m (padB n) ws rest _ w3 HT.out HWS.out (RB2.out.below BQ.out hB1s) SRC (by rw [HPL.out]; have := HZ.out; omega) (RO.out.below BQ.out).cube (HROOTS.out.off (by rw [← HB0.out]; have := H10.out; omega)).cube).mono ?_
      rintro e w4 ⟨rfl, ws4, rest4, t4, l4, r4, tt4⟩
      go_simp
      refine hK.out _ _ ?_ (fun hHeld => ?_)
      · exact anyW _
      clear hK K
      try simp only [Act.put, List.setIfInBounds_toArray, List.set_cons_zero, List.set_cons_succ]
      refine wpAnyH_done (by kernel_rfl) ?_ _
      have hsum : SumIs w4 B1 32 (full m) := ⟨ws4, rest4, by unfold full; rw [← HN.out]; exact t4, l4, by unfold full; rw [← HN.out]; exact r4⟩
      have htt : Turns (· = B1) wB w4 := (Turns.of_below (S := (· = B1)) BQ.out).trans tt4 (fun _ _ h => h)
      have hra : IRow w4 B0 41 .u8 (List.replicate 32 0) := RA2.out.turns htt (by have := H10.out; omega)
      have hb0 : Below B0 W0 w4 := BA2.out.trans (htt.below_of (by have := H10.out; omega) (by intro i hi h; have := H10.out; omega))
      have hlt : B1 < w4.heap.size := Nat.lt_of_lt_of_le hB1s htt.size
      have HF := Lib.hid (⟨hsum, hra, hb0, hlt⟩ : SumIs w4 B1 32 (full m) ∧ IRow w4 B0 41 .u8 (List.replicate 32 0) ∧ Below B0 W0 w4 ∧ B1 < w4.heap.size)
      clear hsum htt hra hb0 hlt t4 l4 r4 tt4
      go_wp2_with fail
      go_meet
      exact ⟨rfl, rfl, HF.out⟩
  case rest =>
    obtain ⟨rfl, rfl, ⟨ws4, rest4, t4, l4, r4⟩, rA4, bA4, hlt4⟩ := hcut
    have hfull : full m ≠ [] := by unfold full padB; simp
    have hw4 := t4.words hfull
    obtain ⟨s, hs⟩ : ∃ s, s = blocks256 (full m) ((full m).length / 64) := ⟨_, rfl⟩
    have hsha : sha256 m = outB s.list := by rw [hs]; rfl
    have hok : s.Ok := by rw [hs]; exact blocks256_ok _ _
    rw [← hs] at hw4
    subst hw4
    have rC := IRow.new wc 41 .u8 (List.replicate 32 0)
    have bC : Below wc.heap.size wc (wc.alloc (.cells ((List.replicate 32 (0 : Int)).map (Value.int .u8)).toArray 41)) := (Below.refl _ wc).alloc (Nat.le_refl _) _
    have rA5 := rA4.below bC rA4.lt
    have bA5 := bA4.trans (bC.mono bA4.size |>.mono (by have := HB0.out; omega))
    have r5 := r4.below bC r4.lt
    have RA5 := Lib.hid rA5
    have BA5 := Lib.hid bA5
    have RC := Lib.hid rC
    have HRA := Lib.hid (show (wc.alloc (.cells ((List.replicate 32 (0 : Int)).map (Value.int .u8)).toArray 41)).rangeAt B1 0 [.int .u32 s.a, .int .u32 s.b, .int .u32 s.c, .int .u32 s.d, .int .u32 s.e, .int .u32 s.f, .int .u32 s.g, .int .u32 s.h] from r5.range (by
      intro j x hx
      rw [Nat.zero_add]
      have hx2 : (s.list.map (Value.int .u32))[j]? = some x := hx
      rw [List.getElem?_map] at hx2
      cases hy : s.list[j]? with
      | none => rw [hy] at hx2; exact absurd hx2 (by simp)
      | some y =>
        rw [hy] at hx2
        obtain rfl : Value.int .u32 y = x := Option.some.inj hx2
        exact inRow_word _ hy))
    have HSHA := Lib.hid hsha
    have HOK := Lib.hid hok
    obtain ⟨B2, hB2⟩ : ∃ B2, B2 = wc.heap.size := ⟨_, rfl⟩
    have h20 : B0 < B2 := by have := rA4.lt; omega
    have HB2 := Lib.hid hB2
    clear t4 l4 r4 rA4 bA4 hfull hs hsha hok rC bC rA5 bA5 r5 hB2
    go_wp2_with (refine wpList_load_mid rfl 28 (.tmp 16) rfl B1 0 rfl [.int .u32 s.a, .int .u32 s.b, .int .u32 s.c, .int .u32 s.d, .int .u32 s.e, .int .u32 s.f, .int .u32 s.g, .int .u32 s.h] _ HRA.out Tryd.underlying28 rfl info_8 ?_)
    rw [← HB2.out] at RC ⊢
    go_loopw [18] (fun j wr => ∃ i : Nat, i ≤ 8 ∧ j = .int .i64 i ∧ IRow wr B2 41 .u8 (padZ 32 (nums (outB (s.list.take i)))) ∧ IRow wr B0 41 .u8 (List.replicate 32 0) ∧ Below B0 W0 wr) (fun j _ => 8 - (intOf j).toNat)
    case atStart => exact ⟨0, by omega, rfl, RC.out, RA5.out, BA5.out⟩
    case round =>
      obtain ⟨i, hi, rfl, hrow, hres, hbel⟩ := hrel
      by_cases h8 : i < 8
      · obtain ⟨x, hx, hix⟩ := idx8 s.a s.b s.c s.d s.e s.f s.g s.h h8
        obtain ⟨p, hp⟩ : ∃ p, p = 4 * i := ⟨_, rfl⟩
        have ep : 4 * (i : Int) = (p : Int) := by omega
        have hp28 : p ≤ 28 := by omega
        have i1 : (p : Int) ≤ 32 := by omega
        have i2 : ¬ 32 = p := by omega
        have b8 : (i : Int) < 8 := by omega
        have htl : (s.list.take i).length = i := by rw [List.length_take]; have : s.list.length = 8 := rfl; omega
        have hol : (nums (outB (s.list.take i))).length = 4 * i := by rw [nums_length, outB_length, htl]
        have C := Lib.hid (put32_any B2 p (32 - p) (32 - p) _ _ x wr hrow (by omega) (by rw [padZ_length (by omega)]; omega))
        have hxu : U32 x := S8.mem_ok HOK.out (List.mem_of_getElem? hx)
        have hnext := put4_next (m := 32) (ws := s.list.take i) (x := x) hxu (by rw [outB_length, htl]; omega)
        rw [htl, ← hp] at hnext
        have htk : s.list.take i ++ [x] = s.list.take (i + 1) := by
          rw [List.take_add_one]
          have : s.list[i]? = some x := hx
          rw [this]
          rfl
        rw [htk] at hnext
        have HNEXT := Lib.hid hnext
        have HRES := Lib.hid hres
        have HBEL := Lib.hid hbel
        clear hx hp htl hol hnext htk hrow hres hbel
        go_wp2_with fail
        refine C.out.mono ?_
        rintro e w5 ⟨rfl, hr5, hb5⟩
        rw [HNEXT.out] at hr5
        have R5 := Lib.hid hr5
        have Q5 := Lib.hid (hb5 B2 (Nat.le_refl _))
        clear hr5 hb5
        go_wp2_with fail
        exact ⟨⟨i + 1, by omega, by go_num, R5.out, HRES.out.below Q5.out h20, HBEL.out.trans (Q5.out.mono (by omega))⟩, by simp [intOf]; omega⟩
      · obtain rfl : i = 8 := by omega
        have h8' : ((8 : Nat) : Int) = 8 := rfl
        rw [h8']
        have e8 : padZ 32 (nums (outB (s.list.take 8))) = nums (sha256 m) := by
          have e : s.list.take 8 = s.list := rfl
          rw [e, ← HSHA.out]
          exact padZ_full (by rw [nums_length, sha256_length])
        rw [e8] at hrow
        have hsz : (nums (sha256 m)).length = 32 := by rw [nums_length, sha256_length]
        have HI := Lib.hid (show (Tryd.prog.info? 41).map (·.size) = some (nums (sha256 m)).length by rw [hsz]; exact info_h)
        have HL := Lib.hid (show (List.replicate 32 (0 : Int)).length = (nums (sha256 m)).length by rw [hsz]; rfl)
        have HRW := Lib.hid hrow
        have HRS := Lib.hid hres
        have HFIN := Lib.hid (setRow_irow (ys := nums (sha256 m)) hres)
        have HBF := Lib.hid (below_setRow hbel (Nat.le_refl _) ((nums (sha256 m)).map (Value.int .u8)).toArray)
        clear h8' e8 hrow hres hbel hi h8 hsz
        go_wp2_with (first
          | (refine wpList_load_irow rfl 41 (.tmp 4) rfl (g := B2) (t := 41) (k := .u8) (xs := nums (sha256 m)) rfl HRW.out Tryd.underlying41 HI.out ?_)
          | (refine wpList_store_irow rfl 41 (.tmp 2) (.tmp 28) rfl (g := B0) (t := 41) (k := .u8) (xs := List.replicate 32 0) (ys := nums (sha256 m)) rfl rfl HRS.out HI.out HL.out ?_))
        refine bodyPost_ret (v := digV (sha256 m)) ?_ rfl ⟨rfl, by rw [← HB0.out]; exact HBF.out⟩
        obtain ⟨fr, hrw⟩ : ∃ fr, ((wr.setRow B0 ((nums (sha256 m)).map (Value.int .u8)).toArray)).heap[B0]? = some (.cells ((nums (sha256 m)).map (Value.int .u8)).toArray 41 fr) := ⟨_, HFIN.out⟩
        exact results_cell_row Tryd.results12 _ _ B0 41 ((nums (sha256 m)).map (Value.int .u8)).toArray fr _ rfl hrw Tryd.underlying41 rfl (by rw [List.size_toArray, List.length_map]; exact HI.out)
end Go.Proofs.YtjdicifickjggaaDoor

/-
  hash.Sum256, Double and Sum.Twice. Conditions: the size stays below 2^59; the roots are laid.
-/
namespace Go.Proofs.YtjdicifickjggaaDoor
open Go.RowKit

theorem sum_zero (w : World) (t : TypeId) : SumIs (w.alloc (.cells zIn.toArray t)) w.heap.size t [] :=
  ⟨_, _, Took.zero, by rw [List.length_replicate], VRow.new w t zIn⟩
set_option maxRecDepth 100000 in
set_option maxHeartbeats 3200000 in
theorem sum256_any (B : Nat) (v : Value) (b : List UInt8) (W0 : World) (hb : Byt W0 B v b) (hB : B ≤ W0.heap.size) (hlen : b.length < 576460752303423488) (hroots : Roots W0) :
    Calls Tryd.prog 9 #[v] W0 fun e w' => e = .returned (digV (sha256 b)) ∧ Below W0.heap.size W0 w' := by
  obtain ⟨A, c, rfl⟩ := hb.form
  have rA := IRow.new W0 41 .u8 (List.replicate 32 0)
  have bA : Below W0.heap.size W0 (W0.alloc (.cells ((List.replicate 32 (0 : Int)).map (Value.int .u8)).toArray 41)) := (Below.refl _ W0).alloc (Nat.le_refl _) _
  have sA : (W0.alloc (.cells ((List.replicate 32 (0 : Int)).map (Value.int .u8)).toArray 41)).heap.size = W0.heap.size + 1 := by simp
  have HB := Lib.hid hb
  have HR := Lib.hid hroots
  clear hb hroots
  have hzs := zero_sum
  go_enter Tryd.func9, Tryd.ntmps9
  go_upto_region 1 with fail
  change Code.wp _ _ _ _ (W0.alloc (.cells ((List.replicate 32 (0 : Int)).map (Value.int .u8)).toArray 41))
  obtain ⟨wA, hwA⟩ : ∃ x, x = W0.alloc (.cells ((List.replicate 32 (0 : Int)).map (Value.int .u8)).toArray 41) := ⟨_, rfl⟩
  rw [← hwA] at rA bA sA ⊢
  have sm := sum_zero wA 34
  have bB : Below wA.heap.size wA (wA.alloc (.cells zIn.toArray 34)) := (Below.refl _ wA).alloc (Nat.le_refl _) _
  have sB : (wA.alloc (.cells zIn.toArray 34)).heap.size = wA.heap.size + 1 := by simp
  have SA := Lib.hid sA
  clear hwA sA
  go_upto_region 2 with fail
  change Code.wp _ _ _ _ (wA.alloc (.cells zIn.toArray 34))
  obtain ⟨wB, hwB⟩ : ∃ x, x = wA.alloc (.cells zIn.toArray 34) := ⟨_, rfl⟩
  rw [← hwB] at sm bB sB ⊢
  obtain ⟨B0, hB0⟩ : ∃ B0, B0 = W0.heap.size := ⟨_, rfl⟩
  obtain ⟨B1, hB1⟩ : ∃ B1, B1 = wA.heap.size := ⟨_, rfl⟩
  rw [← hB1] at sm bB sB ⊢
  rw [← hB0] at rA bA ⊢
  have h10 : B1 = B0 + 1 := by have := SA.out; omega
  have rA2 := rA.below bB (by omega)
  have b2 := bA.trans (bB.mono (by omega : B0 ≤ B1))
  have src : Src wB B1 (.slice A b.length c) b := Src.of_byt (HB.out.below (b2.mono (by omega : B ≤ B0))) (by have := b2.size; omega) (by omega)
  have ro : Roots wB := HR.out.below (by rw [← hB0]; exact b2)
  have C1 := Lib.hid (sumAdd_any B1 _ [] b _ wB sm src (by simp; omega) ro (HR.out.off (by omega)))
  have RA := Lib.hid rA2
  have B2 := Lib.hid b2
  have RO := Lib.hid ro
  have H10 := Lib.hid h10
  have HB0 := Lib.hid hB0
  have HOFF := Lib.hid (HR.out.off (g := B1) (by omega))
  clear hwB sm bB sB hB0 hB1 rA rA2 bA b2 src ro h10
  go_wp2_with fail
  refine C1.out.mono ?_
  rintro e w3 ⟨rfl, hsum, htt⟩
  rw [List.nil_append] at hsum
  have C2 := Lib.hid (sumHash_any B1 _ b w3 hsum hlen (RO.out.turns htt HOFF.out))
  have ra3 := RA.out.turns htt (by have := H10.out; omega)
  have b3 := B2.out.trans (htt.below_of (B := B0) (by have := B2.out.size; have := HB0.out; omega) (by intro i hi h; have := H10.out; omega))
  have RA3 := Lib.hid ra3
  have B3 := Lib.hid b3
  clear hsum htt ra3 b3
  go_wp2_with fail
  refine C2.out.mono ?_
  rintro e w4 ⟨rfl, hb4⟩
  have hsz : (nums (sha256 b)).length = 32 := by rw [nums_length, sha256_length]
  have HI := Lib.hid (show (Tryd.prog.info? 41).map (·.size) = some (nums (sha256 b)).length by rw [hsz]; exact info_h)
  have HL := Lib.hid (show (List.replicate 32 (0 : Int)).length = (nums (sha256 b)).length by rw [hsz]; rfl)
  have ra4 := RA3.out.below hb4 RA3.out.lt
  have b4 := B3.out.trans (hb4.mono (by have := B3.out.size; have := HB0.out; omega))
  have HFIN := Lib.hid (setRow_irow (ys := nums (sha256 b)) ra4)
  have HBF := Lib.hid (below_setRow b4 (Nat.le_refl _) ((nums (sha256 b)).map (Value.int .u8)).toArray)
  have RA4 := Lib.hid ra4
  clear ra4 b4 hb4 hsz
  unfold digV
  go_wp2_with (refine wpList_store_irow rfl 41 (.tmp 2) (.tmp 6) rfl (g := B0) (t := 41) (k := .u8) (xs := List.replicate 32 0) (ys := nums (sha256 b)) rfl rfl RA4.out HI.out HL.out ?_)
  refine bodyPost_ret (v := digV (sha256 b)) ?_ rfl ⟨rfl, by rw [← HB0.out]; exact HBF.out⟩
  obtain ⟨fr, hrw⟩ : ∃ fr, ((w4.setRow B0 ((nums (sha256 b)).map (Value.int .u8)).toArray)).heap[B0]? = some (.cells ((nums (sha256 b)).map (Value.int .u8)).toArray 41 fr) := ⟨_, HFIN.out⟩
  exact results_cell_row Tryd.results9 _ _ B0 41 ((nums (sha256 b)).map (Value.int .u8)).toArray fr _ rfl hrw Tryd.underlying41 rfl (by rw [List.size_toArray, List.length_map]; exact HI.out)
end Go.Proofs.YtjdicifickjggaaDoor

/-
  hash.Double and Sum.Twice, walked. Conditions: the size stays below 2^59; the roots are laid.
-/
namespace Go.Proofs.YtjdicifickjggaaDoor
open Go.RowKit

theorem IRow.bytes {w : World} {g : Nat} {t : TypeId} {bs : List UInt8} (h : IRow w g t .u8 (nums bs)) (hl : bs.length ≤ maxLen) : Byt w (g + 1) (.slice (some ⟨g, 0, none⟩) bs.length bs.length) bs :=
  ⟨_, _, rfl, Nat.le_refl _, hl, (by intro h; cases h), fun _ => ⟨g, 0, rfl, Nat.lt_succ_self _, fun j u hu => by
    rw [Nat.zero_add]
    exact h.cell (by unfold nums; rw [List.getElem?_map, hu]; rfl)⟩⟩

set_option maxRecDepth 100000 in
set_option maxHeartbeats 3200000 in
theorem double_any (B : Nat) (v : Value) (b : List UInt8) (W0 : World) (hb : Byt W0 B v b) (hB : B ≤ W0.heap.size) (hlen : b.length < 576460752303423488) (hroots : Roots W0) :
    Calls Tryd.prog 14 #[v] W0 fun e w' => e = .returned (digV (sha256 (sha256 b))) ∧ Below W0.heap.size W0 w' := by
  obtain ⟨A, c, rfl⟩ := hb.form
  have HB := Lib.hid hb
  clear hb
  have rA := IRow.new W0 41 .u8 (List.replicate 32 0)
  have bA : Below W0.heap.size W0 (W0.alloc (.cells ((List.replicate 32 (0 : Int)).map (Value.int .u8)).toArray 41)) := (Below.refl _ W0).alloc (Nat.le_refl _) _
  have HR := Lib.hid hroots
  clear hroots
  go_enter Tryd.func14, Tryd.ntmps14
  go_upto_region 1 with fail
  change Code.wp _ _ _ _ (W0.alloc (.cells ((List.replicate 32 (0 : Int)).map (Value.int .u8)).toArray 41))
  obtain ⟨wA, hwA⟩ : ∃ x, x = W0.alloc (.cells ((List.replicate 32 (0 : Int)).map (Value.int .u8)).toArray 41) := ⟨_, rfl⟩
  rw [← hwA] at rA bA ⊢
  obtain ⟨B0, hB0⟩ : ∃ B0, B0 = W0.heap.size := ⟨_, rfl⟩
  rw [← hB0] at rA bA ⊢
  have C1 := Lib.hid (sum256_any B _ b wA (HB.out.below (bA.mono (by omega))) (by have := bA.size; omega) hlen (HR.out.below (by rw [← hB0]; exact bA)))
  have RA := Lib.hid rA
  have BA := Lib.hid bA
  have HB0 := Lib.hid hB0
  have RO := Lib.hid (HR.out.below (show Below W0.heap.size W0 wA by rw [← hB0]; exact bA))
  clear hwA rA bA hB0
  go_wp2_with fail
  refine C1.out.mono ?_
  rintro e w2 ⟨rfl, hb2⟩
  have hsz : (nums (sha256 b)).length = 32 := by rw [nums_length, sha256_length]
  have HI := Lib.hid (show (Tryd.prog.info? 41).map (·.size) = some (nums (sha256 b)).length by rw [hsz]; exact info_h)
  have HL := Lib.hid (show (List.replicate 32 (0 : Int)).length = (nums (sha256 b)).length by rw [hsz]; rfl)
  have rA2 := RA.out.below hb2 RA.out.lt
  have bA2 := BA.out.trans (hb2.mono (by have := BA.out.size; have := HB0.out; omega))
  have rO := RO.out.below hb2
  have rC := IRow.new w2 41 .u8 (List.replicate 32 0)
  have rC2 := setRow_irow (ys := nums (sha256 b)) rC
  have bC : Below w2.heap.size w2 ((w2.alloc (.cells ((List.replicate 32 (0 : Int)).map (Value.int .u8)).toArray 41)).setRow w2.heap.size ((nums (sha256 b)).map (Value.int .u8)).toArray) := below_setRow ((Below.refl _ w2).alloc (Nat.le_refl _) _) (Nat.le_refl _) _
  have RA2 := Lib.hid rA2
  have BA2 := Lib.hid bA2
  have RO2 := Lib.hid rO
  have RC := Lib.hid rC
  have RC2 := Lib.hid rC2
  have BC := Lib.hid bC
  clear hb2 rA2 bA2 rO rC rC2 bC hsz
  unfold digV
  go_upto_region 2 with (refine wpList_store_irow rfl 41 (.tmp 3) (.tmp 5) rfl (g := w2.heap.size) (t := 41) (k := .u8) (xs := List.replicate 32 0) (ys := nums (sha256 b)) rfl rfl RC.out HI.out HL.out ?_)
  change Code.wp _ _ _ _ ((w2.alloc (.cells ((List.replicate 32 (0 : Int)).map (Value.int .u8)).toArray 41)).setRow w2.heap.size ((nums (sha256 b)).map (Value.int .u8)).toArray)
  obtain ⟨w3, hw3⟩ : ∃ x, x = (w2.alloc (.cells ((List.replicate 32 (0 : Int)).map (Value.int .u8)).toArray 41)).setRow w2.heap.size ((nums (sha256 b)).map (Value.int .u8)).toArray := ⟨_, rfl⟩
  rw [← hw3]
  have rC3 : IRow w3 w2.heap.size 41 .u8 (nums (sha256 b)) := by rw [hw3]; exact RC2.out
  have bC3 : Below w2.heap.size w2 w3 := by rw [hw3]; exact BC.out
  have rA3 := RA2.out.below bC3 RA2.out.lt
  have bA3 := BA2.out.trans (bC3.mono (by have := BA2.out.size; have := HB0.out; omega))
  have ro3 := RO2.out.below bC3
  have hby := rC3.bytes (by rw [sha256_length]; unfold maxLen; omega)
  rw [sha256_length] at hby
  have C2 := Lib.hid (sum256_any _ _ _ w3 hby (by have := rC3.lt; omega) (by rw [sha256_length]; omega) ro3)
  have RA3 := Lib.hid rA3
  have BA3 := Lib.hid bA3
  clear hw3 rC3 bC3 rA3 bA3 ro3 hby RA2 BA2 RO2 RC RC2 BC HI HL
  dsimp only [Act.put]
  go_wp2_with fail
  refine C2.out.mono ?_
  rintro e w4 ⟨rfl, hb4⟩
  have hsz : (nums (sha256 (sha256 b))).length = 32 := by rw [nums_length, sha256_length]
  have HI := Lib.hid (show (Tryd.prog.info? 41).map (·.size) = some (nums (sha256 (sha256 b))).length by rw [hsz]; exact info_h)
  have HL := Lib.hid (show (List.replicate 32 (0 : Int)).length = (nums (sha256 (sha256 b))).length by rw [hsz]; rfl)
  have ra4 := RA3.out.below hb4 RA3.out.lt
  have b4 := BA3.out.trans (hb4.mono (by have := BA3.out.size; have := HB0.out; omega))
  have HFIN := Lib.hid (setRow_irow (ys := nums (sha256 (sha256 b))) ra4)
  have HBF := Lib.hid (below_setRow b4 (Nat.le_refl _) ((nums (sha256 (sha256 b))).map (Value.int .u8)).toArray)
  have RA4 := Lib.hid ra4
  clear ra4 b4 hb4 hsz
  unfold digV
  go_wp2_with (refine wpList_store_irow rfl 41 (.tmp 2) (.tmp 7) rfl (g := B0) (t := 41) (k := .u8) (xs := List.replicate 32 0) (ys := nums (sha256 (sha256 b))) rfl rfl RA4.out HI.out HL.out ?_)
  refine bodyPost_ret (v := digV (sha256 (sha256 b))) ?_ rfl ⟨rfl, by rw [← HB0.out]; exact HBF.out⟩
  obtain ⟨fr, hrw⟩ : ∃ fr, ((w4.setRow B0 ((nums (sha256 (sha256 b))).map (Value.int .u8)).toArray)).heap[B0]? = some (.cells ((nums (sha256 (sha256 b))).map (Value.int .u8)).toArray 41 fr) := ⟨_, HFIN.out⟩
  exact results_cell_row Tryd.results14 _ _ B0 41 ((nums (sha256 (sha256 b))).map (Value.int .u8)).toArray fr _ rfl hrw Tryd.underlying41 rfl (by rw [List.size_toArray, List.length_map]; exact HI.out)

set_option maxRecDepth 100000 in
set_option maxHeartbeats 3200000 in
theorem twice_any (g : Nat) (t : TypeId) (b : List UInt8) (W0 : World) (hsum : SumIs W0 g t b) (hlen : b.length < 576460752303423488) (hroots : Roots W0) :
    Calls Tryd.prog 13 #[.pointer (some ⟨g, 0, none⟩)] W0 fun e w' => e = .returned (digV (sha256 (sha256 b))) ∧ Below W0.heap.size W0 w' := by
  have HB := Lib.hid hsum
  clear hsum
  have rA := IRow.new W0 41 .u8 (List.replicate 32 0)
  have bA : Below W0.heap.size W0 (W0.alloc (.cells ((List.replicate 32 (0 : Int)).map (Value.int .u8)).toArray 41)) := (Below.refl _ W0).alloc (Nat.le_refl _) _
  have HR := Lib.hid hroots
  clear hroots
  go_enter Tryd.func13, Tryd.ntmps13
  go_upto_region 1 with fail
  change Code.wp _ _ _ _ (W0.alloc (.cells ((List.replicate 32 (0 : Int)).map (Value.int .u8)).toArray 41))
  obtain ⟨wA, hwA⟩ : ∃ x, x = W0.alloc (.cells ((List.replicate 32 (0 : Int)).map (Value.int .u8)).toArray 41) := ⟨_, rfl⟩
  rw [← hwA] at rA bA ⊢
  obtain ⟨B0, hB0⟩ : ∃ B0, B0 = W0.heap.size := ⟨_, rfl⟩
  rw [← hB0] at rA bA ⊢
  have C1 := Lib.hid (sumHash_any g t b wA (HB.out.below (by rw [← hB0]; exact bA)) hlen (HR.out.below (by rw [← hB0]; exact bA)))
  have RA := Lib.hid rA
  have BA := Lib.hid bA
  have HB0 := Lib.hid hB0
  have RO := Lib.hid (HR.out.below (show Below W0.heap.size W0 wA by rw [← hB0]; exact bA))
  clear hwA rA bA hB0
  go_wp2_with fail
  refine C1.out.mono ?_
  rintro e w2 ⟨rfl, hb2⟩
  have hsz : (nums (sha256 b)).length = 32 := by rw [nums_length, sha256_length]
  have HI := Lib.hid (show (Tryd.prog.info? 41).map (·.size) = some (nums (sha256 b)).length by rw [hsz]; exact info_h)
  have HL := Lib.hid (show (List.replicate 32 (0 : Int)).length = (nums (sha256 b)).length by rw [hsz]; rfl)
  have rA2 := RA.out.below hb2 RA.out.lt
  have bA2 := BA.out.trans (hb2.mono (by have := BA.out.size; have := HB0.out; omega))
  have rO := RO.out.below hb2
  have rC := IRow.new w2 41 .u8 (List.replicate 32 0)
  have rC2 := setRow_irow (ys := nums (sha256 b)) rC
  have bC : Below w2.heap.size w2 ((w2.alloc (.cells ((List.replicate 32 (0 : Int)).map (Value.int .u8)).toArray 41)).setRow w2.heap.size ((nums (sha256 b)).map (Value.int .u8)).toArray) := below_setRow ((Below.refl _ w2).alloc (Nat.le_refl _) _) (Nat.le_refl _) _
  have RA2 := Lib.hid rA2
  have BA2 := Lib.hid bA2
  have RO2 := Lib.hid rO
  have RC := Lib.hid rC
  have RC2 := Lib.hid rC2
  have BC := Lib.hid bC
  clear hb2 rA2 bA2 rO rC rC2 bC hsz
  unfold digV
  go_upto_region 2 with (refine wpList_store_irow rfl 41 (.tmp 3) (.tmp 5) rfl (g := w2.heap.size) (t := 41) (k := .u8) (xs := List.replicate 32 0) (ys := nums (sha256 b)) rfl rfl RC.out HI.out HL.out ?_)
  change Code.wp _ _ _ _ ((w2.alloc (.cells ((List.replicate 32 (0 : Int)).map (Value.int .u8)).toArray 41)).setRow w2.heap.size ((nums (sha256 b)).map (Value.int .u8)).toArray)
  obtain ⟨w3, hw3⟩ : ∃ x, x = (w2.alloc (.cells ((List.replicate 32 (0 : Int)).map (Value.int .u8)).toArray 41)).setRow w2.heap.size ((nums (sha256 b)).map (Value.int .u8)).toArray := ⟨_, rfl⟩
  rw [← hw3]
  have rC3 : IRow w3 w2.heap.size 41 .u8 (nums (sha256 b)) := by rw [hw3]; exact RC2.out
  have bC3 : Below w2.heap.size w2 w3 := by rw [hw3]; exact BC.out
  have rA3 := RA2.out.below bC3 RA2.out.lt
  have bA3 := BA2.out.trans (bC3.mono (by have := BA2.out.size; have := HB0.out; omega))
  have ro3 := RO2.out.below bC3
  have hby := rC3.bytes (by rw [sha256_length]; unfold maxLen; omega)
  rw [sha256_length] at hby
  have C2 := Lib.hid (sum256_any _ _ _ w3 hby (by have := rC3.lt; omega) (by rw [sha256_length]; omega) ro3)
  have RA3 := Lib.hid rA3
  have BA3 := Lib.hid bA3
  clear hw3 rC3 bC3 rA3 bA3 ro3 hby RA2 BA2 RO2 RC RC2 BC HI HL
  dsimp only [Act.put]
  go_wp2_with fail
  refine C2.out.mono ?_
  rintro e w4 ⟨rfl, hb4⟩
  have hsz : (nums (sha256 (sha256 b))).length = 32 := by rw [nums_length, sha256_length]
  have HI := Lib.hid (show (Tryd.prog.info? 41).map (·.size) = some (nums (sha256 (sha256 b))).length by rw [hsz]; exact info_h)
  have HL := Lib.hid (show (List.replicate 32 (0 : Int)).length = (nums (sha256 (sha256 b))).length by rw [hsz]; rfl)
  have ra4 := RA3.out.below hb4 RA3.out.lt
  have b4 := BA3.out.trans (hb4.mono (by have := BA3.out.size; have := HB0.out; omega))
  have HFIN := Lib.hid (setRow_irow (ys := nums (sha256 (sha256 b))) ra4)
  have HBF := Lib.hid (below_setRow b4 (Nat.le_refl _) ((nums (sha256 (sha256 b))).map (Value.int .u8)).toArray)
  have RA4 := Lib.hid ra4
  clear ra4 b4 hb4 hsz
  unfold digV
  go_wp2_with (refine wpList_store_irow rfl 41 (.tmp 2) (.tmp 7) rfl (g := B0) (t := 41) (k := .u8) (xs := List.replicate 32 0) (ys := nums (sha256 (sha256 b))) rfl rfl RA4.out HI.out HL.out ?_)
  refine bodyPost_ret (v := digV (sha256 (sha256 b))) ?_ rfl ⟨rfl, by rw [← HB0.out]; exact HBF.out⟩
  obtain ⟨fr, hrw⟩ : ∃ fr, ((w4.setRow B0 ((nums (sha256 (sha256 b))).map (Value.int .u8)).toArray)).heap[B0]? = some (.cells ((nums (sha256 (sha256 b))).map (Value.int .u8)).toArray 41 fr) := ⟨_, HFIN.out⟩
  exact results_cell_row Tryd.results13 _ _ B0 41 ((nums (sha256 (sha256 b))).map (Value.int .u8)).toArray fr _ rfl hrw Tryd.underlying41 rfl (by rw [List.size_toArray, List.length_map]; exact HI.out)
end Go.Proofs.YtjdicifickjggaaDoor

/-
  hash.FromText: 64 digits, two for each byte, from the last. Conditions: sizes within the reach.
-/
namespace Go.Proofs.YtjdicifickjggaaDoor
open Go.RowKit

set_option maxRecDepth 100000 in
set_option maxHeartbeats 800000 in
theorem slite_any (s : ByteArray) (c : Int) (w : World) :
    Calls Tryd.prog 44 #[.string s, .int .u8 c] w fun e w' => e = .returned (.int .i64 (Lib.indexByte s.data.toList c.toNat.toUInt8)) ∧ w = w' := by
  go_enter Tryd.func44, Tryd.ntmps44
  go_wp2
  rw [run_callFunc_extern Tryd.func53 (by kernel_rfl) (by kernel_rfl) (by kernel_rfl) (e := Extern.BytealgIndexByte.indexByte) (by kernel_rfl), Lib.run_indexByteString]
  simp only [Result.andThen]
  rw [Oper.upon_value]
  go_wp2
  go_ret
  exact ⟨rfl, rfl⟩

set_option maxRecDepth 100000 in
set_option maxHeartbeats 800000 in
theorem sbyte_any (s : ByteArray) (c : Int) (w : World) :
    Calls Tryd.prog 33 #[.string s, .int .u8 c] w fun e w' => e = .returned (.int .i64 (Lib.indexByte s.data.toList c.toNat.toUInt8)) ∧ w = w' := by
  have C := Lib.hid (slite_any s c)
  go_enter Tryd.func33, Tryd.ntmps33
  go_wp2_with fail
  refine (C.out _).mono ?_
  rintro e w' ⟨rfl, rfl⟩
  go_wp2
  go_ret
  exact ⟨rfl, rfl⟩


theorem u8_back (c : UInt8) : ((c.toNat : Int)).toNat.toUInt8 = c := by simp
theorem results_row_tmp {P : Program} {fn : Func} {p u : Tmp} {ty : TypeId} (h : fn.results = #[.cell p ty, .tmp u]) (tmps : Array Value) (w : World) (g : Nat) (t : TypeId) (cs : Array Value) (fr : Nat × Nat) (d : TypeDesc) (x : Value)
    (hp : tmps.getD p undef = .pointer (some ⟨g, 0, none⟩)) (hx : tmps.getD u undef = x) (hg : w.heap[g]? = some (.cells cs t fr))
    (hu : P.underlying ty = some d) (hd : (match d with | .struct _ | .array _ _ => true | _ => false) = true) (hi : (P.info? ty).map (·.size) = some cs.size) :
    (results fn tmps).run P w = .ok (.tuple #[.agg cs, x]) w := by
  have hp' : tmps[p]?.getD undef = .pointer (some ⟨g, 0, none⟩) := by simpa using hp
  have hx' : tmps[u]?.getD undef = x := by simpa using hx
  simp [results, h, hp', hx', asAddr, run_loadVar_row w g t ty cs fr d hg hu hd hi]

/-- The value of a digit; below 0: none. -/
def digs : ByteArray := ⟨#[48, 49, 50, 51, 52, 53, 54, 55, 56, 57, 97, 98, 99, 100, 101, 102]⟩
def posH (c : UInt8) : Int := Lib.indexByte digs.data.toList c
def posV (c : UInt8) : Int := if 48 ≤ c.toNat ∧ c.toNat ≤ 57 then (c.toNat : Int) - 48 else if 97 ≤ c.toNat ∧ c.toNat ≤ 102 then (c.toNat : Int) - 87 else -1
theorem posH_all : ∀ n : Fin 256, posH (UInt8.ofNat n.val) = posV (UInt8.ofNat n.val) := by decide +kernel
theorem posH_eq (c : UInt8) : posH c = posV c := by
  have h := posH_all ⟨c.toNat, c.toNat_lt⟩
  simpa using h
theorem posH_lt (c : UInt8) : posH c < 16 ∧ -1 ≤ posH c := by
  rw [posH_eq]; unfold posV
  split
  · omega
  · split <;> omega
/-- Two digits a byte. -/
def decH : List UInt8 → List UInt8
  | a :: b :: r => b8 (posH a * 16 + posH b) :: decH r
  | _ => []
def fromB (cs : List UInt8) : List UInt8 := (decH cs).reverse
def GoodT (cs : List UInt8) : Prop := cs.length = 64 ∧ ∀ c ∈ cs, 0 ≤ posH c
theorem decH_length : ∀ (n : Nat) (cs : List UInt8), cs.length = 2 * n → (decH cs).length = n
  | 0, cs, h => by
    have : cs = [] := List.eq_nil_of_length_eq_zero (by omega)
    subst this
    rfl
  | n + 1, a :: b :: r, h => by
    rw [decH, List.length_cons, decH_length n r (by simp only [List.length_cons] at h; omega)]
  | n + 1, [a], h => by simp at h; omega
  | n + 1, [], h => by simp at h
theorem decH_snoc : ∀ (n : Nat) (cs : List UInt8) (a b : UInt8), cs.length = 2 * n → decH (cs ++ [a, b]) = decH cs ++ [b8 (posH a * 16 + posH b)]
  | 0, cs, a, b, h => by
    have : cs = [] := List.eq_nil_of_length_eq_zero (by omega)
    subst this
    rfl
  | n + 1, x :: y :: r, a, b, h => by
    have ih := decH_snoc n r a b (by simp only [List.length_cons] at h; omega)
    show _ :: decH (r ++ [a, b]) = _ :: decH r ++ _
    rw [ih]
    rfl
  | n + 1, [x], _, _, h => by simp at h; omega
  | n + 1, [], _, _, h => by simp at h
theorem dig_posV (v : Nat) (h : v < 16) : posH (b8 (digN v : Nat)) = v := by
  have h2 : ∀ n : Fin 16, posH (b8 (digN n.val : Nat)) = n.val := by decide +kernel
  exact h2 ⟨v, h⟩
theorem posV_dig (c : UInt8) (h : 0 ≤ posH c) : b8 (digN (posH c).toNat : Nat) = c := by
  have h2 : ∀ n : Fin 256, 0 ≤ posH (UInt8.ofNat n.val) → b8 (digN (posH (UInt8.ofNat n.val)).toNat : Nat) = UInt8.ofNat n.val := by decide +kernel
  have h3 := h2 ⟨c.toNat, c.toNat_lt⟩
  simp only [UInt8.ofNat_toNat] at h3
  exact h3 h
theorem dec_hexL (q : UInt8) : b8 (posH (b8 (digN (q.toNat / 16) : Nat)) * 16 + posH (b8 (digN (q.toNat % 16) : Nat))) = q := by
  have hq := q.toNat_lt
  rw [dig_posV _ (by omega), dig_posV _ (by omega)]
  apply UInt8.toNat_inj.1
  have := b8_toNat (((q.toNat / 16 : Nat) : Int) * 16 + ((q.toNat % 16 : Nat) : Int))
  omega
theorem decH_hex : ∀ l : List UInt8, decH (l.flatMap hexL) = l
  | [] => rfl
  | q :: l => by
    rw [List.flatMap_cons]
    show b8 (posH (b8 (digN (q.toNat / 16) : Nat)) * 16 + posH (b8 (digN (q.toNat % 16) : Nat))) :: decH (l.flatMap hexL) = _
    rw [dec_hexL, decH_hex l]
theorem fromB_text (bs : List UInt8) : fromB (textB bs) = bs := by unfold fromB textB; rw [decH_hex, List.reverse_reverse]
theorem good_text {bs : List UInt8} (h : bs.length = 32) : GoodT (textB bs) := by
  refine ⟨by rw [textB_length, h], fun c hc => ?_⟩
  unfold textB at hc
  obtain ⟨q, _, hq⟩ := List.mem_flatMap.1 hc
  have hq2 := q.toNat_lt
  simp only [hexL, List.mem_cons, List.not_mem_nil, or_false] at hq
  rcases hq with rfl | rfl
  · rw [dig_posV _ (by omega)]; omega
  · rw [dig_posV _ (by omega)]; omega
theorem hexL_dec (a b : UInt8) (ha : 0 ≤ posH a) (hb : 0 ≤ posH b) : hexL (b8 (posH a * 16 + posH b)) = [a, b] := by
  have la := posH_lt a
  have lb := posH_lt b
  have h := b8_toNat (posH a * 16 + posH b)
  have e1 : (b8 (posH a * 16 + posH b)).toNat / 16 = (posH a).toNat := by omega
  have e2 : (b8 (posH a * 16 + posH b)).toNat % 16 = (posH b).toNat := by omega
  unfold hexL
  rw [e1, e2, posV_dig a ha, posV_dig b hb]
theorem hex_decH : ∀ (n : Nat) (cs : List UInt8), cs.length = 2 * n → (∀ c ∈ cs, 0 ≤ posH c) → (decH cs).flatMap hexL = cs
  | 0, cs, h, _ => by
    have : cs = [] := List.eq_nil_of_length_eq_zero (by omega)
    subst this
    rfl
  | n + 1, a :: b :: r, h, hg => by
    rw [decH, List.flatMap_cons, hexL_dec a b (hg a (by simp)) (hg b (by simp)), hex_decH n r (by simp only [List.length_cons] at h; omega) (fun c hc => hg c (by simp [hc]))]
    rfl
  | n + 1, [x], h, _ => by simp at h; omega
  | n + 1, [], h, _ => by simp at h
theorem text_fromB {cs : List UInt8} (h : GoodT cs) : textB (fromB cs) = cs := by
  unfold textB fromB
  rw [List.reverse_reverse]
  exact hex_decH 32 cs h.1 h.2
theorem fromB_length {cs : List UInt8} (h : cs.length = 64) : (fromB cs).length = 32 := by
  unfold fromB
  rw [List.length_reverse, decH_length 32 cs h]
end Go.Proofs.YtjdicifickjggaaDoor

/-
  hash.FromText, walked. Conditions: none.
-/
namespace Go.Proofs.YtjdicifickjggaaDoor
open Go.RowKit

def FromPost (W0 : World) (cs : List UInt8) (e : Ending) (w' : World) : Prop :=
  Below W0.heap.size W0 w' ∧ (GoodT cs ∧ e = .returned (.tuple #[digV (fromB cs), .int .i64 0]) ∨ ¬ GoodT cs ∧ e = .returned (.tuple #[digV (List.replicate 32 0), .int .i64 3]))
theorem nums_zero (n : Nat) : nums (List.replicate n 0) = List.replicate n 0 := by unfold nums; rw [List.map_replicate]; rfl
/-- Behind i rounds. -/
def rowF (cs : List UInt8) (i : Nat) : List UInt8 := List.replicate (32 - i) 0 ++ (decH (cs.take (2 * i))).reverse
theorem rowF_zero (cs : List UInt8) : rowF cs 0 = List.replicate 32 0 := by unfold rowF; simp [decH]
theorem rowF_full {cs : List UInt8} (h : cs.length = 64) : rowF cs 32 = fromB cs := by
  unfold rowF fromB
  rw [List.take_of_length_le (by omega)]
  rfl
theorem rowF_length {cs : List UInt8} {i : Nat} (h : cs.length = 64) (hi : i ≤ 32) : (rowF cs i).length = 32 := by
  unfold rowF
  rw [List.length_append, List.length_reverse, List.length_replicate, decH_length i _ (by rw [List.length_take]; omega)]
  omega
theorem rowF_next {cs : List UInt8} {i : Nat} {a b : UInt8} (h : cs.length = 64) (hi : i < 32) (ha : cs[2 * i]? = some a) (hb : cs[2 * i + 1]? = some b) :
    (rowF cs i).set (31 - i) (b8 (posH a * 16 + posH b)) = rowF cs (i + 1) := by
  have e : cs.take (2 * (i + 1)) = cs.take (2 * i) ++ [a, b] := by
    rw [show 2 * (i + 1) = 2 * i + 1 + 1 by omega, List.take_add_one, List.take_add_one, ha, hb]
    simp
  unfold rowF
  rw [e, decH_snoc i _ _ _ (by rw [List.length_take]; omega), List.reverse_append]
  obtain ⟨m, hm⟩ : ∃ m, 32 - i = m + 1 := ⟨31 - i, by omega⟩
  have em : 31 - i = m := by omega
  have en : 32 - (i + 1) = m := by omega
  rw [hm, em, en, List.replicate_succ', List.append_assoc, List.set_append_right _ _ (by rw [List.length_replicate]; omega), List.length_replicate, Nat.sub_self]
  rfl
set_option maxRecDepth 100000 in
set_option maxHeartbeats 3200000 in
theorem fromText_any (s : ByteArray) (W0 : World) :
    Calls Tryd.prog 15 #[.string s] W0 (FromPost W0 s.data.toList) := by
  have hsl : s.data.toList.length = s.size := rfl
  obtain ⟨Z, hZ⟩ : ∃ Z, Z = ((List.replicate 32 (0 : Int)).map (Value.int .u8)).toArray := ⟨_, rfl⟩
  have rA := IRow.new W0 41 .u8 (List.replicate 32 0)
  have bA : Below W0.heap.size W0 (W0.alloc (.cells ((List.replicate 32 (0 : Int)).map (Value.int .u8)).toArray 41)) := (Below.refl _ W0).alloc (Nat.le_refl _) _
  have sA : (W0.alloc (.cells ((List.replicate 32 (0 : Int)).map (Value.int .u8)).toArray 41)).heap.size = W0.heap.size + 1 := by simp
  go_enter Tryd.func15, Tryd.ntmps15
  go_upto_region 1 with fail
  change Code.wp _ _ _ _ (W0.alloc (.cells ((List.replicate 32 (0 : Int)).map (Value.int .u8)).toArray 41))
  obtain ⟨wA, hwA⟩ : ∃ x, x = W0.alloc (.cells ((List.replicate 32 (0 : Int)).map (Value.int .u8)).toArray 41) := ⟨_, rfl⟩
  rw [← hwA] at rA bA sA ⊢
  have SA := Lib.hid sA
  have rB := IRow.new wA 41 .u8 (List.replicate 32 0)
  have bB : Below wA.heap.size wA (wA.alloc (.cells ((List.replicate 32 (0 : Int)).map (Value.int .u8)).toArray 41)) := (Below.refl _ wA).alloc (Nat.le_refl _) _
  clear hwA sA hZ
  go_upto_region 2 with fail
  change Code.wp _ _ _ _ (wA.alloc (.cells ((List.replicate 32 (0 : Int)).map (Value.int .u8)).toArray 41))
  obtain ⟨wB, hwB⟩ : ∃ x, x = wA.alloc (.cells ((List.replicate 32 (0 : Int)).map (Value.int .u8)).toArray 41) := ⟨_, rfl⟩
  rw [← hwB] at rB bB ⊢
  obtain ⟨B0, hB0⟩ : ∃ B0, B0 = W0.heap.size := ⟨_, rfl⟩
  obtain ⟨B1, hB1⟩ : ∃ B1, B1 = wA.heap.size := ⟨_, rfl⟩
  rw [← hB1] at rB bB ⊢
  rw [← hB0] at rA bA ⊢
  have h10 : B1 = B0 + 1 := by have := SA.out; omega
  have rA2 := rA.below bB (by omega)
  have b2 := bA.trans (bB.mono (by omega : B0 ≤ B1))
  have HSL := Lib.hid hsl
  have RA := Lib.hid rA2
  have RB := Lib.hid rB
  have B2 := Lib.hid b2
  have H10 := Lib.hid h10
  have HB0 := Lib.hid hB0
  have hsz : (List.replicate 32 (0 : Int)).length = 32 := by rw [List.length_replicate]
  have HI := Lib.hid (show (Tryd.prog.info? 41).map (·.size) = some (List.replicate 32 (0 : Int)).length by rw [hsz]; exact info_h)
  clear hwB rB bB hB0 hB1 rA rA2 bA b2 h10 hsl hsz
  by_cases h64 : s.size = 64
  · have hd : ((s.size : Int) != 64) = false := by rw [h64]; rfl
    go_wp2_with fail
    go_loopw [12] (fun j wr => ∃ i : Nat, i ≤ 32 ∧ j = .int .i64 i ∧ IRow wr B1 41 .u8 (nums (rowF s.data.toList i)) ∧ IRow wr B0 41 .u8 (List.replicate 32 0) ∧ Below B0 W0 wr ∧ ∀ c ∈ s.data.toList.take (2 * i), 0 ≤ posH c) (fun j _ => 32 - (intOf j).toNat)
    case atStart => exact ⟨0, by omega, rfl, by rw [rowF_zero, nums_zero]; exact RB.out, RA.out, B2.out, by simp⟩
    case round =>
      obtain ⟨i, hi, rfl, hrow, hres, hbel, hall⟩ := hrel
      by_cases h32 : i < 32
      · obtain ⟨p, hp⟩ : ∃ p, p = 2 * i := ⟨_, rfl⟩
        have ep : 2 * (i : Int) = (p : Int) := by omega
        have b32 : (i : Int) < 32 := by omega
        have p1 : p < s.size := by omega
        have p2 : p + 1 < s.size := by omega
        have ea : s.data.toList[p]? = some (s[p]'p1) := Lib.data_getElem? s p p1
        have eb : s.data.toList[p + 1]? = some (s[p + 1]'p2) := Lib.data_getElem? s (p + 1) p2
        have C1 := fun W => sbyte_any digs ((s[p]'p1).toNat : Int) W
        have C2 := fun W => sbyte_any digs ((s[p + 1]'p2).toNat : Int) W
        simp only [u8_back] at C1 C2
        have l1 := posH_lt (s[p]'p1)
        have l2 := posH_lt (s[p + 1]'p2)
        obtain ⟨q1, hq1⟩ : ∃ q1, q1 = posH (s[p]'p1) := ⟨_, rfl⟩
        obtain ⟨q2, hq2⟩ : ∃ q2, q2 = posH (s[p + 1]'p2) := ⟨_, rfl⟩
        have f1 : Lib.indexByte digs.data.toList (s[p]'p1) = q1 := hq1.symm
        have f2 : Lib.indexByte digs.data.toList (s[p + 1]'p2) = q2 := hq2.symm
        simp only [f1] at C1
        simp only [f2] at C2
        rw [← hq1] at l1
        rw [← hq2] at l2
        have hset := hrow.set (31 - i) (q1 * 16 + q2)
        have hnx := rowF_next (i := i) (by rw [HSL.out]; exact h64) h32 (by rw [← hp]; exact ea) (by rw [← hp]; exact eb)
        rw [← hq1, ← hq2] at hnx
        have C1 := Lib.hid C1
        have C2 := Lib.hid C2
        have HEA := Lib.hid ea
        have HEB := Lib.hid eb
        have HQ1 := Lib.hid hq1
        have HQ2 := Lib.hid hq2
        have HP := Lib.hid hp
        clear hp ea eb hq1 hq2 f1 f2
        by_cases n1 : q1 < 0
        · have d1 : decide (q1 < 0) = true := decide_eq_true n1
          clear hset hnx
          have HFIN := Lib.hid (setRow_irow (ys := List.replicate 32 0) hres)
          have HBF := Lib.hid (below_setRow hbel (Nat.le_refl _) ((List.replicate 32 (0 : Int)).map (Value.int .u8)).toArray)
          have HRES := Lib.hid hres
          have HBAD := Lib.hid (show ¬ GoodT s.data.toList from fun hg => by have := hg.2 _ (List.mem_of_getElem? HEA.out); have := HQ1.out; omega)
          clear hres hbel hrow hall
          go_wp2_with fail
          refine (C1.out _).mono ?_
          rintro e w' ⟨rfl, rfl⟩
          go_wp2_with fail
          refine (C2.out _).mono ?_
          rintro e w' ⟨rfl, rfl⟩
          go_wp2_with (refine wpList_store_irow rfl 41 (.tmp 2) (.tmp 32) rfl (g := B0) (t := 41) (k := .u8) (xs := List.replicate 32 0) (ys := List.replicate 32 0) rfl rfl HRES.out HI.out rfl ?_)
          refine bodyPost_ret (v := .tuple #[digV (List.replicate 32 0), .int .i64 3]) ?_ rfl ⟨by rw [← HB0.out]; exact HBF.out, .inr ⟨HBAD.out, rfl⟩⟩
          obtain ⟨fr, hrw⟩ : ∃ fr, ((wr.setRow B0 ((List.replicate 32 (0 : Int)).map (Value.int .u8)).toArray)).heap[B0]? = some (.cells ((List.replicate 32 (0 : Int)).map (Value.int .u8)).toArray 41 fr) := ⟨_, HFIN.out⟩
          unfold digV
          rw [nums_zero]
          exact results_row_tmp Tryd.results15 _ _ B0 41 ((List.replicate 32 (0 : Int)).map (Value.int .u8)).toArray fr _ _ rfl rfl hrw Tryd.underlying41 rfl (by rw [List.size_toArray, List.length_map]; exact HI.out)
        · have d1 : decide (q1 < 0) = false := decide_eq_false n1
          by_cases n2 : q2 < 0
          · have d2 : decide (q2 < 0) = true := decide_eq_true n2
            clear hset hnx
            have HFIN := Lib.hid (setRow_irow (ys := List.replicate 32 0) hres)
            have HBF := Lib.hid (below_setRow hbel (Nat.le_refl _) ((List.replicate 32 (0 : Int)).map (Value.int .u8)).toArray)
            have HRES := Lib.hid hres
            have HBAD := Lib.hid (show ¬ GoodT s.data.toList from fun hg => by have := hg.2 _ (List.mem_of_getElem? HEB.out); have := HQ2.out; omega)
            clear hres hbel hrow hall
            go_wp2_with fail
            refine (C1.out _).mono ?_
            rintro e w' ⟨rfl, rfl⟩
            go_wp2_with fail
            refine (C2.out _).mono ?_
            rintro e w' ⟨rfl, rfl⟩
            go_wp2_with (refine wpList_store_irow rfl 41 (.tmp 2) (.tmp 32) rfl (g := B0) (t := 41) (k := .u8) (xs := List.replicate 32 0) (ys := List.replicate 32 0) rfl rfl HRES.out HI.out rfl ?_)
            refine bodyPost_ret (v := .tuple #[digV (List.replicate 32 0), .int .i64 3]) ?_ rfl ⟨by rw [← HB0.out]; exact HBF.out, .inr ⟨HBAD.out, rfl⟩⟩
            obtain ⟨fr, hrw⟩ : ∃ fr, ((wr.setRow B0 ((List.replicate 32 (0 : Int)).map (Value.int .u8)).toArray)).heap[B0]? = some (.cells ((List.replicate 32 (0 : Int)).map (Value.int .u8)).toArray 41 fr) := ⟨_, HFIN.out⟩
            unfold digV
            rw [nums_zero]
            exact results_row_tmp Tryd.results15 _ _ B0 41 ((List.replicate 32 (0 : Int)).map (Value.int .u8)).toArray fr _ _ rfl rfl hrw Tryd.underlying41 rfl (by rw [List.size_toArray, List.length_map]; exact HI.out)
          · have d2 : decide (q2 < 0) = false := decide_eq_false n2
            obtain ⟨k, hk⟩ : ∃ k, k = 31 - i := ⟨_, rfl⟩
            have ek : 31 - (i : Int) = (k : Int) := by omega
            have k32 : (k : Int) < 32 := by omega
            rw [← hk] at hset hnx
            have hor : bits .or .i64 (q1 * 16) q2 = q1 * 16 + q2 := bits_join .i64 63 (by decide) (fun n h0 h1 => by rw [IntWalk.i64_in _ (by omega)]) 4 _ _ (by omega) (by omega) (by omega) (by omega) (by omega) (by omega)
            have hw8 : IntKind.u8.wrap (q1 * 16 + q2) = q1 * 16 + q2 := by rw [IntKind.wrap_u8]; omega
            have hm8 : (q1 * 16 + q2) % 256 = q1 * 16 + q2 := by omega
            have hcell : wr.cell? ⟨B1, k, none⟩ = some (.int .u8 0) := by
              refine hrow.cell ?_
              unfold nums rowF
              rw [List.getElem?_map, List.getElem?_append_left (by rw [List.length_replicate]; omega), List.getElem?_replicate, if_pos (by omega)]
              rfl
            have hfr := hrow.free k
            have hb16 : ((b8 (q1 * 16 + q2)).toNat : Int) = q1 * 16 + q2 := by rw [b8_toNat]; omega
            have hset2 : IRow (wr.setCell ⟨B1, k, none⟩ (.int .u8 (q1 * 16 + q2))) B1 41 .u8 (nums (rowF s.data.toList (i + 1))) := by
              rw [← hnx]
              unfold nums at hset ⊢
              rw [List.map_set, hb16]
              exact hset
            have HSET := Lib.hid hset2
            have HRES := Lib.hid hres
            have HBEL := Lib.hid hbel
            have HALL := Lib.hid hall
            clear hset hset2 hnx hrow hres hbel hall hb16 hk
            go_wp2_with fail
            refine (C1.out _).mono ?_
            rintro e w' ⟨rfl, rfl⟩
            go_wp2_with fail
            refine (C2.out _).mono ?_
            rintro e w' ⟨rfl, rfl⟩
            go_wp2_with fail
            refine ⟨⟨i + 1, by omega, by go_num, HSET.out, ?_, HBEL.out.setCell (p := ⟨B1, k, none⟩) (by have := H10.out; show B0 ≤ B1; omega) _, ?_⟩, by simp [intOf]; omega⟩
            · exact (Below.heap_setCell wr _ _ _ (by intro h; have h' : B0 = B1 := h; have := H10.out; omega)).trans HRES.out
            · intro c hc
              have e : s.data.toList.take (2 * (i + 1)) = s.data.toList.take (2 * i) ++ [s[p]'p1, s[p + 1]'p2] := by
                rw [show 2 * (i + 1) = 2 * i + 1 + 1 by omega, List.take_add_one, List.take_add_one, ← HP.out, HEA.out, HEB.out]
                simp
              rw [e] at hc
              rcases List.mem_append.1 hc with h | h
              · exact HALL.out c h
              · simp only [List.mem_cons, List.not_mem_nil, or_false] at h
                rcases h with rfl | rfl
                · rw [← HQ1.out]; exact n1
                · rw [← HQ2.out]; exact n2
      · obtain rfl : i = 32 := by omega
        have h32' : ((32 : Nat) : Int) = 32 := rfl
        rw [h32']
        have hl64 : s.data.toList.length = 64 := by rw [HSL.out]; exact h64
        have hgood : GoodT s.data.toList := ⟨hl64, fun c hc => hall c (by rwa [List.take_of_length_le (by omega)])⟩
        rw [rowF_full hl64] at hrow
        have hsz : (nums (fromB s.data.toList)).length = 32 := by rw [nums_length, fromB_length hl64]
        have HI2 := Lib.hid (show (Tryd.prog.info? 41).map (·.size) = some (nums (fromB s.data.toList)).length by rw [hsz]; exact info_h)
        have HL := Lib.hid (show (List.replicate 32 (0 : Int)).length = (nums (fromB s.data.toList)).length by rw [hsz]; rfl)
        have HRW := Lib.hid hrow
        have HRS := Lib.hid hres
        have HG := Lib.hid hgood
        have HFIN := Lib.hid (setRow_irow (ys := nums (fromB s.data.toList)) hres)
        have HBF := Lib.hid (below_setRow hbel (Nat.le_refl _) ((nums (fromB s.data.toList)).map (Value.int .u8)).toArray)
        clear h32' hrow hres hbel hi h32 hsz hall hgood hl64
        go_wp2_with (first
          | (refine wpList_load_irow rfl 41 (.tmp 4) rfl (g := B1) (t := 41) (k := .u8) (xs := nums (fromB s.data.toList)) rfl HRW.out Tryd.underlying41 HI2.out ?_)
          | (refine wpList_store_irow rfl 41 (.tmp 2) (.tmp 42) rfl (g := B0) (t := 41) (k := .u8) (xs := List.replicate 32 0) (ys := nums (fromB s.data.toList)) rfl rfl HRS.out HI2.out HL.out ?_))
        refine bodyPost_ret (v := .tuple #[digV (fromB s.data.toList), .int .i64 0]) ?_ rfl ⟨by rw [← HB0.out]; exact HBF.out, .inl ⟨HG.out, rfl⟩⟩
        obtain ⟨fr, hrw⟩ : ∃ fr, ((wr.setRow B0 ((nums (fromB s.data.toList)).map (Value.int .u8)).toArray)).heap[B0]? = some (.cells ((nums (fromB s.data.toList)).map (Value.int .u8)).toArray 41 fr) := ⟨_, HFIN.out⟩
        exact results_row_tmp Tryd.results15 _ _ B0 41 ((nums (fromB s.data.toList)).map (Value.int .u8)).toArray fr _ _ rfl rfl hrw Tryd.underlying41 rfl (by rw [List.size_toArray, List.length_map]; exact HI2.out)
  · have hd : ((s.size : Int) != 64) = true := by simp; omega
    have HFIN := Lib.hid (setRow_irow (ys := List.replicate 32 0) RA.out)
    have HBF := Lib.hid (below_setRow B2.out (Nat.le_refl _) ((List.replicate 32 (0 : Int)).map (Value.int .u8)).toArray)
    go_wp2_with (refine wpList_store_irow rfl 41 (.tmp 2) (.tmp 11) rfl (g := B0) (t := 41) (k := .u8) (xs := List.replicate 32 0) (ys := List.replicate 32 0) rfl rfl RA.out HI.out rfl ?_)
    refine bodyPost_ret (v := .tuple #[digV (List.replicate 32 0), .int .i64 3]) ?_ rfl ⟨by rw [← HB0.out]; exact HBF.out, .inr ⟨fun hg => h64 (by rw [← HSL.out]; exact hg.1), rfl⟩⟩
    obtain ⟨fr, hrw⟩ : ∃ fr, ((wB.setRow B0 ((List.replicate 32 (0 : Int)).map (Value.int .u8)).toArray)).heap[B0]? = some (.cells ((List.replicate 32 (0 : Int)).map (Value.int .u8)).toArray 41 fr) := ⟨_, HFIN.out⟩
    unfold digV
    rw [nums_zero]
    exact results_row_tmp Tryd.results15 _ _ B0 41 ((List.replicate 32 (0 : Int)).map (Value.int .u8)).toArray fr _ _ rfl rfl hrw Tryd.underlying41 rfl (by rw [List.size_toArray, List.length_map]; exact HI.out)
end Go.Proofs.YtjdicifickjggaaDoor
