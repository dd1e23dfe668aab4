/-
  Texts joined: Sum, SumH, Sum2. Conditions: those of each.
-/
import Derived.Test.YthelmclpmalofaaDoorK9
/-
  hash.Sum: Add, Hash; Sum256. Conditions: the sizes stay below 2^60; the roots are laid.
-/
namespace Go.Proofs.YthelmclpmalofaaDoor
open Go.RowKit

theorem RootIs.turns {S : Nat → Prop} {w w' : World} (h : RootIs w) (ht : Turns S w w') (hS : ¬ S 0) : RootIs w' :=
  ⟨Nat.lt_of_lt_of_le h.1 ht.size, fun t k hk => (ht.cell (p := ⟨0, t, none⟩) h.1 hS).trans (h.2 t k hk)⟩

/-- The roots are laid. -/
structure Roots (w : World) : Prop where
  cube : CubeIs w
  root : RootIs w
theorem Roots.below {w w' : World} (h : Roots w) (hb : Below w.heap.size w w') : Roots w' := ⟨h.cube.below hb h.cube.1, h.root.below hb h.root.1⟩
/-- Block g is none of the roots'. -/
structure Off (g : Nat) : Prop where
  cube : 1 ≠ g
  root : 0 ≠ g
theorem Roots.off {w : World} (h : Roots w) {g : Nat} (hg : w.heap.size ≤ g) : Off g := ⟨by have := h.cube.1; omega, by have := h.root.1; omega⟩
theorem Roots.turns {w w' : World} {g : Nat} (h : Roots w) (ht : Turns (· = g) w w') (hg : Off g) : Roots w' := ⟨h.cube.turns ht hg.cube, h.root.turns ht hg.root⟩

/-- Block g begins with an intake that got the bytes m. -/
def SumIs (w : World) (g : Nat) (t : TypeId) (m : List UInt8) : Prop := ∃ ws rest, Took m ws rest ∧ ws.length = 8 ∧ VRow w g t (inRow ws rest m.length)
theorem SumIs.below {w w' : World} {g : Nat} {t : TypeId} {m : List UInt8} (h : SumIs w g t m) (hb : Below w.heap.size w w') : SumIs w' g t m := by
  obtain ⟨ws, rest, h1, h2, h3⟩ := h
  exact ⟨ws, rest, h1, h2, h3.below hb h3.lt⟩
theorem SumIs.turns {S : Nat → Prop} {w w' : World} {g : Nat} {t : TypeId} {m : List UInt8} (h : SumIs w g t m) (hb : Turns S w w') (hS : ¬ S g) : SumIs w' g t m := by
  obtain ⟨ws, rest, h1, h2, h3⟩ := h
  exact ⟨ws, rest, h1, h2, h3.turns hb hS⟩

set_option maxRecDepth 100000 in
set_option maxHeartbeats 3200000 in
theorem sumAdd_any (g : Nat) (t : TypeId) (m b : List UInt8) (v : Value) (W0 : World) (hsum : SumIs W0 g t m) (hsrc : Src W0 g v b) (hlen : m.length + b.length < 1152921504606846976) (hroots : Roots W0) (hoff : Off g) :
    Calls Tryd.prog 81 #[.pointer (some ⟨g, 0, none⟩), v] W0 fun e w' => e = .returned (.tuple #[]) ∧ SumIs w' g t (m ++ b) ∧ Turns (· = g) W0 w' := by
  obtain ⟨ws, rest, ht, hws, hrow⟩ := hsum
  have HT := Lib.hid ht
  have HWS := Lib.hid hws
  have HROW := Lib.hid hrow
  have HSRC := Lib.hid hsrc
  have HROOTS := Lib.hid hroots
  have HOFF := Lib.hid hoff
  clear ht hws hrow hsrc hroots hoff
  go_enter Tryd.func81, Tryd.ntmps81
  refine wp_region_held_drew (S := AnyW) (by kernel_rfl) ?_ (fun hHeld => ?_)
  · exact anyW _
  refine wpAnyH_take (i := 0) (oi := { dst := some 4, op := Go.Op.move (Go.Operand.tmp 0), type := 114, pos := "sha256.go:15", after := #[], guard := none }) (v := ?av0) rfl (by kernel_rfl) (by kernel_rfl) (by kernel_rfl) (fun _ _ _ h => h) (Or.inl ⟨by rfl, ?ay0⟩) (by assumption) ?ar0
  case ay0 => (intro w hSw; (try dsimp only at hSw); go_simp; try (with_reducible rfl))
  case ar0 =>
  try simp only [Act.put, List.setIfInBounds_toArray, List.set_cons_zero, List.set_cons_succ]
  refine wpAnyH_take (i := 1) (oi := { dst := some 5, op := Go.Op.nilCheck (Go.Operand.tmp 4), type := 0, pos := "sha256.go:15", after := #[{ on := 0, ground := Go.Ground.data }], guard := none }) (v := ?av1) rfl (by kernel_rfl) (by kernel_rfl) (by kernel_rfl) (fun _ _ _ h => h) (Or.inl ⟨by rfl, ?ay1⟩) (by assumption) ?ar1
  case ay1 => (intro w hSw; (try dsimp only at hSw); go_simp; try (with_reducible rfl))
  case ar1 =>
  try simp only [Act.put, List.setIfInBounds_toArray, List.set_cons_zero, List.set_cons_succ]
  refine wpAnyH_take (i := 2) (oi := { dst := some 6, op := Go.Op.fieldAddr 112 (Go.Operand.tmp 5) 0, type := 0, pos := "sha256.go:15", after := #[{ on := 1, ground := Go.Ground.data }], guard := none }) (v := ?av2) rfl (by kernel_rfl) (by kernel_rfl) (by kernel_rfl) (fun _ _ _ h => h) (Or.inl ⟨by rfl, ?ay2⟩) (by assumption) ?ar2
  case ay2 => (intro w hSw; (try dsimp only at hSw); go_simp; try (with_reducible rfl))
  case ar2 =>
  try simp only [Act.put, List.setIfInBounds_toArray, List.set_cons_zero, List.set_cons_succ]
  refine wpAnyH_take (i := 4) (oi := { dst := some 8, op := Go.Op.move (Go.Operand.tmp 1), type := 27, pos := "sha256.go:15", after := #[], guard := none }) (v := ?av4) rfl (by kernel_rfl) (by kernel_rfl) (by kernel_rfl) (fun _ _ _ h => h) (Or.inl ⟨by rfl, ?ay4⟩) (by assumption) ?ar4
  case ay4 => (intro w hSw; (try dsimp only at hSw); go_simp; try (with_reducible rfl))
  case ar4 =>
  try simp only [Act.put, List.setIfInBounds_toArray, List.set_cons_zero, List.set_cons_succ]
  refine wpAnyH_ready (rs := [3]) (by kernel_rfl) (by simp) ?_
  refine AllReadyH.cons (o := { dst := some 7, op := Go.Op.call { callee := Go.Callee.value (Go.Operand.func 85), args := #[], argTypes := #[] }, type := 118, pos := "sha256.go:15", after := #[], guard := none }) rfl (fun K hK => ?_) (AllReadyH.nil)
  go_simp
  refine (kind256_any W0.drew HROOTS.out.root).mono ?_
  rintro e w2 ⟨rfl, hb2⟩
  go_simp
  have B2 := Lib.hid (show Below W0.heap.size W0 w2 from ⟨hb2.os, hb2.tape, hb2.output, hb2.size, hb2.block⟩)
  clear hb2
  refine hK.out _ _ ?_ (fun hHeld => ?_)
  · exact anyW _
  clear hK K
  try simp only [Act.put, List.setIfInBounds_toArray, List.set_cons_zero, List.set_cons_succ]
  refine wpAnyH_ready (rs := [5]) (by kernel_rfl) (by simp) ?_
  refine AllReadyH.cons (o := { dst := some 9, op := Go.Op.call { callee := Go.Callee.value (Go.Operand.func 84), args := #[Go.Operand.tmp 6, Go.Operand.tmp 7, Go.Operand.tmp 8], argTypes := #[110, 118, 27] }, type := 0, pos := "sha256.go:15", after := #[{ on := 2, ground := Go.Ground.data }, { on := 3, ground := Go.Ground.data }, { on := 4, ground := Go.Ground.data }, { on := 3, ground := Go.Ground.chain }], guard := none }) rfl (fun K hK => ?_) (AllReadyH.nil)
  go_simp
  refine (add_any g t m b ws rest v w2 HT.out HWS.out (HROW.out.below B2.out HROW.out.lt) (HSRC.out.turns (Turns.of_below (S := (· = g)) B2.out) (fun _ h => h)) hlen (HROOTS.out.below B2.out).cube HOFF.out.cube).mono ?_
  rintro e w3 ⟨rfl, ws3, rest3, t3, l3, r3, tt3⟩
  go_simp
  refine hK.out _ _ ?_ (fun hHeld => ?_)
  · exact anyW _
  clear hK K
  try simp only [Act.put, List.setIfInBounds_toArray, List.set_cons_zero, List.set_cons_succ]
  refine wpAnyH_done (by kernel_rfl) ?_ _
  refine bodyPost_end (results_none Tryd.results81 _ _ _) rfl ⟨rfl, ⟨ws3, rest3, t3, l3, r3⟩, (Turns.of_below (S := (· = g)) B2.out).trans tt3 (fun _ _ h => h)⟩
end Go.Proofs.YthelmclpmalofaaDoor

/-
  hash.Sum: Hash. Conditions: the size stays below 2^59; the roots are laid.
-/
namespace Go.Proofs.YthelmclpmalofaaDoor
open Go.RowKit

/-- A digest as a value. -/
def digV (bs : List UInt8) : Value := .agg ((nums bs).map (Value.int .u8)).toArray
def zIn : List Value := inRow (List.replicate 8 0) (List.replicate 128 0) 0
theorem info_in : (Tryd.prog.info? 110).map (·.size) = some 137 := by kernel_rfl
theorem info_h : (Tryd.prog.info? 36).map (·.size) = some 32 := by kernel_rfl

theorem zero_in (W : World) : (zeroValue 110).run Tryd.prog W = .ok (.agg zIn.toArray) W := by kernel_rfl
theorem zero_sum (W : World) : (zeroValue 112).run Tryd.prog W = .ok (.agg zIn.toArray) W := by kernel_rfl
theorem zero_hash (W : World) : (zeroValue 36).run Tryd.prog W = .ok (.agg ((List.replicate 32 (0 : Int)).map (Value.int .u8)).toArray) W := by kernel_rfl
theorem inRow_one (ws rest : List Int) (n : Nat) : (inRow ws rest n).toArray.all (·.oneCell') = true := by
  refine all_oneCell_toArray fun v hv => ?_
  unfold inRow at hv
  rcases List.mem_append.1 hv with h | h
  · obtain ⟨x, _, rfl⟩ := List.mem_map.1 h; rfl
  · rcases List.mem_append.1 h with h | h
    · obtain ⟨x, _, rfl⟩ := List.mem_map.1 h; rfl
    · rw [List.mem_singleton.1 h]; rfl
theorem S8.mem_ok {s : S8} (h : s.Ok) {x : Int} (hx : x ∈ [s.a, s.b, s.c, s.d, s.e, s.f, s.g, s.h]) : U32 x := by
  simp only [List.mem_cons, List.not_mem_nil, or_false] at hx
  rcases hx with rfl | rfl | rfl | rfl | rfl | rfl | rfl | rfl
  · exact h.a
  · exact h.b
  · exact h.c
  · exact h.d
  · exact h.e
  · exact h.f
  · exact h.g
  · exact h.h
theorem pad_src {w : World} {gp g n z : Nat} (h : IRow w gp 5 .u8 (padI n z 8)) (hz : z = (119 - n % 64) % 64) (hne : g ≠ gp) : Src w g (.slice (some ⟨gp, 0, none⟩) (z + 9) (z + 9)) (padB n) := by
  have e : padI n z 8 = nums (padB n) := by rw [hz]; exact padI_full n
  have hl : (padB n).length = z + 9 := by rw [← nums_length, ← e, padI_length]
  rw [e] at h
  refine ⟨_, z + 9, by rw [hl], by omega, by unfold maxLen; omega, (by intro h; cases h), fun _ => ⟨gp, 0, rfl, h.lt, Ne.symm hne, fun j u hu => ?_⟩⟩
  rw [Nat.zero_add]
  have := h.cell (i := j) (z := (u.toNat : Int)) (by unfold nums; rw [List.getElem?_map, hu]; rfl)
  exact this
set_option maxRecDepth 100000 in
set_option maxHeartbeats 6400000 in
theorem sumHash_any (g : Nat) (t : TypeId) (m : List UInt8) (W0 : World) (hsum : SumIs W0 g t m) (hm : m.length < 576460752303423488) (hroots : Roots W0) :
    Calls Tryd.prog 82 #[.pointer (some ⟨g, 0, none⟩)] W0 fun e w' => e = .returned (digV (sha256 m)) ∧ Below W0.heap.size W0 w' := by
  obtain ⟨ws, rest, ht, hws, hrow⟩ := hsum
  have HT := Lib.hid ht
  have HWS := Lib.hid hws
  have hg := hrow.lt
  have HROW := Lib.hid hrow
  have HROOTS := Lib.hid hroots
  clear ht hws hrow hroots
  go_enter Tryd.func82, Tryd.ntmps82
  go_upto_region 1 with fail
  change Code.wp _ _ _ _ (W0.alloc (.cells ((List.replicate 32 (0 : Int)).map (Value.int .u8)).toArray 36))
  have rA := IRow.new W0 36 .u8 (List.replicate 32 0)
  have bA : Below W0.heap.size W0 (W0.alloc (.cells ((List.replicate 32 (0 : Int)).map (Value.int .u8)).toArray 36)) := (Below.refl _ W0).alloc (Nat.le_refl _) _
  have sA : (W0.alloc (.cells ((List.replicate 32 (0 : Int)).map (Value.int .u8)).toArray 36)).heap.size = W0.heap.size + 1 := by simp
  obtain ⟨wA, hwA⟩ : ∃ x, x = W0.alloc (.cells ((List.replicate 32 (0 : Int)).map (Value.int .u8)).toArray 36) := ⟨_, rfl⟩
  rw [← hwA] at rA bA sA ⊢
  obtain ⟨B0, hB0⟩ : ∃ B0, B0 = W0.heap.size := ⟨_, rfl⟩
  rw [← hB0] at rA bA sA hg ⊢
  have hgr := HROW.out.below (hB0 ▸ bA) HROW.out.lt
  have rZ := VRow.new wA 110 zIn
  have bB : Below wA.heap.size wA ((wA.alloc (.cells zIn.toArray 110)).setRow wA.heap.size (inRow ws rest m.length).toArray) := by
    exact below_setRow ((Below.refl _ wA).alloc (Nat.le_refl _) _) (Nat.le_refl _) _
  have rB := rZ.setRow (inRow ws rest m.length)
  have HI := Lib.hid (show (Tryd.prog.info? 110).map (·.size) = some (inRow ws rest m.length).length by rw [inRow_length _ HWS.out HT.out.size]; exact info_in)
  have HL := Lib.hid (show zIn.length = (inRow ws rest m.length).length by rw [inRow_length _ HWS.out HT.out.size]; rfl)
  have HO := Lib.hid (inRow_one ws rest m.length)
  obtain ⟨L, hL⟩ : ∃ L, L = inRow ws rest m.length := ⟨_, rfl⟩
  rw [← hL] at hgr rB bB HI HL HO
  have HGR := Lib.hid hgr
  have RZ := Lib.hid rZ
  have RB := Lib.hid rB
  have BB := Lib.hid bB
  have RA := Lib.hid rA
  have BA := Lib.hid bA
  have SA := Lib.hid sA
  have HB0 := Lib.hid hB0
  have HLL := Lib.hid hL
  clear hgr rZ rB bB rA bA sA hB0 hL hwA
  have hzv := zero_in
  go_upto_region 2 with (first
    | (refine wpList_load_vrow rfl 110 (.tmp 9) rfl (g := g) (t := t) (vs := L) rfl HGR.out Tryd.underlying110 HI.out ?_)
    | (refine wpList_store_vrow rfl 110 (.tmp 3) (.tmp 10) rfl (g := wA.heap.size) (t := 110) (vs := zIn) (us := L) rfl rfl RZ.out HI.out HL.out HO.out ?_))
  change Code.wp _ _ _ _ ((wA.alloc (.cells zIn.toArray 110)).setRow wA.heap.size L.toArray)
  obtain ⟨wB, hwB⟩ : ∃ x, x = (wA.alloc (.cells zIn.toArray 110)).setRow wA.heap.size L.toArray := ⟨_, rfl⟩
  have rB : VRow wB wA.heap.size 110 L := by rw [hwB]; exact RB.out
  have bB : Below wA.heap.size wA wB := by rw [hwB]; exact BB.out
  rw [← hwB]
  obtain ⟨B1, hB1⟩ : ∃ B1, B1 = wA.heap.size := ⟨_, rfl⟩
  rw [← hB1] at rB bB ⊢
  have h10 : B1 = B0 + 1 := by rw [hB1, SA.out]
  have rA := RA.out.below bB (by omega)
  have bA := BA.out.trans (bB.mono (by omega : B0 ≤ B1))
  have hB1s := rB.lt
  have ro : Roots wB := HROOTS.out.below (by rw [← HB0.out]; exact bA)
  have zc : wB.cell? ⟨B1, 136, none⟩ = some (.int .u64 (m.length : Int)) := by
    refine rB.cell ?_
    rw [HLL.out]
    exact inRow_size _ HWS.out HT.out.size
  have rB' : VRow wB B1 110 (inRow ws rest m.length) := by rw [← HLL.out]; exact rB
  obtain ⟨z, hz⟩ : ∃ z, z = (119 - m.length % 64) % 64 := ⟨_, rfl⟩
  obtain ⟨n, hn⟩ : ∃ n, n = m.length := ⟨_, rfl⟩
  rw [← hn] at zc hz
  have hpl : (padB n).length = z + 9 := by
    have h := padI_length n z 8
    rw [hz, padI_full, nums_length] at h
    rw [h, hz]
  have RB2 := Lib.hid rB'
  have RA2 := Lib.hid rA
  have BA2 := Lib.hid bA
  have RO := Lib.hid ro
  have HZ := Lib.hid hz
  have HN := Lib.hid hn
  have HPL := Lib.hid hpl
  have H10 := Lib.hid h10
  clear hwB rB rB' bB rA bA ro hz hn hpl HGR RZ RB BB RA BA HI HL HO HLL HROW hB1 h10 SA
  dsimp only [Act.put]
  go_cut [2, 3] (fun s2 s3 wx => s2 = .pointer (some ⟨B0, 0, none⟩) ∧ s3 = .pointer (some ⟨B1, 0, none⟩) ∧ SumIs wx B1 110 (full m) ∧ IRow wx B0 36 .u8 (List.replicate 32 0) ∧ Below B0 W0 wx ∧ B1 < wx.heap.size)
  case first =>
    refine wp_region_held_drew (S := AnyW) (by kernel_rfl) ?_ (fun hHeld => ?_)
    · exact anyW _
    refine wpAnyH_take (i := 1) (oi := { dst := some 12, op := Go.Op.fieldAddr 110 (Go.Operand.tmp 3) 2, type := 0, pos := "sha256.go:21", after := #[], guard := none }) (v := ?av1) rfl (by kernel_rfl) (by kernel_rfl) (by kernel_rfl) (fun _ _ _ h => h) (Or.inl ⟨by rfl, ?ay1⟩) (by assumption) ?ar1
    case ay1 => (intro w hSw; (try dsimp only at hSw); go_simp; try (with_reducible rfl))
    case ar1 =>
    try simp only [Act.put, List.setIfInBounds_toArray, List.set_cons_zero, List.set_cons_succ]
    refine wpAnyH_ready (rs := [0, 2]) (by kernel_rfl) (by simp) ?_
    refine AllReadyH.cons (o := { dst := some 11, op := Go.Op.call { callee := Go.Callee.value (Go.Operand.func 85), args := #[], argTypes := #[] }, type := 118, pos := "sha256.go:21", after := #[], guard := none }) rfl (fun K hK => ?_) (AllReadyH.cons (o := { dst := some 13, op := Go.Op.load 75 (Go.Operand.tmp 12), type := 75, pos := "sha256.go:21", after := #[{ on := 1, ground := Go.Ground.data }], guard := none }) rfl (fun K hK => ?_) (AllReadyH.nil))
    · as_aux_lemma =>
      go_simp
      refine (kind256_any wB.drew RO.out.root).mono ?_
      rintro e w2 ⟨rfl, hb2⟩
      go_simp
      have B2 := Lib.hid (show Below wB.heap.size wB w2 from ⟨hb2.os, hb2.tape, hb2.output, hb2.size, hb2.block⟩)
      have zc2 : w2.cell? ⟨B1, 136, none⟩ = some (.int .u64 (n : Int)) := (B2.out.cell (p := ⟨B1, 136, none⟩) hB1s).trans zc
      clear hb2
      refine hK.out _ _ ?_ (fun hHeld => ?_)
      · exact anyW _
      clear hK K
      try simp only [Act.put, List.setIfInBounds_toArray, List.set_cons_zero, List.set_cons_succ]
      refine wpAnyH_ready (rs := [2]) (by kernel_rfl) (by simp) ?_
      refine AllReadyH.cons (o := { dst := some 13, op := Go.Op.load 75 (Go.Operand.tmp 12), type := 75, pos := "sha256.go:21", after := #[{ on := 1, ground := Go.Ground.data }], guard := none }) rfl (fun K hK => ?_) (AllReadyH.nil)
      go_simp
      refine hK.out _ _ ?_ (fun hHeld => ?_)
      · exact anyW _
      clear hK K
      try simp only [Act.put, List.setIfInBounds_toArray, List.set_cons_zero, List.set_cons_succ]
      refine wpAnyH_ready (rs := [3]) (by kernel_rfl) (by simp) ?_
      refine AllReadyH.cons (o := { dst := some 14, op := Go.Op.call { callee := Go.Callee.value (Go.Operand.func 86), args := #[Go.Operand.tmp 13, Go.Operand.const (Go.Value.int Go.IntKind.i64 64), Go.Operand.const (Go.Value.int Go.IntKind.i64 8)], argTypes := #[75, 3, 3] }, type := 27, pos := "sha256.go:21", after := #[{ on := 2, ground := Go.Ground.data }, { on := 0, ground := Go.Ground.chain }], guard := none }) rfl (fun K hK => ?_) (AllReadyH.nil)
      go_simp
      refine (padding_any n z w2 (by have := HN.out; omega) HZ.out).mono ?_
      rintro e w3 ⟨gp, rfl, hrow3, hb3, hge⟩
      go_simp
      have BQ := Lib.hid (B2.out.trans (hb3.mono B2.out.size))
      have PROW := Lib.hid hrow3
      have GE := Lib.hid (Nat.le_trans B2.out.size hge)
      clear hb3 hrow3 hge
      refine hK.out _ _ ?_ (fun hHeld => ?_)
      · exact anyW _
      clear hK K
      try simp only [Act.put, List.setIfInBounds_toArray, List.set_cons_zero, List.set_cons_succ]
      refine wpAnyH_ready (rs := [4]) (by kernel_rfl) (by simp) ?_
      refine AllReadyH.cons (o := { dst := some 15, op := Go.Op.call { callee := Go.Callee.value (Go.Operand.func 84), args := #[Go.Operand.tmp 3, Go.Operand.tmp 11, Go.Operand.tmp 14], argTypes := #[110, 118, 27] }, type := 0, pos := "sha256.go:21", after := #[{ on := 0, ground := Go.Ground.data }, { on := 3, ground := Go.Ground.data }, { on := 3, ground := Go.Ground.chain }], guard := none }) rfl (fun K hK => ?_) (AllReadyH.nil)
      go_simp
      have SRC := pad_src PROW.out HZ.out (show B1 ≠ gp by have := GE.out; omega)
      refine (add_any B1 _ m (padB n) ws rest _ w3 HT.out HWS.out (RB2.out.below BQ.out hB1s) SRC (by rw [HPL.out]; have := HZ.out; omega) (RO.out.below BQ.out).cube (HROOTS.out.off (by rw [← HB0.out]; have := H10.out; omega)).cube).mono ?_
      rintro e w4 ⟨rfl, ws4, rest4, t4, l4, r4, tt4⟩
      go_simp
      refine hK.out _ _ ?_ (fun hHeld => ?_)
      · exact anyW _
      clear hK K
      try simp only [Act.put, List.setIfInBounds_toArray, List.set_cons_zero, List.set_cons_succ]
      refine wpAnyH_done (by kernel_rfl) ?_ _
      have hsum : SumIs w4 B1 110 (full m) := ⟨ws4, rest4, by unfold full; rw [← HN.out]; exact t4, l4, by unfold full; rw [← HN.out]; exact r4⟩
      have htt : Turns (· = B1) wB w4 := (Turns.of_below (S := (· = B1)) BQ.out).trans tt4 (fun _ _ h => h)
      have hra : IRow w4 B0 36 .u8 (List.replicate 32 0) := RA2.out.turns htt (by have := H10.out; omega)
      have hb0 : Below B0 W0 w4 := BA2.out.trans (htt.below_of (by have := H10.out; omega) (by intro i hi h; have := H10.out; omega))
      have hlt : B1 < w4.heap.size := Nat.lt_of_lt_of_le hB1s htt.size
      have HF := Lib.hid (⟨hsum, hra, hb0, hlt⟩ : SumIs w4 B1 110 (full m) ∧ IRow w4 B0 36 .u8 (List.replicate 32 0) ∧ Below B0 W0 w4 ∧ B1 < w4.heap.size)
      clear hsum htt hra hb0 hlt t4 l4 r4 tt4
      go_wp2_with fail
      go_meet
      exact ⟨rfl, rfl, HF.out⟩
    · as_aux_lemma =>
      go_simp
      refine hK.out _ _ ?_ (fun hHeld => ?_)
      · exact anyW _
      clear hK K
      try simp only [Act.put, List.setIfInBounds_toArray, List.set_cons_zero, List.set_cons_succ]
      refine wpAnyH_ready (rs := [0]) (by kernel_rfl) (by simp) ?_
      refine AllReadyH.cons (o := { dst := some 11, op := Go.Op.call { callee := Go.Callee.value (Go.Operand.func 85), args := #[], argTypes := #[] }, type := 118, pos := "sha256.go:21", after := #[], guard := none }) rfl (fun K hK => ?_) (AllReadyH.nil)
      go_simp
      refine (kind256_any wB.drew RO.out.root).mono ?_
      rintro e w2 ⟨rfl, hb2⟩
      go_simp
      have B2 := Lib.hid (show Below wB.heap.size wB w2 from ⟨hb2.os, hb2.tape, hb2.output, hb2.size, hb2.block⟩)
      clear hb2
      refine hK.out _ _ ?_ (fun hHeld => ?_)
      · exact anyW _
      clear hK K
      try simp only [Act.put, List.setIfInBounds_toArray, List.set_cons_zero, List.set_cons_succ]
      refine wpAnyH_ready (rs := [3]) (by kernel_rfl) (by simp) ?_
      refine AllReadyH.cons (o := { dst := some 14, op := Go.Op.call { callee := Go.Callee.value (Go.Operand.func 86), args := #[Go.Operand.tmp 13, Go.Operand.const (Go.Value.int Go.IntKind.i64 64), Go.Operand.const (Go.Value.int Go.IntKind.i64 8)], argTypes := #[75, 3, 3] }, type := 27, pos := "sha256.go:21", after := #[{ on := 2, ground := Go.Ground.data }, { on := 0, ground := Go.Ground.chain }], guard := none }) rfl (fun K hK => ?_) (AllReadyH.nil)
      go_simp
      refine (padding_any n z w2 (by have := HN.out; omega) HZ.out).mono ?_
      rintro e w3 ⟨gp, rfl, hrow3, hb3, hge⟩
      go_simp
      have BQ := Lib.hid (B2.out.trans (hb3.mono B2.out.size))
      have PROW := Lib.hid hrow3
      have GE := Lib.hid (Nat.le_trans B2.out.size hge)
      clear hb3 hrow3 hge
      refine hK.out _ _ ?_ (fun hHeld => ?_)
      · exact anyW _
      clear hK K
      try simp only [Act.put, List.setIfInBounds_toArray, List.set_cons_zero, List.set_cons_succ]
      refine wpAnyH_ready (rs := [4]) (by kernel_rfl) (by simp) ?_
      refine AllReadyH.cons (o := { dst := some 15, op := Go.Op.call { callee := Go.Callee.value (Go.Operand.func 84), args := #[Go.Operand.tmp 3, Go.Operand.tmp 11, Go.Operand.tmp 14], argTypes := #[110, 118, 27] }, type := 0, pos := "sha256.go:21", after := #[{ on := 0, ground := Go.Ground.data }, { on := 3, ground := Go.Ground.data }, { on := 3, ground := Go.Ground.chain }], guard := none }) rfl (fun K hK => ?_) (AllReadyH.nil)
      go_simp
      have SRC := pad_src PROW.out HZ.out (show B1 ≠ gp by have := GE.out; omega)
      refine (add_any B1 _ m (padB n) ws rest _ w3 HT.out HWS.out (RB2.out.below BQ.out hB1s) SRC (by rw [HPL.out]; have := HZ.out; omega) (RO.out.below BQ.out).cube (HROOTS.out.off (by rw [← HB0.out]; have := H10.out; omega)).cube).mono ?_
      rintro e w4 ⟨rfl, ws4, rest4, t4, l4, r4, tt4⟩
      go_simp
      refine hK.out _ _ ?_ (fun hHeld => ?_)
      · exact anyW _
      clear hK K
      try simp only [Act.put, List.setIfInBounds_toArray, List.set_cons_zero, List.set_cons_succ]
      refine wpAnyH_done (by kernel_rfl) ?_ _
      have hsum : SumIs w4 B1 110 (full m) := ⟨ws4, rest4, by unfold full; rw [← HN.out]; exact t4, l4, by unfold full; rw [← HN.out]; exact r4⟩
      have htt : Turns (· = B1) wB w4 := (Turns.of_below (S := (· = B1)) BQ.out).trans tt4 (fun _ _ h => h)
      have hra : IRow w4 B0 36 .u8 (List.replicate 32 0) := RA2.out.turns htt (by have := H10.out; omega)
      have hb0 : Below B0 W0 w4 := BA2.out.trans (htt.below_of (by have := H10.out; omega) (by intro i hi h; have := H10.out; omega))
      have hlt : B1 < w4.heap.size := Nat.lt_of_lt_of_le hB1s htt.size
      have HF := Lib.hid (⟨hsum, hra, hb0, hlt⟩ : SumIs w4 B1 110 (full m) ∧ IRow w4 B0 36 .u8 (List.replicate 32 0) ∧ Below B0 W0 w4 ∧ B1 < w4.heap.size)
      clear hsum htt hra hb0 hlt t4 l4 r4 tt4
      go_wp2_with fail
      go_meet
      exact ⟨rfl, rfl, HF.out⟩
  case rest =>
    obtain ⟨rfl, rfl, ⟨ws4, rest4, t4, l4, r4⟩, rA4, bA4, hlt4⟩ := hcut
    have hfull : full m ≠ [] := by unfold full padB; simp
    have hw4 := t4.words hfull
    obtain ⟨s, hs⟩ : ∃ s, s = blocks256 (full m) ((full m).length / 64) := ⟨_, rfl⟩
    have hsha : sha256 m = outB s.list := by rw [hs]; rfl
    have hok : s.Ok := by rw [hs]; exact blocks256_ok _ _
    rw [← hs] at hw4
    subst hw4
    have rC := IRow.new wc 36 .u8 (List.replicate 32 0)
    have bC : Below wc.heap.size wc (wc.alloc (.cells ((List.replicate 32 (0 : Int)).map (Value.int .u8)).toArray 36)) := (Below.refl _ wc).alloc (Nat.le_refl _) _
    have rA5 := rA4.below bC rA4.lt
    have bA5 := bA4.trans (bC.mono bA4.size |>.mono (by have := HB0.out; omega))
    have r5 := r4.below bC r4.lt
    have RA5 := Lib.hid rA5
    have BA5 := Lib.hid bA5
    have RC := Lib.hid rC
    have HRA := Lib.hid (show (wc.alloc (.cells ((List.replicate 32 (0 : Int)).map (Value.int .u8)).toArray 36)).rangeAt B1 0 [.int .u32 s.a, .int .u32 s.b, .int .u32 s.c, .int .u32 s.d, .int .u32 s.e, .int .u32 s.f, .int .u32 s.g, .int .u32 s.h] from r5.range (by
      intro j x hx
      rw [Nat.zero_add]
      have hx2 : (s.list.map (Value.int .u32))[j]? = some x := hx
      rw [List.getElem?_map] at hx2
      cases hy : s.list[j]? with
      | none => rw [hy] at hx2; exact absurd hx2 (by simp)
      | some y =>
        rw [hy] at hx2
        obtain rfl : Value.int .u32 y = x := Option.some.inj hx2
        exact inRow_word _ hy))
    have HSHA := Lib.hid hsha
    have HOK := Lib.hid hok
    obtain ⟨B2, hB2⟩ : ∃ B2, B2 = wc.heap.size := ⟨_, rfl⟩
    have h20 : B0 < B2 := by have := rA4.lt; omega
    have HB2 := Lib.hid hB2
    clear t4 l4 r4 rA4 bA4 hfull hs hsha hok rC bC rA5 bA5 r5 hB2
    go_wp2_with (refine wpList_load_mid rfl 101 (.tmp 16) rfl B1 0 rfl [.int .u32 s.a, .int .u32 s.b, .int .u32 s.c, .int .u32 s.d, .int .u32 s.e, .int .u32 s.f, .int .u32 s.g, .int .u32 s.h] _ HRA.out Tryd.underlying101 rfl info_8 ?_)
    rw [← HB2.out] at RC ⊢
    go_loopw [18] (fun j wr => ∃ i : Nat, i ≤ 8 ∧ j = .int .i64 i ∧ IRow wr B2 36 .u8 (padZ 32 (nums (outB (s.list.take i)))) ∧ IRow wr B0 36 .u8 (List.replicate 32 0) ∧ Below B0 W0 wr) (fun j _ => 8 - (intOf j).toNat)
    case atStart => exact ⟨0, by omega, rfl, RC.out, RA5.out, BA5.out⟩
    case round =>
      obtain ⟨i, hi, rfl, hrow, hres, hbel⟩ := hrel
      by_cases h8 : i < 8
      · obtain ⟨x, hx, hix⟩ := idx8 s.a s.b s.c s.d s.e s.f s.g s.h h8
        obtain ⟨p, hp⟩ : ∃ p, p = 4 * i := ⟨_, rfl⟩
        have ep : 4 * (i : Int) = (p : Int) := by omega
        have hp28 : p ≤ 28 := by omega
        have i1 : (p : Int) ≤ 32 := by omega
        have i2 : ¬ 32 = p := by omega
        have b8 : (i : Int) < 8 := by omega
        have htl : (s.list.take i).length = i := by rw [List.length_take]; have : s.list.length = 8 := rfl; omega
        have hol : (nums (outB (s.list.take i))).length = 4 * i := by rw [nums_length, outB_length, htl]
        have C := Lib.hid (put32_any B2 p (32 - p) (32 - p) _ _ x wr hrow (by omega) (by rw [padZ_length (by omega)]; omega))
        have hxu : U32 x := S8.mem_ok HOK.out (List.mem_of_getElem? hx)
        have hnext := put4_next (m := 32) (ws := s.list.take i) (x := x) hxu (by rw [outB_length, htl]; omega)
        rw [htl, ← hp] at hnext
        have htk : s.list.take i ++ [x] = s.list.take (i + 1) := by
          rw [List.take_add_one]
          have : s.list[i]? = some x := hx
          rw [this]
          rfl
        rw [htk] at hnext
        have HNEXT := Lib.hid hnext
        have HRES := Lib.hid hres
        have HBEL := Lib.hid hbel
        clear hx hp htl hol hnext htk hrow hres hbel
        go_wp2_with fail
        refine C.out.mono ?_
        rintro e w5 ⟨rfl, hr5, hb5⟩
        rw [HNEXT.out] at hr5
        have R5 := Lib.hid hr5
        have Q5 := Lib.hid (hb5 B2 (Nat.le_refl _))
        clear hr5 hb5
        go_wp2_with fail
        exact ⟨⟨i + 1, by omega, by go_num, R5.out, HRES.out.below Q5.out h20, HBEL.out.trans (Q5.out.mono (by omega))⟩, by simp [intOf]; omega⟩
      · obtain rfl : i = 8 := by omega
        have h8' : ((8 : Nat) : Int) = 8 := rfl
        rw [h8']
        have e8 : padZ 32 (nums (outB (s.list.take 8))) = nums (sha256 m) := by
          have e : s.list.take 8 = s.list := rfl
          rw [e, ← HSHA.out]
          exact padZ_full (by rw [nums_length, sha256_length])
        rw [e8] at hrow
        have hsz : (nums (sha256 m)).length = 32 := by rw [nums_length, sha256_length]
        have HI := Lib.hid (show (Tryd.prog.info? 36).map (·.size) = some (nums (sha256 m)).length by rw [hsz]; exact info_h)
        have HL := Lib.hid (show (List.replicate 32 (0 : Int)).length = (nums (sha256 m)).length by rw [hsz]; rfl)
        have HRW := Lib.hid hrow
        have HRS := Lib.hid hres
        have HFIN := Lib.hid (setRow_irow (ys := nums (sha256 m)) hres)
        have HBF := Lib.hid (below_setRow hbel (Nat.le_refl _) ((nums (sha256 m)).map (Value.int .u8)).toArray)
        clear h8' e8 hrow hres hbel hi h8 hsz
        go_wp2_with (first
          | (refine wpList_load_irow rfl 36 (.tmp 4) rfl (g := B2) (t := 36) (k := .u8) (xs := nums (sha256 m)) rfl HRW.out Tryd.underlying36 HI.out ?_)
          | (refine wpList_store_irow rfl 36 (.tmp 2) (.tmp 28) rfl (g := B0) (t := 36) (k := .u8) (xs := List.replicate 32 0) (ys := nums (sha256 m)) rfl rfl HRS.out HI.out HL.out ?_))
        refine bodyPost_ret (v := digV (sha256 m)) ?_ rfl ⟨rfl, by rw [← HB0.out]; exact HBF.out⟩
        obtain ⟨fr, hrw⟩ : ∃ fr, ((wr.setRow B0 ((nums (sha256 m)).map (Value.int .u8)).toArray)).heap[B0]? = some (.cells ((nums (sha256 m)).map (Value.int .u8)).toArray 36 fr) := ⟨_, HFIN.out⟩
        exact results_cell_row Tryd.results82 _ _ B0 36 ((nums (sha256 m)).map (Value.int .u8)).toArray fr _ rfl hrw Tryd.underlying36 rfl (by rw [List.size_toArray, List.length_map]; exact HI.out)
end Go.Proofs.YthelmclpmalofaaDoor

/-
  hash.Sum256, Double and Sum.Twice. Conditions: the size stays below 2^59; the roots are laid.
-/
namespace Go.Proofs.YthelmclpmalofaaDoor
open Go.RowKit

theorem sum_zero (w : World) (t : TypeId) : SumIs (w.alloc (.cells zIn.toArray t)) w.heap.size t [] :=
  ⟨_, _, Took.zero, by rw [List.length_replicate], VRow.new w t zIn⟩
set_option maxRecDepth 100000 in
set_option maxHeartbeats 3200000 in
theorem sum256_any (B : Nat) (v : Value) (b : List UInt8) (W0 : World) (hb : Byt W0 B v b) (hB : B ≤ W0.heap.size) (hlen : b.length < 576460752303423488) (hroots : Roots W0) :
    Calls Tryd.prog 68 #[v] W0 fun e w' => e = .returned (digV (sha256 b)) ∧ Below W0.heap.size W0 w' := by
  obtain ⟨A, c, rfl⟩ := hb.form
  have rA := IRow.new W0 36 .u8 (List.replicate 32 0)
  have bA : Below W0.heap.size W0 (W0.alloc (.cells ((List.replicate 32 (0 : Int)).map (Value.int .u8)).toArray 36)) := (Below.refl _ W0).alloc (Nat.le_refl _) _
  have sA : (W0.alloc (.cells ((List.replicate 32 (0 : Int)).map (Value.int .u8)).toArray 36)).heap.size = W0.heap.size + 1 := by simp
  have HB := Lib.hid hb
  have HR := Lib.hid hroots
  clear hb hroots
  have hzs := zero_sum
  go_enter Tryd.func68, Tryd.ntmps68
  go_upto_region 1 with fail
  change Code.wp _ _ _ _ (W0.alloc (.cells ((List.replicate 32 (0 : Int)).map (Value.int .u8)).toArray 36))
  obtain ⟨wA, hwA⟩ : ∃ x, x = W0.alloc (.cells ((List.replicate 32 (0 : Int)).map (Value.int .u8)).toArray 36) := ⟨_, rfl⟩
  rw [← hwA] at rA bA sA ⊢
  have sm := sum_zero wA 112
  have bB : Below wA.heap.size wA (wA.alloc (.cells zIn.toArray 112)) := (Below.refl _ wA).alloc (Nat.le_refl _) _
  have sB : (wA.alloc (.cells zIn.toArray 112)).heap.size = wA.heap.size + 1 := by simp
  have SA := Lib.hid sA
  clear hwA sA
  go_upto_region 2 with fail
  change Code.wp _ _ _ _ (wA.alloc (.cells zIn.toArray 112))
  obtain ⟨wB, hwB⟩ : ∃ x, x = wA.alloc (.cells zIn.toArray 112) := ⟨_, rfl⟩
  rw [← hwB] at sm bB sB ⊢
  obtain ⟨B0, hB0⟩ : ∃ B0, B0 = W0.heap.size := ⟨_, rfl⟩
  obtain ⟨B1, hB1⟩ : ∃ B1, B1 = wA.heap.size := ⟨_, rfl⟩
  rw [← hB1] at sm bB sB ⊢
  rw [← hB0] at rA bA ⊢
  have h10 : B1 = B0 + 1 := by have := SA.out; omega
  have rA2 := rA.below bB (by omega)
  have b2 := bA.trans (bB.mono (by omega : B0 ≤ B1))
  have src : Src wB B1 (.slice A b.length c) b := Src.of_byt (HB.out.below (b2.mono (by omega : B ≤ B0))) (by have := b2.size; omega) (by omega)
  have ro : Roots wB := HR.out.below (by rw [← hB0]; exact b2)
  have C1 := Lib.hid (sumAdd_any B1 _ [] b _ wB sm src (by simp; omega) ro (HR.out.off (by omega)))
  have RA := Lib.hid rA2
  have B2 := Lib.hid b2
  have RO := Lib.hid ro
  have H10 := Lib.hid h10
  have HB0 := Lib.hid hB0
  have HOFF := Lib.hid (HR.out.off (g := B1) (by omega))
  clear hwB sm bB sB hB0 hB1 rA rA2 bA b2 src ro h10
  go_wp2_with fail
  refine C1.out.mono ?_
  rintro e w3 ⟨rfl, hsum, htt⟩
  rw [List.nil_append] at hsum
  have C2 := Lib.hid (sumHash_any B1 _ b w3 hsum hlen (RO.out.turns htt HOFF.out))
  have ra3 := RA.out.turns htt (by have := H10.out; omega)
  have b3 := B2.out.trans (htt.below_of (B := B0) (by have := B2.out.size; have := HB0.out; omega) (by intro i hi h; have := H10.out; omega))
  have RA3 := Lib.hid ra3
  have B3 := Lib.hid b3
  clear hsum htt ra3 b3
  go_wp2_with fail
  refine C2.out.mono ?_
  rintro e w4 ⟨rfl, hb4⟩
  have hsz : (nums (sha256 b)).length = 32 := by rw [nums_length, sha256_length]
  have HI := Lib.hid (show (Tryd.prog.info? 36).map (·.size) = some (nums (sha256 b)).length by rw [hsz]; exact info_h)
  have HL := Lib.hid (show (List.replicate 32 (0 : Int)).length = (nums (sha256 b)).length by rw [hsz]; rfl)
  have ra4 := RA3.out.below hb4 RA3.out.lt
  have b4 := B3.out.trans (hb4.mono (by have := B3.out.size; have := HB0.out; omega))
  have HFIN := Lib.hid (setRow_irow (ys := nums (sha256 b)) ra4)
  have HBF := Lib.hid (below_setRow b4 (Nat.le_refl _) ((nums (sha256 b)).map (Value.int .u8)).toArray)
  have RA4 := Lib.hid ra4
  clear ra4 b4 hb4 hsz
  unfold digV
  go_wp2_with (refine wpList_store_irow rfl 36 (.tmp 2) (.tmp 6) rfl (g := B0) (t := 36) (k := .u8) (xs := List.replicate 32 0) (ys := nums (sha256 b)) rfl rfl RA4.out HI.out HL.out ?_)
  refine bodyPost_ret (v := digV (sha256 b)) ?_ rfl ⟨rfl, by rw [← HB0.out]; exact HBF.out⟩
  obtain ⟨fr, hrw⟩ : ∃ fr, ((w4.setRow B0 ((nums (sha256 b)).map (Value.int .u8)).toArray)).heap[B0]? = some (.cells ((nums (sha256 b)).map (Value.int .u8)).toArray 36 fr) := ⟨_, HFIN.out⟩
  exact results_cell_row Tryd.results68 _ _ B0 36 ((nums (sha256 b)).map (Value.int .u8)).toArray fr _ rfl hrw Tryd.underlying36 rfl (by rw [List.size_toArray, List.length_map]; exact HI.out)
end Go.Proofs.YthelmclpmalofaaDoor
