/-
  The best of some attempts. Conditions: at most four hundred coins.
-/
import Derived.Test.YtammeedmccblcaaCsAt
import Derived.Test.YtammeedmccblcaaCsCn
namespace Go.Proofs.Ytammeedmccblcaa.Cs
open Go.RowKit

/-- A slice whose cells lie elsewhere than in block D. -/
def RowX (w : World) (D : Nat) (v : Value) (n : Nat) (cs : List Value) : Prop := ∃ A c, v = .slice A n c ∧ n ≤ c ∧ c ≤ maxLen ∧ (n ≠ 0 → ∃ b o, A = some ⟨b, o, none⟩ ∧ b < w.heap.size ∧ b ≠ D ∧ w.rangeAt b o cs)
theorem RowX.turns {w w' : World} {D n : Nat} {v : Value} {cs : List Value} (h : RowX w D v n cs) (t : Turns (fun q => q = D) w w') : RowX w' D v n cs := by
  obtain ⟨A, c, hv, h1, h2, h3⟩ := h
  refine ⟨A, c, hv, h1, h2, fun hn => ?_⟩
  obtain ⟨b, o, e, hlt, hne, hr⟩ := h3 hn
  exact ⟨b, o, e, Nat.lt_of_lt_of_le hlt t.size, hne, fun j v hv => (t.cell (p := ⟨b, _, none⟩) hlt hne).trans (hr j v hv)⟩
theorem RowX.of_row {w : World} {B D n : Nat} {v : Value} {cs : List Value} (h : RowR w B v n cs) (hBD : B ≤ D) (hB : B ≤ w.heap.size) : RowX w D v n cs := by
  obtain ⟨A, c, hv, h1, h2, h3⟩ := h
  refine ⟨A, c, hv, h1, h2, fun hn => ?_⟩
  obtain ⟨b, o, e, hlt, hr⟩ := h3 hn
  exact ⟨b, o, e, by omega, by omega, hr⟩
theorem RowX.row {w : World} {D n : Nat} {v : Value} {cs : List Value} (h : RowX w D v n cs) : RowR w w.heap.size v n cs := by
  obtain ⟨A, c, hv, h1, h2, h3⟩ := h
  refine ⟨A, c, hv, h1, h2, fun hn => ?_⟩
  obtain ⟨b, o, e, hlt, _, hr⟩ := h3 hn
  exact ⟨b, o, e, hlt, hr⟩
theorem RowX.of_own {w : World} {base D n : Nat} {e : TypeId} {v : Value} {cs : List Value} (h : w.ownsRow base e 2 v n cs) (hD : D < base) : RowX w D v n cs := by
  obtain ⟨A, c, hv, h1, h2, h3⟩ := RowR.of_own h
  refine ⟨A, c, hv, h1, h2, fun hn => ?_⟩
  obtain ⟨b, o, e, hlt, hr⟩ := h3 hn
  refine ⟨b, o, e, hlt, fun hb => ?_, hr⟩
  have := (h.lt b (by rw [hv, e]; rcases h.2 with ⟨hq, h0⟩ | ⟨g, cap, cur, hq, _⟩
                      · omega
                      · rw [hv, e] at hq; injection hq with hq; injection hq with hq; injection hq with _ hq; subst hq; rfl)).1
  omega
theorem best_next {need x : Int} {l : List Cn} {R j : Nat} (hj : j < R) (b : List Cn × Int) : bestF rollF need l (R - j) b x = bestF rollF need l (R - (j + 1)) (betterF (lastF need (passF rollF need x l)) b) (passF rollF need x l).x := by
  rw [show R - j = (R - (j + 1)) + 1 by omega]
  rfl
set_option maxRecDepth 100000 in
set_option maxHeartbeats 12800000 in
theorem best_any (B : Nat) (need extra rate tries seed tot all : Int) (l : List Cn) (u v : Value) (w : World) (hs : CnR w B v l) (hB : B ≤ w.heap.size) (hp : Pos l) (hl : l.length ≤ 400) (ht : 0 ≤ tries) :
    Calls Try.prog 44 #[.agg (hnC (tkC need extra rate tries seed) u tot).toArray, v, .int .i64 all] w fun e w' => ∃ vb, e = .returned (.tuple #[vb, .int .i64 (bestF rollF need l (roundsF tries) (l, all) (seedF seed)).2]) ∧ CnR w' w'.heap.size vb (bestF rollF need l (roundsF tries) (l, all) (seedF seed)).1 ∧ Below w.heap.size w w' := by
  obtain ⟨RR, hRR⟩ : ∃ z, z = bestF rollF need l (roundsF tries) (l, all) (seedF seed) := ⟨_, rfl⟩
  rw [← hRR]
  obtain ⟨R, hR⟩ : ∃ z, z = roundsF tries := ⟨_, rfl⟩
  obtain ⟨s0, hs0⟩ : ∃ z, z = seedF seed := ⟨_, rfl⟩
  rw [← hR, ← hs0] at hRR
  have hRv : (if tries < 200 then tries else 200) = (R : Int) := by rw [hR]; unfold roundsF; rw [Int.toNat_of_nonneg]; split <;> omega
  have hdc := fun W => dice_any seed W
  rw [← hs0] at hdc
  obtain ⟨A, c, rfl, hlc, hcm⟩ := hs.form
  obtain ⟨n, hn⟩ : ∃ z, z = l.length := ⟨_, rfl⟩
  rw [← hn] at hs
  rw [← hn]
  obtain ⟨w1, hw1⟩ : ∃ z, z = w.alloc (.cells #[.int .i64 need, .int .i64 extra, .int .i64 rate, .int .i64 tries, .int .u64 seed, u, .int .i64 tot] 60) := ⟨_, rfl⟩
  have hb1 : Below w.heap.size w w1 := by rw [hw1]; exact (Below.refl _ _).alloc (Nat.le_refl _) _
  have hv1 : VRow w1 w.heap.size 60 (hnC (tkC need extra rate tries seed) u tot) := by rw [hw1]; exact VRow.new _ _ (hnC (tkC need extra rate tries seed) u tot)
  obtain ⟨G0, hG0⟩ : ∃ z, z = w.heap.size := ⟨_, rfl⟩
  rw [← hG0] at hv1
  have HV1 := Lib.hid hv1
  have HB1 := Lib.hid hb1
  have HW1 := Lib.hid hw1
  have HS := Lib.hid hs
  have HB := Lib.hid hB
  have HP := Lib.hid hp
  have HN := Lib.hid hn
  have HL := Lib.hid hl
  have HRR := Lib.hid hRR
  have HG0 := Lib.hid hG0
  have HDC := Lib.hid (hdc w1)
  have x4 : w1.cell? ⟨G0, 4, none⟩ = some (.int .u64 seed) := hv1.cell rfl
  clear hv1 hb1 hw1 hs hB hp hn hRR hG0 hdc hR hs0 hl
  unfold tkC hnC
  go_enter Try.func44, Try.ntmps44
  go_upto_region 2 with fail
  change Code.wp _ _ _ _ (w.alloc (.cells #[.int .i64 need, .int .i64 extra, .int .i64 rate, .int .i64 tries, .int .u64 seed, u, .int .i64 tot] 60))
  rw [← HW1.out, ← HG0.out]
  go_upto_region 3 with (first | (go_at_call 56; refine HDC.out.mono ?_; rintro e w2 ⟨D, rfl, hD, hd2, hb2⟩))
  have V2 := Lib.hid (HV1.out.below hb2 HV1.out.lt)
  have B2 := Lib.hid (HB1.out.trans (hb2.mono HB1.out.size))
  have x3 : w2.cell? ⟨G0, 3, none⟩ = some (.int .i64 tries) := V2.out.cell rfl
  have S2 := Lib.hid (show CnR w2 B (.slice A n c) l from HS.out.below (B2.out.mono HB.out))
  have HDD := Lib.hid (show B ≤ D ∧ w.heap.size ≤ D ∧ G0 < D from ⟨Nat.le_trans HB.out (Nat.le_trans HB1.out.size hD), Nat.le_trans HB1.out.size hD, Nat.lt_of_lt_of_le HV1.out.lt hD⟩)
  have D2 := Lib.hid hd2
  clear hD hd2 hb2 x4
  go_wp2_with fail
  have AT := Lib.hid (fun (x : Int) (W : World) (h : CnR W B (.slice A n c) l) (hd : VRow W D 119 [.int .u64 x]) => attempt_any B D need extra rate tries seed tot x l u (.slice A n c) W h HDD.out.1 hd HP.out HL.out)
  unfold tkC hnC at AT
  have hsz2 := Lib.hid B2.out.size
  go_loopw [8, 9, 22] (fun sb sl si wr => ∃ (j : Nat) (vb : Value) (b : List Cn × Int) (x : Int), vb = sb ∧ sl = .int .i64 b.2 ∧ j ≤ R ∧ si = .int .i64 (j : Int) ∧ Hid (RR = bestF rollF need l (R - j) b x) ∧ Hid (RowX wr D vb b.1.length (b.1.flatMap cnC)) ∧ Hid (VRow wr D 119 [.int .u64 x]) ∧ Hid (Turns (fun q => q = D) w2 wr)) (fun _ _ si _ => R - (intOf si).toNat)
  case atStart => exact ⟨0, _, (l, all), s0, rfl, rfl, Nat.zero_le _, rfl, HRR, Lib.hid (by rw [← HN.out]; have q := RowX.of_row S2.out HDD.out.1 (by have := hsz2.out; have := HB.out; omega); rw [← HN.out] at q; exact q), D2, Lib.hid (Turns.refl _ _)⟩
  case round =>
    obtain ⟨j, vb, b, x, hvb, rfl, hj, rfl, hbf, hrx, hdx, htt⟩ := hrel
    subst hvb
    obtain ⟨w3, rfl⟩ : ∃ z : World, z = wr := ⟨_, rfl⟩
    by_cases hlt : j < R
    · have dj : decide ((j : Int) < (R : Int)) = true := decide_eq_true (by omega)
      have hV3 : VRow w3 G0 60 [.int .i64 need, .int .i64 extra, .int .i64 rate, .int .i64 tries, .int .u64 seed, u, .int .i64 tot] := V2.out.turns htt.out (by have := HDD.out.2.2; omega)
      have hS3 : CnR w3 B (.slice A n c) l := RowR.turnsD S2.out HDD.out.1 (by have := hsz2.out; have := HB.out; omega) htt.out
      have hat := AT.out x w3 hS3 hdx.out
      have hok := last_ok rollF need x HP.out
      have hnx := best_next (need := need) (x := x) (l := l) hlt b
      obtain ⟨S, hS⟩ : ∃ z, z = lastF need (passF rollF need x l) := ⟨_, rfl⟩
      obtain ⟨x', hx'⟩ : ∃ z, z = (passF rollF need x l).x := ⟨_, rfl⟩
      rw [← hS, ← hx'] at hat hnx
      rw [← hS] at hok
      have HAT := Lib.hid hat
      have HOK := Lib.hid hok
      have HNX := Lib.hid (hbf.out.trans hnx)
      clear hat hok hnx hS hx' hbf hdx hS3
      go_upto_region 6 with (first
        | (refine wpList_load_vrow rfl 60 (.tmp 3) rfl rfl hV3 Try.underlying60 (by kernel_rfl) ?_)
        | (go_at_call 57; refine HAT.out.mono ?_; rintro e w5 ⟨G, pk, rfl, hG, V5, O5, D5, t5⟩))
      have HRX := Lib.hid (hrx.out.turns t5)
      have HTT := Lib.hid (htt.out.trans t5 (fun _ _ h => h))
      have HV5 := Lib.hid V5
      have HO5 := Lib.hid O5
      have HD5 := Lib.hid D5
      have HGL := Lib.hid (show w3.heap.size ≤ G from hG)
      have HDW := Lib.hid D5.lt
      have x6 : w5.cell? ⟨G, 6, none⟩ = some (.int .i64 S.m) := V5.cell rfl
      have HNE := Lib.hid (show D < G from Nat.lt_of_lt_of_le (by have h1 := htt.out.size; have h2 := D2.out.lt; omega) hG)
      clear hG V5 O5 D5 t5 hrx htt hV3
      by_cases hm : S.m < b.2
      · as_aux_lemma =>
        have dm : decide (S.m < b.2) = true := decide_eq_true hm
        have hbt : betterF S b = (coinsA S, S.m) := if_pos hm
        have HNX2 := Lib.hid (HNX.out.trans (by rw [hbt]))
        have HCO := Lib.hid (acoins_any G need (l.length + l.length) S pk w5.drew (by have := HL.out; omega) HOK.out HV5.out HO5.out)
        clear hm HNX hbt
        have V6 := Lib.hid (show VRow w5.drew G 102 (atS need pk S) from HV5.out)
        go_upto_region 7 with fail
        refine wp_region_held_drew (S := (fun w' => VRow w' G 102 (atS need pk S))) (by kernel_rfl) ?_ (fun hHeld => ?_)
        · exact V6.out
        refine wpAnyH_take (i := 0) (oi := { dst := some 34, op := Go.Op.move (Go.Operand.tmp 11), type := 99, pos := "throw.go:50", after := #[], guard := none }) (v := ?av0) rfl (by kernel_rfl) (by kernel_rfl) (by kernel_rfl) (fun _ _ _ h => h) (Or.inl ⟨by rfl, ?ay0⟩) (by assumption) ?ar0
        case ay0 => (intro w hSw; (try dsimp only at hSw); go_simp; try (with_reducible rfl))
        case ar0 =>
        try simp only [Act.put, List.setIfInBounds_toArray, List.set_cons_zero, List.set_cons_succ]
        refine wpAnyH_take (i := 2) (oi := { dst := some 36, op := Go.Op.move (Go.Operand.tmp 11), type := 99, pos := "throw.go:50", after := #[{ on := 6, ground := Go.Ground.gcOnly Go.Departure.lateStores }], guard := none }) (v := ?av2) rfl (by kernel_rfl) (by kernel_rfl) (by kernel_rfl) (fun _ _ _ h => h) (Or.inl ⟨by rfl, ?ay2⟩) (by assumption) ?ar2
        case ay2 => (intro w hSw; (try dsimp only at hSw); go_simp; try (with_reducible rfl))
        case ar2 =>
        try simp only [Act.put, List.setIfInBounds_toArray, List.set_cons_zero, List.set_cons_succ]
        refine wpAnyH_take (i := 3) (oi := { dst := some 37, op := Go.Op.nilCheck (Go.Operand.tmp 36), type := 0, pos := "throw.go:50", after := #[{ on := 2, ground := Go.Ground.data }, { on := 6, ground := Go.Ground.gcOnly Go.Departure.lateStores }], guard := none }) (v := ?av3) rfl (by kernel_rfl) (by kernel_rfl) (by kernel_rfl) (fun _ _ _ h => h) (Or.inl ⟨by rfl, ?ay3⟩) (by assumption) ?ar3
        case ay3 => (intro w hSw; (try dsimp only at hSw); go_simp; try (with_reducible rfl))
        case ar3 =>
        try simp only [Act.put, List.setIfInBounds_toArray, List.set_cons_zero, List.set_cons_succ]
        refine wpAnyH_take (i := 4) (oi := { dst := some 38, op := Go.Op.fieldAddr 102 (Go.Operand.tmp 37) 5, type := 0, pos := "throw.go:50", after := #[{ on := 3, ground := Go.Ground.data }, { on := 6, ground := Go.Ground.gcOnly Go.Departure.lateStores }], guard := none }) (v := ?av4) rfl (by kernel_rfl) (by kernel_rfl) (by kernel_rfl) (fun _ _ _ h => h) (Or.inl ⟨by rfl, ?ay4⟩) (by assumption) ?ar4
        case ay4 => (intro w hSw; (try dsimp only at hSw); go_simp; try (with_reducible rfl))
        case ar4 =>
        try simp only [Act.put, List.setIfInBounds_toArray, List.set_cons_zero, List.set_cons_succ]
        refine wpAnyH_take (i := 5) (oi := { dst := some 39, op := Go.Op.load 2 (Go.Operand.tmp 38), type := 2, pos := "throw.go:50", after := #[{ on := 4, ground := Go.Ground.data }, { on := 6, ground := Go.Ground.gcOnly Go.Departure.lateStores }], guard := none }) (v := (.int .i64 S.m)) rfl (by kernel_rfl) (by kernel_rfl) (by kernel_rfl) (fun _ _ _ h => h) (yieldsIf_load1 (by rfl) 2 (.tmp 38) rfl (b := G) (o := 6) rfl (fun w => by kernel_rfl) (fun w h => VRow.cell h rfl)) (by assumption) ?_
        try simp only [Act.put, List.setIfInBounds_toArray, List.set_cons_zero, List.set_cons_succ]
        refine wpAnyH_ready (rs := [1]) (by kernel_rfl) (by simp) ?_
        refine AllReadyH.cons (o := { dst := some 35, op := Go.Op.call { callee := Go.Callee.value (Go.Operand.func 58), args := #[Go.Operand.tmp 34], argTypes := #[99] }, type := 58, pos := "throw.go:50", after := #[{ on := 0, ground := Go.Ground.data }], guard := none }) rfl (fun K hK => ?_) (AllReadyH.nil)
        go_simp
        refine (HCO.out).mono ?_
        rintro e w6 ⟨v6, rfl, O6, B6⟩
        obtain ⟨A6, c6, rfl⟩ := own_form O6
        go_simp
        refine hK.out _ _ ?_ (fun hHeld => ?_)
        · exact V6.out.below B6 V6.out.lt
        clear hK K
        try simp only [Act.put, List.setIfInBounds_toArray, List.set_cons_zero, List.set_cons_succ]
        refine wpAnyH_take (i := 6) (oi := { dst := some 8, op := Go.Op.assign (Go.Operand.tmp 35), type := 58, pos := "throw.go:50", after := #[{ on := 1, ground := Go.Ground.data }, { on := 1, ground := Go.Ground.chain }, { on := 0, ground := Go.Ground.phase }, { on := 1, ground := Go.Ground.phase }, { on := 2, ground := Go.Ground.textOnly Go.Departure.lateStores }, { on := 3, ground := Go.Ground.textOnly Go.Departure.lateStores }, { on := 4, ground := Go.Ground.textOnly Go.Departure.lateStores }, { on := 5, ground := Go.Ground.textOnly Go.Departure.lateStores }], guard := none }) (v := ?a_1v6) rfl (by kernel_rfl) (by kernel_rfl) (by kernel_rfl) (fun _ _ _ h => h) (Or.inl ⟨by rfl, ?a_1y6⟩) (by assumption) ?a_1r6
        case a_1y6 => (intro w hSw; (try dsimp only at hSw); go_simp; try (with_reducible rfl))
        case a_1r6 =>
        try simp only [Act.put, List.setIfInBounds_toArray, List.set_cons_zero, List.set_cons_succ]
        refine wpAnyH_take (i := 7) (oi := { dst := some 9, op := Go.Op.assign (Go.Operand.tmp 39), type := 2, pos := "throw.go:50", after := #[{ on := 5, ground := Go.Ground.data }, { on := 6, ground := Go.Ground.chain }, { on := 0, ground := Go.Ground.phase }, { on := 1, ground := Go.Ground.phase }, { on := 2, ground := Go.Ground.phase }, { on := 3, ground := Go.Ground.phase }, { on := 4, ground := Go.Ground.phase }, { on := 5, ground := Go.Ground.phase }, { on := 6, ground := Go.Ground.phase }], guard := none }) (v := ?a_1v7) rfl (by kernel_rfl) (by kernel_rfl) (by kernel_rfl) (fun _ _ _ h => h) (Or.inl ⟨by rfl, ?a_1y7⟩) (by assumption) ?a_1r7
        case a_1y7 => (intro w hSw; (try dsimp only at hSw); go_simp; try (with_reducible rfl))
        case a_1r7 =>
        try simp only [Act.put, List.setIfInBounds_toArray, List.set_cons_zero, List.set_cons_succ]
        refine wpAnyH_done (by kernel_rfl) ?_ _
        go_wp2_with fail
        refine ⟨⟨j + 1, .slice A6 (coinsA S).length c6, (coinsA S, S.m), x', rfl, rfl, hlt, by first | rfl | exact next (by omega), HNX2, Lib.hid (RowX.of_own O6 HDW.out), Lib.hid (VRow.below (w := w5.drew) HD5.out B6 HDW.out), Lib.hid (HTT.out.drew.trans (Turns.of_below (S := fun q => q = D) B6) (fun _ _ h => h))⟩, by first | exact meas hlt (by omega) | (show R - ((j : Int) + 1).toNat < R - (j : Int).toNat; omega)⟩
      · as_aux_lemma =>
        have dm : decide (S.m < b.2) = false := decide_eq_false hm
        have hbt : betterF S b = b := if_neg hm
        have HNX2 := Lib.hid (HNX.out.trans (by rw [hbt]))
        clear hm HNX hbt
        go_wp2_with fail
        exact ⟨⟨j + 1, vb, b, x', rfl, rfl, hlt, by first | rfl | exact next (by omega), HNX2, HRX, HD5, HTT⟩, by first | exact meas hlt (by omega) | (show R - ((j : Int) + 1).toNat < R - (j : Int).toNat; omega)⟩
    · as_aux_lemma =>
      have dj : decide ((j : Int) < (R : Int)) = false := decide_eq_false (by omega)
      have hRe : RR = b := by
        rw [hbf.out, show R - j = 0 by omega]
        rfl
      subst hRe
      go_wp2_with fail
      go_ret2
      exact ⟨_, rfl, RowX.row hrx.out, B2.out.trans (htt.out.below_of hsz2.out (fun i hi h => by have := HDD.out.2.1; omega))⟩
end Go.Proofs.Ytammeedmccblcaa.Cs
