/-
  The law on digests of pieces. Conditions: the roots are laid.
-/
import Derived.Test.YtnmegdhidpkklaaDoorHP23
import Derived.Stop.BytesEq
namespace Go.Proofs.YtnmegdhidpkklaaDoor
open Go.RowKit

theorem Byt.first {w : World} {B c n : Nat} {A : Option Addr} {xs : List UInt8} (h : Byt w B (.slice A n c) xs) {k : Nat} (hk : k ≤ xs.length) : Byt w B (.slice A k c) (xs.take k) := by
  obtain ⟨A', c', e, h1, h2, h3, h4⟩ := h
  injection e with e1 e2 e3
  subst e1 e3
  have hl : (xs.take k).length = k := by rw [List.length_take]; omega
  refine ⟨A, c, by rw [hl], by omega, h2, fun h => ?_, fun hne => ?_⟩
  · obtain ⟨rfl, hc⟩ := h3 h
    exact ⟨by simp, hc⟩
  · obtain ⟨b, o, e1, hb, hc⟩ := h4 (fun e => by rw [e] at hne; simp at hne)
    refine ⟨b, o, e1, hb, fun j u hu => hc j u ?_⟩
    rw [List.getElem?_take] at hu
    split at hu
    · exact hu
    · exact absurd hu (by simp)
theorem Row.src {w : World} {G S n c : Nat} {zs xs : List UInt8} (h : Row w G zs) (hx : xs = zs.take n) (hn : n ≤ zs.length) (hc : n ≤ c) (hcm : c ≤ maxLen) (hne : G ≠ S) : Src w S (.slice (some ⟨G, 0, none⟩) n c) xs := by
  have hl : xs.length = n := by rw [hx, List.length_take]; omega
  refine ⟨some ⟨G, 0, none⟩, c, by rw [hl], by omega, hcm, (by intro h; cases h), fun _ => ⟨G, 0, rfl, h.lt, hne, fun j u hu => ?_⟩⟩
  rw [Nat.zero_add]
  refine h.cell ?_
  rw [hx, List.getElem?_take] at hu
  split at hu
  · exact hu
  · exact absurd hu (by simp)
theorem bits8_u (op : BinOp) (a b : Int) : 0 ≤ bits op .u8 a b ∧ bits op .u8 a b < 256 := by
  unfold bits
  have : ∀ n : Int, 0 ≤ IntKind.u8.wrap n ∧ IntKind.u8.wrap n < 256 := fun n => by rw [IntKind.wrap_u8]; omega
  exact this _
theorem take_sub {b : List UInt8} {p n : Nat} (h : p ≤ n) : b.take p ++ (b.drop p).take (n - p) = b.take n := by
  obtain ⟨k, rfl⟩ : ∃ k, n = p + k := ⟨n - p, by omega⟩
  rw [Nat.add_sub_cancel_left, List.take_add]

set_option maxRecDepth 100000 in
set_option maxHeartbeats 6400000 in
theorem hpieces_law (B B2 : Nat) (x y : Value) (bs : List UInt8) (cuts : List Int) (w : World) (hr : Roots w) (hx : Byt w B x bs) (hB : B ≤ w.heap.size) (hy : Ints .i64 w B2 y cuts) (hB2 : B2 ≤ w.heap.size) :
    Calls Tryd.prog 5 #[x, y] w fun e w' => e = .returned (.bool true) ∧ Below w.heap.size w w' := by
  obtain ⟨A0, c0, rfl⟩ := hx.form
  obtain ⟨Ay, cy, rfl, hcy1, hcy2, hcy3, hcy4⟩ := hy
  unfold maxLen at hcy2
  have CA := Lib.hid (hawake_any w hr)
  have HX := Lib.hid hx
  have HR := Lib.hid hr
  have HY := Lib.hid hcy4
  clear hx hr hcy4 hcy3
  go_enter Tryd.func5, Tryd.ntmps5
  go_wp2_with fail
  refine CA.out.mono ?_
  rintro e w1 ⟨rfl, hb1⟩
  have CS := Lib.hid (hshort_any B _ bs w1 (HX.out.below (hb1.mono hB)))
  have B1 := Lib.hid hb1
  have R1 := Lib.hid (HR.out.below hb1)
  clear hb1
  go_wp2_with fail
  refine CS.out.mono ?_
  rintro e w1' ⟨⟨v0, rfl, hv⟩, rfl⟩
  obtain ⟨b, hb⟩ : ∃ b, b = bs.take 600 := ⟨_, rfl⟩
  have hbl : b.length ≤ 600 := by rw [hb, List.length_take]; omega
  rw [← hb] at hv
  obtain ⟨A, c, rfl⟩ := hv.form
  obtain ⟨hc1, hc2⟩ := hv.cap
  have HV := Lib.hid hv
  clear hv hb
  have sm := sum_zero w1 46
  have bS : Below w1.heap.size w1 (w1.alloc (.cells zIn.toArray 46)) := (Below.refl _ w1).alloc (Nat.le_refl _) _
  have SM := Lib.hid sm
  have BS := Lib.hid bS
  clear sm bS
  go_upto_region 5 with fail
  change Code.wp _ _ _ _ (w1.alloc (.cells zIn.toArray 46))
  obtain ⟨wS, hwS⟩ : ∃ x, x = w1.alloc (.cells zIn.toArray 46) := ⟨_, rfl⟩
  rw [← hwS] at SM BS ⊢
  obtain ⟨S, hS⟩ : ∃ S, S = w1.heap.size := ⟨_, rfl⟩
  rw [← hS] at SM BS ⊢
  have hwSs : w.heap.size ≤ S := by rw [hS]; exact B1.out.size
  have VS := Lib.hid (HV.out.below (BS.out.mono (by omega : B ≤ S)))
  have RS := Lib.hid (show Roots wS from R1.out.below (by rw [← hS]; exact BS.out))
  have OFF := Lib.hid (R1.out.off (g := S) (by omega))
  have BW := Lib.hid (show Below w.heap.size w wS from B1.out.trans (BS.out.mono (by omega)))
  have HYS := Lib.hid (show ∀ W, Below S wS W → cuts ≠ [] → ∃ b o, Ay = some ⟨b, o, none⟩ ∧ b < B2 ∧ ∀ (j : Nat) (u : Int), cuts[j]? = some u → W.cell? ⟨b, o + j, none⟩ = some (.int .i64 u) from fun W hW hne => by
    obtain ⟨b, o, e, hb, hc⟩ := HY.out hne
    exact ⟨b, o, e, hb, fun j u hu => (hW.cell (p := ⟨b, o + j, none⟩) (by show b < S; omega)).trans ((BW.out.cell (p := ⟨b, o + j, none⟩) (by show b < _; omega)).trans (hc j u hu))⟩)
  have S1 := Lib.hid (show S < wS.heap.size by obtain ⟨_, _, _, _, h⟩ := SM.out; exact h.lt)
  clear hwS hS
  go_upto_block 0 with fail
  go_cut [6] (fun v6 wx => ∃ p : Nat, p ≤ b.length ∧ v6 = .int .i64 (p : Int) ∧ SumIs wx S 46 (b.take p) ∧ Turns (· = S) wS wx)
  case first =>
    go_wp2_with fail
    go_loopw [6, 7] (fun v6 v7 wr => ∃ p i : Nat, p ≤ b.length ∧ i ≤ 700 ∧ v6 = .int .i64 (p : Int) ∧ v7 = .int .i64 (i : Int) ∧ SumIs wr S 46 (b.take p) ∧ Turns (· = S) wS wr) (fun _ v7 _ => 700 - (intOf v7).toNat)
    case atStart => exact ⟨0, 0, by omega, by omega, rfl, rfl, SM.out, Turns.refl _ _⟩
    case round =>
      obtain ⟨p, i, hp, hi, rfl, rfl, hsum, htt⟩ := hrel
      obtain ⟨w2, hw2⟩ : ∃ w2 : World, w2 = wr := ⟨_, rfl⟩
      rw [← hw2] at hsum htt ⊢
      clear hw2
      have SU := Lib.hid hsum
      have TT := Lib.hid htt
      clear hsum htt
      by_cases hlt : p < b.length ∧ i < 700
      · obtain ⟨hlt1, hlt2⟩ := hlt
        have d1 : (p : Int) < (b.length : Int) := by omega
        have d2 : (i : Int) < 700 := by omega
        have d3 : decide ((i : Int) < 700) = true := decide_eq_true d2
        go_upto_if 29 with fail
        go_cut [8] (fun v8 wx => ∃ n : Nat, n ≤ 600 ∧ v8 = .int .i64 (n : Int) ∧ wx = w2)
        case first =>
          by_cases hc0 : cuts.length = 0
          · have dc : decide ((0 : Int) < (cuts.length : Int)) = false := decide_eq_false (by omega)
            have dc' : decide (0 < cuts.length) = false := decide_eq_false (by omega)
            go_wp2_with fail
            go_meet
            exact ⟨1, by omega, rfl, rfl⟩
          · obtain ⟨k, hk⟩ : ∃ k, k = i % cuts.length := ⟨_, rfl⟩
            have hkl : k < cuts.length := by rw [hk]; exact Nat.mod_lt _ (by omega)
            have ek : (i : Int) % (cuts.length : Int) = (k : Int) := by rw [hk]; rfl
            have hne : cuts ≠ [] := by rintro rfl; simp at hc0
            obtain ⟨bb, o, hAy, hbb, hcc⟩ := HYS.out w2 (TT.out.below_of (B := S) (by have := S1.out; omega) (by intro i hi h; omega)) hne
            obtain ⟨z, hz⟩ : ∃ z, cuts[k]? = some z := ⟨_, List.getElem?_eq_getElem hkl⟩
            have hcz := hcc k z hz
            have dk : (k : Int) < (cuts.length : Int) := by omega
            have dc : decide (0 < cuts.length) = true := decide_eq_true (by omega)
            have dnz : ¬ (cuts.length : Int) = 0 := by omega
            subst hAy
            clear hk hz hcc
            by_cases z1 : (b.length : Int) < z
            · have z2 : (0 : Int) < (b.length : Int) := by omega
              go_wp2_with fail
              go_meet
              exact ⟨b.length, by omega, rfl, rfl⟩
            · by_cases z2 : 0 < z
              · go_wp2_with fail
                go_meet
                exact ⟨z.toNat, by omega, congrArg (Value.int .i64) (by omega), rfl⟩
              · go_wp2_with fail
                go_meet
                exact ⟨0, by omega, rfl, rfl⟩
        case rest =>
          obtain ⟨n, hn, rfl, rfl⟩ := hcut
          go_upto_region 13 with fail
          obtain ⟨nx, hnx⟩ : ∃ nx, nx = min (p + n) b.length := ⟨_, rfl⟩
          have enx : (if (b.length : Int) < (p : Int) + (n : Int) then (b.length : Int) else (p : Int) + (n : Int)) = (nx : Int) := by split <;> omega
          rw [enx]
          have hpn : p ≤ nx := by omega
          have hnb : nx ≤ b.length := by omega
          clear hnx enx
          have vc := VS.out.keep (w' := wc) (fun b o hb => TT.out.cell (p := ⟨b, o, none⟩) (by show b < _; have := S1.out; omega) (by show b ≠ S; omega))
          have esub := run_sub A b.length c p nx hpn (by omega)
          have hsub := vc.sub hpn hnb
          obtain ⟨A1, hA1⟩ : ∃ A1, A1 = if c = p then A else A.map (fun x => x.add p) := ⟨_, rfl⟩
          rw [← hA1] at esub hsub
          obtain ⟨pc, hpc⟩ : ∃ pc, pc = (b.drop p).take (nx - p) := ⟨_, rfl⟩
          have hpl : pc.length = nx - p := by rw [hpc, List.length_take, List.length_drop]; omega
          rw [← hpc, ← hpl] at hsub
          rw [← hpl] at esub
          have CP := Lib.hid (spare_any B _ pc wc hsub (by have := TT.out.size; have := S1.out; omega) (by omega))
          have HSUB := Lib.hid hsub
          have VC := Lib.hid vc
          have HPC := Lib.hid hpc
          have HPL := Lib.hid hpl
          clear hA1 hsub vc hpc hpl
          go_wp2_with fail
          refine CP.out.mono ?_
          rintro e w3 ⟨rfl, hrow, hb3⟩
          obtain ⟨G, hG⟩ : ∃ G, G = wc.heap.size := ⟨_, rfl⟩
          rw [← hG] at hrow hb3 ⊢
          have hSG : S < G := by rw [hG]; exact Nat.lt_of_lt_of_le S1.out TT.out.size
          have htl : (tinted pc).length = pc.length + 9 := tinted_length pc
          have hsrc : Src w3 S (.slice (some ⟨G, 0, none⟩) pc.length (pc.length + 9)) pc := hrow.src (by unfold tinted; rw [List.take_left]) (by omega) (by omega) (by unfold maxLen; have := HPL.out; omega) (by omega)
          have t3 : Turns (· = S) wS w3 := TT.out.trans (Turns.of_below (S := (· = S)) (by rw [← hG]; exact hb3)) (fun _ _ h => h)
          have CAD := Lib.hid (sumAdd_any S _ (b.take p) pc _ w3 (SU.out.below (by rw [← hG]; exact hb3)) hsrc (by rw [List.length_take]; have := HPL.out; omega) (RS.out.turns t3 OFF.out) OFF.out)
          have HROW := Lib.hid hrow
          have T3 := Lib.hid t3
          have HG := Lib.hid hG
          clear hrow hb3 hG htl hsrc t3
          go_wp2_with fail
          refine CAD.out.mono ?_
          rintro e w4 ⟨rfl, hsum4, ht4⟩
          rw [HPC.out, take_sub hpn] at hsum4
          have t4 := T3.out.trans ht4 (fun _ _ h => h)
          have row4 := HROW.out.turns ht4 (by omega)
          have v4 := VS.out.keep (w' := w4) (fun b o hb => t4.cell (p := ⟨b, o, none⟩) (by show b < _; have := S1.out; omega) (by show b ≠ S; omega))
          have sub4 : Byt w4 B (.slice A1 pc.length (c - p)) pc := HSUB.out.keep (fun b o hb => (t4.cell (p := ⟨b, o, none⟩) (by show b < _; have := S1.out; omega) (by show b ≠ S; omega)).trans (TT.out.cell (p := ⟨b, o, none⟩) (by show b < _; have := S1.out; omega) (by show b ≠ S; omega)).symm)
          have tby : Byt w4 w4.heap.size (.slice (some ⟨G, 0, none⟩) (pc.length + 9) (pc.length + 9)) (tinted pc) := by
            have h := row4.byt (n := pc.length + 9) (c := pc.length + 9) (by rw [tinted_length]; exact Nat.le_refl _) (Nat.le_refl _) (by unfold maxLen; have := HPL.out; omega)
            rw [List.take_of_length_le (by rw [tinted_length]; exact Nat.le_refl _)] at h
            exact h
          have CK := Lib.hid (kept_yes _ _ _ _ pc w4.drew (tby.keep (fun _ _ _ => rfl)) (sub4.keep (fun _ _ _ => rfl)) (by have := HPL.out; omega))
          have ro4 : Roots w4 := RS.out.turns t4 OFF.out
          have hB4 : B ≤ w4.heap.size := by have := t4.size; have := S1.out; omega
          have CH := Lib.hid (fun (W : World) (hW : Below w4.heap.size w4 W) => sumHash_any S _ (b.take nx) W (hsum4.below hW) (by rw [List.length_take]; omega) (ro4.below hW))
          have CR := Lib.hid (fun (W : World) (hW : Below w4.heap.size w4 W) => rsum256_any B _ (b.take nx) W ((v4.first hnb).below (hW.mono hB4)) (by have := hW.size; omega) (by rw [List.length_take]; omega))
          have heq := fun W => eq_h (sha256 (b.take nx)) (sha256 (b.take nx)) (sha256_length _) (sha256_length _) W
          simp only [beq_self_eq_true] at heq
          have SU4 := Lib.hid hsum4
          have T4 := Lib.hid t4
          have ROW4 := Lib.hid row4
          have V4 := Lib.hid v4
          have G4 := Lib.hid row4.lt
          have HEQ := Lib.hid heq
          have i5 : (nx : Int) ≤ (c : Int) := by omega
          clear hsum4 ht4 t4 row4 v4 sub4 tby ro4 hB4 heq
          go_upto_region 15 with fail
          go_cut [75] (fun v75 wx => v75 = .bool false ∧ Below w4.heap.size w4 wx)
          case first => as_aux_lemma =>
            have heq := HEQ.out
            by_cases i8 : i < 8
            · have d8 : decide ((i : Int) < 8) = true := decide_eq_true (by omega)
              refine wp_region_held_drew (S := AnyW) (by kernel_rfl) ?_ (fun hHeld => ?_)
              · exact anyW _
              refine wpAnyH_take (i := 0) (oi := { dst := some 57, op := Go.Op.move (Go.Operand.tmp 11), type := 22, pos := "law.go:62", after := #[], guard := none }) (v := ?av0) rfl (by kernel_rfl) (by kernel_rfl) (by kernel_rfl) (fun _ _ _ h => h) (Or.inl ⟨by rfl, ?ay0⟩) (by assumption) ?ar0
              case ay0 => (intro w hSw; (try dsimp only at hSw); go_simp; try (with_reducible rfl))
              case ar0 =>
              try simp only [Act.put, List.setIfInBounds_toArray, List.set_cons_zero, List.set_cons_succ]
              refine wpAnyH_take (i := 1) (oi := { dst := some 58, op := Go.Op.move (Go.Operand.tmp 0), type := 22, pos := "law.go:62", after := #[], guard := none }) (v := ?av1) rfl (by kernel_rfl) (by kernel_rfl) (by kernel_rfl) (fun _ _ _ h => h) (Or.inl ⟨by rfl, ?ay1⟩) (by assumption) ?ar1
              case ay1 => (intro w hSw; (try dsimp only at hSw); go_simp; try (with_reducible rfl))
              case ar1 =>
              try simp only [Act.put, List.setIfInBounds_toArray, List.set_cons_zero, List.set_cons_succ]
              refine wpAnyH_take (i := 2) (oi := { dst := some 59, op := Go.Op.move (Go.Operand.tmp 6), type := 3, pos := "law.go:62", after := #[], guard := none }) (v := ?av2) rfl (by kernel_rfl) (by kernel_rfl) (by kernel_rfl) (fun _ _ _ h => h) (Or.inl ⟨by rfl, ?ay2⟩) (by assumption) ?ar2
              case ay2 => (intro w hSw; (try dsimp only at hSw); go_simp; try (with_reducible rfl))
              case ar2 =>
              try simp only [Act.put, List.setIfInBounds_toArray, List.set_cons_zero, List.set_cons_succ]
              refine wpAnyH_take (i := 3) (oi := { dst := some 60, op := Go.Op.move (Go.Operand.tmp 9), type := 3, pos := "law.go:62", after := #[], guard := none }) (v := ?av3) rfl (by kernel_rfl) (by kernel_rfl) (by kernel_rfl) (fun _ _ _ h => h) (Or.inl ⟨by rfl, ?ay3⟩) (by assumption) ?ar3
              case ay3 => (intro w hSw; (try dsimp only at hSw); go_simp; try (with_reducible rfl))
              case ar3 =>
              try simp only [Act.put, List.setIfInBounds_toArray, List.set_cons_zero, List.set_cons_succ]
              refine wpAnyH_take (i := 4) (oi := { dst := some 61, op := Go.Op.slice 22 (Go.Operand.tmp 58) (some (Go.Operand.tmp 59)) (some (Go.Operand.tmp 60)) none, type := 22, pos := "law.go:62", after := #[{ on := 1, ground := Go.Ground.data }, { on := 2, ground := Go.Ground.data }, { on := 3, ground := Go.Ground.data }], guard := none }) (v := ?av4) rfl (by kernel_rfl) (by kernel_rfl) (by kernel_rfl) (fun _ _ _ h => h) (Or.inl ⟨by rfl, ?ay4⟩) (by assumption) ?ar4
              case ay4 => (intro w hSw; (try dsimp only at hSw); go_simp; try (with_reducible rfl))
              case ar4 =>
              try simp only [Act.put, List.setIfInBounds_toArray, List.set_cons_zero, List.set_cons_succ]
              refine wpAnyH_ready (rs := [5]) (by kernel_rfl) (by simp) ?_
              refine AllReadyH.cons (o := { dst := some 62, op := Go.Op.call { callee := Go.Callee.value (Go.Operand.func 17), args := #[Go.Operand.tmp 57, Go.Operand.tmp 61], argTypes := #[22, 22] }, type := 4, pos := "law.go:62", after := #[{ on := 0, ground := Go.Ground.data }, { on := 4, ground := Go.Ground.data }], guard := none }) rfl (fun K hK => ?_) (AllReadyH.nil)
              go_simp
              refine (CK.out).mono ?_
              rintro e w5 ⟨rfl, k5, rfl⟩
              go_simp
              have BX := Lib.hid (show Below w4.heap.size w4 (w4.drewN (1 + k5)) from ⟨rfl, rfl, rfl, Nat.le_refl _, fun _ _ => rfl⟩)
              refine hK.out _ _ ?_ (fun hHeld => ?_)
              · exact anyW _
              clear hK K
              try simp only [Act.put, List.setIfInBounds_toArray, List.set_cons_zero, List.set_cons_succ]
              refine wpAnyH_take (i := 6) (oi := { dst := some 63, op := Go.Op.unOp Go.UnOp.not 4 (Go.Operand.tmp 62), type := 4, pos := "law.go:62", after := #[{ on := 5, ground := Go.Ground.data }], guard := none }) (v := ?a_5v6) rfl (by kernel_rfl) (by kernel_rfl) (by kernel_rfl) (fun _ _ _ h => h) (Or.inl ⟨by rfl, ?a_5y6⟩) (by assumption) ?a_5r6
              case a_5y6 => (intro w hSw; (try dsimp only at hSw); go_simp; try (with_reducible rfl))
              case a_5r6 =>
              try simp only [Act.put, List.setIfInBounds_toArray, List.set_cons_zero, List.set_cons_succ]
              refine wpAnyH_take (i := 7) (oi := { dst := some 64, op := Go.Op.move (Go.Operand.tmp 63), type := 4, pos := "law.go:62", after := #[{ on := 6, ground := Go.Ground.data }, { on := 5, ground := Go.Ground.chain }], guard := none }) (v := ?a_5v7) rfl (by kernel_rfl) (by kernel_rfl) (by kernel_rfl) (fun _ _ _ h => h) (Or.inl ⟨by rfl, ?a_5y7⟩) (by assumption) ?a_5r7
              case a_5y7 => (intro w hSw; (try dsimp only at hSw); go_simp; try (with_reducible rfl))
              case a_5r7 =>
              try simp only [Act.put, List.setIfInBounds_toArray, List.set_cons_zero, List.set_cons_succ]
              refine wpAnyH_take (i := 8) (oi := { dst := some 65, op := Go.Op.move (Go.Operand.tmp 7), type := 3, pos := "law.go:62", after := #[{ on := 7, ground := Go.Ground.guard }], guard := some (7, false) }) (v := ?a_5v8) rfl (by kernel_rfl) (by kernel_rfl) (by kernel_rfl) (fun _ _ _ h => h) (Or.inl ⟨by rfl, ?a_5y8⟩) (by assumption) ?a_5r8
              case a_5y8 => (intro w hSw; (try dsimp only at hSw); go_simp; try (with_reducible rfl))
              case a_5r8 =>
              try simp only [Act.put, List.setIfInBounds_toArray, List.set_cons_zero, List.set_cons_succ]
              refine wpAnyH_take (i := 9) (oi := { dst := some 66, op := Go.Op.binOp Go.BinOp.lss 3 (Go.Operand.tmp 65) (Go.Operand.const (Go.Value.int Go.IntKind.i64 8)) 3, type := 4, pos := "law.go:62", after := #[{ on := 8, ground := Go.Ground.data }, { on := 7, ground := Go.Ground.guard }], guard := some (7, false) }) (v := ?a_5v9) rfl (by kernel_rfl) (by kernel_rfl) (by kernel_rfl) (fun _ _ _ h => h) (Or.inl ⟨by rfl, ?a_5y9⟩) (by assumption) ?a_5r9
              case a_5y9 => (intro w hSw; (try dsimp only at hSw); go_simp; try (with_reducible rfl))
              case a_5r9 =>
              try simp only [Act.put, List.setIfInBounds_toArray, List.set_cons_zero, List.set_cons_succ]
              refine wpAnyH_take (i := 10) (oi := { dst := some 67, op := Go.Op.move (Go.Operand.tmp 66), type := 4, pos := "law.go:62", after := #[{ on := 9, ground := Go.Ground.data }, { on := 7, ground := Go.Ground.chain }, { on := 7, ground := Go.Ground.guard }], guard := some (7, false) }) (v := ?a_5v10) rfl (by kernel_rfl) (by kernel_rfl) (by kernel_rfl) (fun _ _ _ h => h) (Or.inl ⟨by rfl, ?a_5y10⟩) (by assumption) ?a_5r10
              case a_5y10 => (intro w hSw; (try dsimp only at hSw); go_simp; try (with_reducible rfl))
              case a_5r10 =>
              try simp only [Act.put, List.setIfInBounds_toArray, List.set_cons_zero, List.set_cons_succ]
              refine wpAnyH_take (i := 12) (oi := { dst := some 69, op := Go.Op.move (Go.Operand.tmp 0), type := 22, pos := "law.go:62", after := #[{ on := 10, ground := Go.Ground.guard }], guard := some (10, true) }) (v := ?a_5v12) rfl (by kernel_rfl) (by kernel_rfl) (by kernel_rfl) (fun _ _ _ h => h) (Or.inl ⟨by rfl, ?a_5y12⟩) (by assumption) ?a_5r12
              case a_5y12 => (intro w hSw; (try dsimp only at hSw); go_simp; try (with_reducible rfl))
              case a_5r12 =>
              try simp only [Act.put, List.setIfInBounds_toArray, List.set_cons_zero, List.set_cons_succ]
              refine wpAnyH_take (i := 13) (oi := { dst := some 70, op := Go.Op.move (Go.Operand.tmp 9), type := 3, pos := "law.go:62", after := #[{ on := 10, ground := Go.Ground.guard }], guard := some (10, true) }) (v := ?a_5v13) rfl (by kernel_rfl) (by kernel_rfl) (by kernel_rfl) (fun _ _ _ h => h) (Or.inl ⟨by rfl, ?a_5y13⟩) (by assumption) ?a_5r13
              case a_5y13 => (intro w hSw; (try dsimp only at hSw); go_simp; try (with_reducible rfl))
              case a_5r13 =>
              try simp only [Act.put, List.setIfInBounds_toArray, List.set_cons_zero, List.set_cons_succ]
              refine wpAnyH_take (i := 14) (oi := { dst := some 71, op := Go.Op.slice 22 (Go.Operand.tmp 69) none (some (Go.Operand.tmp 70)) none, type := 22, pos := "law.go:62", after := #[{ on := 12, ground := Go.Ground.data }, { on := 13, ground := Go.Ground.data }, { on := 10, ground := Go.Ground.guard }], guard := some (10, true) }) (v := ?a_5v14) rfl (by kernel_rfl) (by kernel_rfl) (by kernel_rfl) (fun _ _ _ h => h) (Or.inl ⟨by rfl, ?a_5y14⟩) (by assumption) ?a_5r14
              case a_5y14 => (intro w hSw; (try dsimp only at hSw); go_simp; try (with_reducible rfl))
              case a_5r14 =>
              try simp only [Act.put, List.setIfInBounds_toArray, List.set_cons_zero, List.set_cons_succ]
              refine wpAnyH_ready (rs := [11]) (by kernel_rfl) (by simp) ?_
              refine AllReadyH.cons (o := { dst := some 68, op := Go.Op.call { callee := Go.Callee.value (Go.Operand.func 25), args := #[Go.Operand.tmp 5], argTypes := #[46] }, type := 28, pos := "law.go:62", after := #[{ on := 10, ground := Go.Ground.chain }, { on := 10, ground := Go.Ground.guard }], guard := some (10, true) }) rfl (fun K hK => ?_) (AllReadyH.nil)
              go_simp
              refine (CH.out _ BX.out).mono ?_
              rintro e w6 ⟨rfl, hb6⟩
              unfold digV
              go_simp
              have BX := Lib.hid (BX.out.trans (hb6.mono BX.out.size))
              clear hb6
              refine hK.out _ _ ?_ (fun hHeld => ?_)
              · exact anyW _
              clear hK K
              try simp only [Act.put, List.setIfInBounds_toArray, List.set_cons_zero, List.set_cons_succ]
              refine wpAnyH_ready (rs := [15]) (by kernel_rfl) (by simp) ?_
              refine AllReadyH.cons (o := { dst := some 72, op := Go.Op.call { callee := Go.Callee.value (Go.Operand.func 12), args := #[Go.Operand.tmp 71], argTypes := #[22] }, type := 27, pos := "law.go:62", after := #[{ on := 14, ground := Go.Ground.data }, { on := 11, ground := Go.Ground.chain }, { on := 10, ground := Go.Ground.guard }], guard := some (10, true) }) rfl (fun K hK => ?_) (AllReadyH.nil)
              go_simp
              refine (CR.out _ BX.out).mono ?_
              rintro e w6 ⟨rfl, hb6⟩
              unfold digV
              go_simp
              have BX := Lib.hid (BX.out.trans (hb6.mono BX.out.size))
              clear hb6
              refine hK.out _ _ ?_ (fun hHeld => ?_)
              · exact anyW _
              clear hK K
              try simp only [Act.put, List.setIfInBounds_toArray, List.set_cons_zero, List.set_cons_succ]
              refine wpAnyH_take (i := 16) (oi := { dst := some 73, op := Go.Op.binOp Go.BinOp.neq 28 (Go.Operand.tmp 68) (Go.Operand.tmp 72) 28, type := 4, pos := "law.go:62", after := #[{ on := 11, ground := Go.Ground.data }, { on := 15, ground := Go.Ground.data }, { on := 10, ground := Go.Ground.guard }], guard := some (10, true) }) (v := ?a_5_11_15v16) rfl (by kernel_rfl) (by kernel_rfl) (by kernel_rfl) (fun _ _ _ h => h) (Or.inl ⟨by rfl, ?a_5_11_15y16⟩) (by assumption) ?a_5_11_15r16
              case a_5_11_15y16 => (intro w hSw; (try dsimp only at hSw); go_simp; try (with_reducible rfl))
              case a_5_11_15r16 =>
              try simp only [Act.put, List.setIfInBounds_toArray, List.set_cons_zero, List.set_cons_succ]
              refine wpAnyH_take (i := 17) (oi := { dst := some 74, op := Go.Op.pick (Go.Operand.tmp 67) (Go.Operand.tmp 73) (Go.Operand.const (Go.Value.bool false)), type := 4, pos := "law.go:62", after := #[{ on := 10, ground := Go.Ground.data }, { on := 16, ground := Go.Ground.data }, { on := 7, ground := Go.Ground.guard }], guard := some (7, false) }) (v := ?a_5_11_15v17) rfl (by kernel_rfl) (by kernel_rfl) (by kernel_rfl) (fun _ _ _ h => h) (Or.inl ⟨by rfl, ?a_5_11_15y17⟩) (by assumption) ?a_5_11_15r17
              case a_5_11_15y17 => (intro w hSw; (try dsimp only at hSw); go_simp; try (with_reducible rfl))
              case a_5_11_15r17 =>
              try simp only [Act.put, List.setIfInBounds_toArray, List.set_cons_zero, List.set_cons_succ]
              refine wpAnyH_take (i := 18) (oi := { dst := some 75, op := Go.Op.pick (Go.Operand.tmp 64) (Go.Operand.const (Go.Value.bool true)) (Go.Operand.tmp 74), type := 4, pos := "law.go:62", after := #[{ on := 7, ground := Go.Ground.data }, { on := 17, ground := Go.Ground.data }], guard := none }) (v := ?a_5_11_15v18) rfl (by kernel_rfl) (by kernel_rfl) (by kernel_rfl) (fun _ _ _ h => h) (Or.inl ⟨by rfl, ?a_5_11_15y18⟩) (by assumption) ?a_5_11_15r18
              case a_5_11_15y18 => (intro w hSw; (try dsimp only at hSw); go_simp; try (with_reducible rfl))
              case a_5_11_15r18 =>
              try simp only [Act.put, List.setIfInBounds_toArray, List.set_cons_zero, List.set_cons_succ]
              refine wpAnyH_done (by kernel_rfl) ?_ _
              go_wp2_with fail
              go_meet
              exact ⟨rfl, BX.out⟩
            · have d8 : decide ((i : Int) < 8) = false := decide_eq_false (by omega)
              refine wp_region_held_drew (S := AnyW) (by kernel_rfl) ?_ (fun hHeld => ?_)
              · exact anyW _
              refine wpAnyH_take (i := 0) (oi := { dst := some 57, op := Go.Op.move (Go.Operand.tmp 11), type := 22, pos := "law.go:62", after := #[], guard := none }) (v := ?bv0) rfl (by kernel_rfl) (by kernel_rfl) (by kernel_rfl) (fun _ _ _ h => h) (Or.inl ⟨by rfl, ?by0⟩) (by assumption) ?br0
              case by0 => (intro w hSw; (try dsimp only at hSw); go_simp; try (with_reducible rfl))
              case br0 =>
              try simp only [Act.put, List.setIfInBounds_toArray, List.set_cons_zero, List.set_cons_succ]
              refine wpAnyH_take (i := 1) (oi := { dst := some 58, op := Go.Op.move (Go.Operand.tmp 0), type := 22, pos := "law.go:62", after := #[], guard := none }) (v := ?bv1) rfl (by kernel_rfl) (by kernel_rfl) (by kernel_rfl) (fun _ _ _ h => h) (Or.inl ⟨by rfl, ?by1⟩) (by assumption) ?br1
              case by1 => (intro w hSw; (try dsimp only at hSw); go_simp; try (with_reducible rfl))
              case br1 =>
              try simp only [Act.put, List.setIfInBounds_toArray, List.set_cons_zero, List.set_cons_succ]
              refine wpAnyH_take (i := 2) (oi := { dst := some 59, op := Go.Op.move (Go.Operand.tmp 6), type := 3, pos := "law.go:62", after := #[], guard := none }) (v := ?bv2) rfl (by kernel_rfl) (by kernel_rfl) (by kernel_rfl) (fun _ _ _ h => h) (Or.inl ⟨by rfl, ?by2⟩) (by assumption) ?br2
              case by2 => (intro w hSw; (try dsimp only at hSw); go_simp; try (with_reducible rfl))
              case br2 =>
              try simp only [Act.put, List.setIfInBounds_toArray, List.set_cons_zero, List.set_cons_succ]
              refine wpAnyH_take (i := 3) (oi := { dst := some 60, op := Go.Op.move (Go.Operand.tmp 9), type := 3, pos := "law.go:62", after := #[], guard := none }) (v := ?bv3) rfl (by kernel_rfl) (by kernel_rfl) (by kernel_rfl) (fun _ _ _ h => h) (Or.inl ⟨by rfl, ?by3⟩) (by assumption) ?br3
              case by3 => (intro w hSw; (try dsimp only at hSw); go_simp; try (with_reducible rfl))
              case br3 =>
              try simp only [Act.put, List.setIfInBounds_toArray, List.set_cons_zero, List.set_cons_succ]
              refine wpAnyH_take (i := 4) (oi := { dst := some 61, op := Go.Op.slice 22 (Go.Operand.tmp 58) (some (Go.Operand.tmp 59)) (some (Go.Operand.tmp 60)) none, type := 22, pos := "law.go:62", after := #[{ on := 1, ground := Go.Ground.data }, { on := 2, ground := Go.Ground.data }, { on := 3, ground := Go.Ground.data }], guard := none }) (v := ?bv4) rfl (by kernel_rfl) (by kernel_rfl) (by kernel_rfl) (fun _ _ _ h => h) (Or.inl ⟨by rfl, ?by4⟩) (by assumption) ?br4
              case by4 => (intro w hSw; (try dsimp only at hSw); go_simp; try (with_reducible rfl))
              case br4 =>
              try simp only [Act.put, List.setIfInBounds_toArray, List.set_cons_zero, List.set_cons_succ]
              refine wpAnyH_ready (rs := [5]) (by kernel_rfl) (by simp) ?_
              refine AllReadyH.cons (o := { dst := some 62, op := Go.Op.call { callee := Go.Callee.value (Go.Operand.func 17), args := #[Go.Operand.tmp 57, Go.Operand.tmp 61], argTypes := #[22, 22] }, type := 4, pos := "law.go:62", after := #[{ on := 0, ground := Go.Ground.data }, { on := 4, ground := Go.Ground.data }], guard := none }) rfl (fun K hK => ?_) (AllReadyH.nil)
              go_simp
              refine (CK.out).mono ?_
              rintro e w5 ⟨rfl, k5, rfl⟩
              go_simp
              have BX := Lib.hid (show Below w4.heap.size w4 (w4.drewN (1 + k5)) from ⟨rfl, rfl, rfl, Nat.le_refl _, fun _ _ => rfl⟩)
              refine hK.out _ _ ?_ (fun hHeld => ?_)
              · exact anyW _
              clear hK K
              try simp only [Act.put, List.setIfInBounds_toArray, List.set_cons_zero, List.set_cons_succ]
              refine wpAnyH_take (i := 6) (oi := { dst := some 63, op := Go.Op.unOp Go.UnOp.not 4 (Go.Operand.tmp 62), type := 4, pos := "law.go:62", after := #[{ on := 5, ground := Go.Ground.data }], guard := none }) (v := ?b_5v6) rfl (by kernel_rfl) (by kernel_rfl) (by kernel_rfl) (fun _ _ _ h => h) (Or.inl ⟨by rfl, ?b_5y6⟩) (by assumption) ?b_5r6
              case b_5y6 => (intro w hSw; (try dsimp only at hSw); go_simp; try (with_reducible rfl))
              case b_5r6 =>
              try simp only [Act.put, List.setIfInBounds_toArray, List.set_cons_zero, List.set_cons_succ]
              refine wpAnyH_take (i := 7) (oi := { dst := some 64, op := Go.Op.move (Go.Operand.tmp 63), type := 4, pos := "law.go:62", after := #[{ on := 6, ground := Go.Ground.data }, { on := 5, ground := Go.Ground.chain }], guard := none }) (v := ?b_5v7) rfl (by kernel_rfl) (by kernel_rfl) (by kernel_rfl) (fun _ _ _ h => h) (Or.inl ⟨by rfl, ?b_5y7⟩) (by assumption) ?b_5r7
              case b_5y7 => (intro w hSw; (try dsimp only at hSw); go_simp; try (with_reducible rfl))
              case b_5r7 =>
              try simp only [Act.put, List.setIfInBounds_toArray, List.set_cons_zero, List.set_cons_succ]
              refine wpAnyH_take (i := 8) (oi := { dst := some 65, op := Go.Op.move (Go.Operand.tmp 7), type := 3, pos := "law.go:62", after := #[{ on := 7, ground := Go.Ground.guard }], guard := some (7, false) }) (v := ?b_5v8) rfl (by kernel_rfl) (by kernel_rfl) (by kernel_rfl) (fun _ _ _ h => h) (Or.inl ⟨by rfl, ?b_5y8⟩) (by assumption) ?b_5r8
              case b_5y8 => (intro w hSw; (try dsimp only at hSw); go_simp; try (with_reducible rfl))
              case b_5r8 =>
              try simp only [Act.put, List.setIfInBounds_toArray, List.set_cons_zero, List.set_cons_succ]
              refine wpAnyH_take (i := 9) (oi := { dst := some 66, op := Go.Op.binOp Go.BinOp.lss 3 (Go.Operand.tmp 65) (Go.Operand.const (Go.Value.int Go.IntKind.i64 8)) 3, type := 4, pos := "law.go:62", after := #[{ on := 8, ground := Go.Ground.data }, { on := 7, ground := Go.Ground.guard }], guard := some (7, false) }) (v := ?b_5v9) rfl (by kernel_rfl) (by kernel_rfl) (by kernel_rfl) (fun _ _ _ h => h) (Or.inl ⟨by rfl, ?b_5y9⟩) (by assumption) ?b_5r9
              case b_5y9 => (intro w hSw; (try dsimp only at hSw); go_simp; try (with_reducible rfl))
              case b_5r9 =>
              try simp only [Act.put, List.setIfInBounds_toArray, List.set_cons_zero, List.set_cons_succ]
              refine wpAnyH_take (i := 10) (oi := { dst := some 67, op := Go.Op.move (Go.Operand.tmp 66), type := 4, pos := "law.go:62", after := #[{ on := 9, ground := Go.Ground.data }, { on := 7, ground := Go.Ground.chain }, { on := 7, ground := Go.Ground.guard }], guard := some (7, false) }) (v := ?b_5v10) rfl (by kernel_rfl) (by kernel_rfl) (by kernel_rfl) (fun _ _ _ h => h) (Or.inl ⟨by rfl, ?b_5y10⟩) (by assumption) ?b_5r10
              case b_5y10 => (intro w hSw; (try dsimp only at hSw); go_simp; try (with_reducible rfl))
              case b_5r10 =>
              try simp only [Act.put, List.setIfInBounds_toArray, List.set_cons_zero, List.set_cons_succ]
              refine wpAnyH_take (i := 11) (oi := { dst := some 68, op := Go.Op.call { callee := Go.Callee.value (Go.Operand.func 25), args := #[Go.Operand.tmp 5], argTypes := #[46] }, type := 28, pos := "law.go:62", after := #[{ on := 10, ground := Go.Ground.chain }, { on := 10, ground := Go.Ground.guard }], guard := some (10, true) }) (v := undef) rfl (by kernel_rfl) (by kernel_rfl) (by kernel_rfl) (fun _ _ _ h => h) (Or.inr ⟨by rfl, rfl⟩) (by assumption) ?_
              try simp only [Act.put, List.setIfInBounds_toArray, List.set_cons_zero, List.set_cons_succ]
              refine wpAnyH_take (i := 12) (oi := { dst := some 69, op := Go.Op.move (Go.Operand.tmp 0), type := 22, pos := "law.go:62", after := #[{ on := 10, ground := Go.Ground.guard }], guard := some (10, true) }) (v := undef) rfl (by kernel_rfl) (by kernel_rfl) (by kernel_rfl) (fun _ _ _ h => h) (Or.inr ⟨by rfl, rfl⟩) (by assumption) ?_
              try simp only [Act.put, List.setIfInBounds_toArray, List.set_cons_zero, List.set_cons_succ]
              refine wpAnyH_take (i := 13) (oi := { dst := some 70, op := Go.Op.move (Go.Operand.tmp 9), type := 3, pos := "law.go:62", after := #[{ on := 10, ground := Go.Ground.guard }], guard := some (10, true) }) (v := undef) rfl (by kernel_rfl) (by kernel_rfl) (by kernel_rfl) (fun _ _ _ h => h) (Or.inr ⟨by rfl, rfl⟩) (by assumption) ?_
              try simp only [Act.put, List.setIfInBounds_toArray, List.set_cons_zero, List.set_cons_succ]
              refine wpAnyH_take (i := 14) (oi := { dst := some 71, op := Go.Op.slice 22 (Go.Operand.tmp 69) none (some (Go.Operand.tmp 70)) none, type := 22, pos := "law.go:62", after := #[{ on := 12, ground := Go.Ground.data }, { on := 13, ground := Go.Ground.data }, { on := 10, ground := Go.Ground.guard }], guard := some (10, true) }) (v := undef) rfl (by kernel_rfl) (by kernel_rfl) (by kernel_rfl) (fun _ _ _ h => h) (Or.inr ⟨by rfl, rfl⟩) (by assumption) ?_
              try simp only [Act.put, List.setIfInBounds_toArray, List.set_cons_zero, List.set_cons_succ]
              refine wpAnyH_take (i := 15) (oi := { dst := some 72, op := Go.Op.call { callee := Go.Callee.value (Go.Operand.func 12), args := #[Go.Operand.tmp 71], argTypes := #[22] }, type := 27, pos := "law.go:62", after := #[{ on := 14, ground := Go.Ground.data }, { on := 11, ground := Go.Ground.chain }, { on := 10, ground := Go.Ground.guard }], guard := some (10, true) }) (v := undef) rfl (by kernel_rfl) (by kernel_rfl) (by kernel_rfl) (fun _ _ _ h => h) (Or.inr ⟨by rfl, rfl⟩) (by assumption) ?_
              try simp only [Act.put, List.setIfInBounds_toArray, List.set_cons_zero, List.set_cons_succ]
              refine wpAnyH_take (i := 16) (oi := { dst := some 73, op := Go.Op.binOp Go.BinOp.neq 28 (Go.Operand.tmp 68) (Go.Operand.tmp 72) 28, type := 4, pos := "law.go:62", after := #[{ on := 11, ground := Go.Ground.data }, { on := 15, ground := Go.Ground.data }, { on := 10, ground := Go.Ground.guard }], guard := some (10, true) }) (v := undef) rfl (by kernel_rfl) (by kernel_rfl) (by kernel_rfl) (fun _ _ _ h => h) (Or.inr ⟨by rfl, rfl⟩) (by assumption) ?_
              try simp only [Act.put, List.setIfInBounds_toArray, List.set_cons_zero, List.set_cons_succ]
              refine wpAnyH_take (i := 17) (oi := { dst := some 74, op := Go.Op.pick (Go.Operand.tmp 67) (Go.Operand.tmp 73) (Go.Operand.const (Go.Value.bool false)), type := 4, pos := "law.go:62", after := #[{ on := 10, ground := Go.Ground.data }, { on := 16, ground := Go.Ground.data }, { on := 7, ground := Go.Ground.guard }], guard := some (7, false) }) (v := ?b_5v17) rfl (by kernel_rfl) (by kernel_rfl) (by kernel_rfl) (fun _ _ _ h => h) (Or.inl ⟨by rfl, ?b_5y17⟩) (by assumption) ?b_5r17
              case b_5y17 => (intro w hSw; (try dsimp only at hSw); go_simp; try (with_reducible rfl))
              case b_5r17 =>
              try simp only [Act.put, List.setIfInBounds_toArray, List.set_cons_zero, List.set_cons_succ]
              refine wpAnyH_take (i := 18) (oi := { dst := some 75, op := Go.Op.pick (Go.Operand.tmp 64) (Go.Operand.const (Go.Value.bool true)) (Go.Operand.tmp 74), type := 4, pos := "law.go:62", after := #[{ on := 7, ground := Go.Ground.data }, { on := 17, ground := Go.Ground.data }], guard := none }) (v := ?b_5v18) rfl (by kernel_rfl) (by kernel_rfl) (by kernel_rfl) (fun _ _ _ h => h) (Or.inl ⟨by rfl, ?b_5y18⟩) (by assumption) ?b_5r18
              case b_5y18 => (intro w hSw; (try dsimp only at hSw); go_simp; try (with_reducible rfl))
              case b_5r18 =>
              try simp only [Act.put, List.setIfInBounds_toArray, List.set_cons_zero, List.set_cons_succ]
              refine wpAnyH_done (by kernel_rfl) ?_ _
              go_wp2_with fail
              go_meet
              exact ⟨rfl, BX.out⟩
          case rest => as_aux_lemma =>
            obtain ⟨rfl, hb5⟩ := hcut
            have R5 := Lib.hid (ROW4.out.turns (Turns.of_below (S := fun _ => False) hb5) (fun h => h))
            have SU5 := Lib.hid (SU4.out.below hb5)
            have T5 := Lib.hid (T4.out.trans (Turns.of_below (S := (· = S)) hb5) (fun _ _ h => h))
            obtain ⟨w5, hw5⟩ : ∃ w5 : World, w5 = wc := ⟨_, rfl⟩
            have hl9 : (tinted pc).length = pc.length + 9 := tinted_length pc
            have HL9 := Lib.hid hl9
            clear hb5 hw5 hl9
            have hSG2 : S ≠ G := by omega
            have hpc6 : pc.length ≤ 600 := by have := HPL.out; omega
            have hGS : wS.heap.size ≤ G := by rw [HG.out]; exact TT.out.size
            go_wp2_with fail
            obtain ⟨w6, hw6⟩ : ∃ w6 : World, w6 = wc := ⟨_, rfl⟩
            rw [← hw6] at R5 SU5 T5 ⊢
            clear hw6
            go_loopw [78] (fun v78 wr => ∃ j : Nat, j ≤ pc.length ∧ v78 = .int .i64 (j : Int) ∧ (∃ zs : List UInt8, zs.length = pc.length + 9 ∧ Row wr G zs) ∧ Turns (· = G) w6 wr) (fun v78 _ => pc.length - (intOf v78).toNat)
            case atStart => exact ⟨0, by omega, rfl, ⟨_, HL9.out, R5.out⟩, Turns.refl _ _⟩
            case round =>
              obtain ⟨j, hj, rfl, ⟨zs, hzl, hrz⟩, htz⟩ := hrel
              by_cases hjl : j < pc.length
              · obtain ⟨q, hq⟩ : ∃ q, zs[j]? = some q := ⟨_, List.getElem?_eq_getElem (by omega)⟩
                have hcq : wr.cell? ⟨G, j, none⟩ = some (.int .u8 (q.toNat : Int)) := hrz.cell hq
                have hfq := hrz.free j
                have hb8 := bits8_u .xor (q.toNat : Int) 255
                have hset := hrz.set (i := j) (b8 (bits .xor .u8 (q.toNat : Int) 255))
                rw [bv_b8_of hb8.1 hb8.2] at hset
                have dj : (j : Int) < (pc.length : Int) := by omega
                have HSET := Lib.hid hset
                have HTZ := Lib.hid htz
                have HZL := Lib.hid hzl
                clear hq hset hrz htz hzl hb8
                go_wp2_with fail
                exact ⟨⟨j + 1, by omega, by go_num, ⟨_, by rw [List.length_set]; exact HZL.out, HSET.out⟩, HTZ.out.setCell (p := ⟨G, j, none⟩) (fun _ => rfl) _⟩, by simp [intOf]; omega⟩
              · have dj : ¬ (j : Int) < (pc.length : Int) := by omega
                have su6 := SU5.out.turns htz hSG2
                have t6 := T5.out.trans htz (fun i hi h => by omega)
                have SU6 := Lib.hid su6
                have T6 := Lib.hid t6
                clear su6 t6 hrz htz
                go_wp2_with fail
                exact ⟨⟨nx, i + 1, hnb, by omega, rfl, by go_num, SU6.out, T6.out⟩, by simp [intOf]; omega⟩
      · by_cases hlp : p < b.length
        · have hi700 : i = 700 := by omega
          have d1 : decide ((p : Int) < (b.length : Int)) = true := decide_eq_true (by omega)
          have d1' : decide (p < b.length) = true := decide_eq_true (by omega)
          have d2 : decide ((i : Int) < 700) = false := decide_eq_false (by omega)
          clear hi700
          go_wp2_with fail
          go_meet
          exact ⟨p, hp, rfl, SU.out, TT.out⟩
        · have d1 : decide ((p : Int) < (b.length : Int)) = false := decide_eq_false (by omega)
          have d1' : decide (p < b.length) = false := decide_eq_false (by omega)
          go_wp2_with fail
          go_meet
          exact ⟨p, hp, rfl, SU.out, TT.out⟩
  case rest => as_aux_lemma =>
    obtain ⟨p, hp, rfl, hsum, htt⟩ := hcut
    have hv9 := (VS.out.keep (w' := wc) (fun b o hb => htt.cell (p := ⟨b, o, none⟩) (by show b < _; have := S1.out; omega) (by show b ≠ S; omega))).first hp
    have ro9 : Roots wc := RS.out.turns htt OFF.out
    have hB9 : B ≤ wc.heap.size := by have := htt.size; have := S1.out; omega
    have hpl : (b.take p).length ≤ 600 := by rw [List.length_take]; omega
    have C1 := Lib.hid (fun (W : World) (hW : Below wc.heap.size wc W) => sumHash_any S _ (b.take p) W (hsum.below hW) (by omega) (ro9.below hW))
    have C2 := Lib.hid (fun (W : World) (hW : Below wc.heap.size wc W) => rsum256_any B _ (b.take p) W (hv9.below (hW.mono hB9)) (by have := hW.size; omega) (by omega))
    have C3 := Lib.hid (fun (W : World) (hW : Below wc.heap.size wc W) => twice_any S _ (b.take p) W (hsum.below hW) (by omega) (ro9.below hW))
    have C4 := Lib.hid (fun (W : World) (hW : Below wc.heap.size wc W) => rdouble_any B _ (b.take p) W (hv9.below (hW.mono hB9)) (by have := hW.size; omega) (by omega))
    have C5 := Lib.hid (fun (W : World) (hW : Below wc.heap.size wc W) => sum256_any B _ (b.take p) W (hv9.below (hW.mono hB9)) (by have := hW.size; omega) (by omega) (ro9.below hW))
    have ip : (p : Int) ≤ (c : Int) := by omega
    have BEND := Lib.hid (BW.out.trans ((htt.below_of (B := S) (by have := S1.out; omega) (by intro i hi h; omega)).mono hwSs))
    clear hsum htt hv9 ro9 hB9
    go_upto_region 23 with fail
    refine hp23_any A b.length c S p (sha256 (b.take p)) (sha256 (sha256 (b.take p))) wc ip (sha256_length _) (sha256_length _) C1.out C2.out C3.out C4.out C5.out _ _ _ _ _ _ _ _ _ _ _ _ _ _ _ _ _ _ _ _ _ _ _ _ _ _ _ _ _ _ _ _ _ _ _ _ _ _ _ _ _ _ _ _ _ _ _ _ _ _ _ _ _ _ _ _ _ _ _ _ _ _ _ _ _ _ _ _ _ _ _ _ _ _ _ _ _ _ _ _ _ _ _ _ _ _ _ _ _ _ _ _ _ _ _ _ _ _ _ _ _ _ _ _ _ _ _ _ (fun _ _ _ _ _ h => h) (fun v89 v90 v91 v92 v93 v94 v95 v96 v97 v98 v99 v100 v101 v102 v103 v104 v105 v106 v107 v108 v109 v110 w' hb => ?_)
    have BE2 := Lib.hid (BEND.out.trans (hb.mono BEND.out.size))
    clear hb
    go_wp2_with fail
    go_ret
    exact ⟨rfl, BE2.out⟩
end Go.Proofs.YtnmegdhidpkklaaDoor
