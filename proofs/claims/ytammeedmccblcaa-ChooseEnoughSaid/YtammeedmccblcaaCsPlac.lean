/-
  The places of what is chosen, as the document tells them. Conditions: at most nineteen coins.
-/
import Derived.Test.YtammeedmccblcaaCsOrd
namespace Go.Proofs.Ytammeedmccblcaa.Cs
open Go.RowKit

def pick : List Cn → List Bool → List Cn
  | c :: l, b :: f => if b then c :: pick l f else pick l f
  | _, _ => []
theorem pick_snoc : ∀ (l : List Cn) (f : List Bool) (c : Cn) (b : Bool), l.length = f.length → pick (l ++ [c]) (f ++ [b]) = pick l f ++ (if b then [c] else [])
  | [], [], c, b, _ => by cases b <;> rfl
  | [], _ :: _, _, _, h => by cases h
  | _ :: _, [], _, _, h => by cases h
  | d :: l, e :: f, c, b, h => by
    have ih := pick_snoc l f c b (by simpa using h)
    rw [List.cons_append, List.cons_append]
    unfold pick
    rw [ih]
    cases e <;> rfl
theorem pick_take {l : List Cn} {f : List Bool} (h : l.length = f.length) {i : Nat} {c : Cn} {b : Bool} (hc : l[i]? = some c) (hb : f[i]? = some b) : pick (l.take (i + 1)) (f.take (i + 1)) = pick (l.take i) (f.take i) ++ (if b then [c] else []) := by
  rw [List.take_add_one, List.take_add_one, hc, hb, Option.toList_some, Option.toList_some, pick_snoc _ _ _ _ (by rw [List.length_take, List.length_take, h])]
theorem pick_le : ∀ (l : List Cn) (f : List Bool), (pick l f).length ≤ l.length
  | [], _ => by cases ‹List Bool› <;> exact Nat.le_refl _
  | _ :: _, [] => Nat.zero_le _
  | c :: l, b :: f => by
    have := pick_le l f
    unfold pick
    split
    · rw [List.length_cons, List.length_cons]; omega
    · rw [List.length_cons]; omega
def nats (l : List Nat) : List Int := l.map natI
theorem insA_at (x : Nat) : ∀ (P S : List Nat), (∀ a ∈ P, a < x) → (∀ b, S.head? = some b → ¬ b < x) → insA x (P ++ S) = P ++ x :: S
  | [], [], _, _ => rfl
  | [], b :: S, _, h => by
    show insA x (b :: S) = x :: b :: S
    unfold insA
    rw [if_neg (h b rfl)]
  | a :: P, S, h, hs => by
    rw [List.cons_append]
    unfold insA
    rw [if_pos (h a (by simp)), insA_at x P S (fun b hb => h b (by simp [hb])) hs]
    rfl
theorem yieldsIf_load1 {ops : Array Oper} {S : World → Prop} {op : Oper} {a : Act} (hw : Region.wanted op (yielded ops a.tmps) = true) (ty : TypeId) (x : Operand) (ho : op.op = .load ty x) {b o : Nat} {v : Value}
    (hx : a.eval x = .pointer (some ⟨b, o, none⟩)) (hag : ∀ w, (isAgg ty).run Try.prog w = .ok false w) (hS : ∀ w, S w → w.cell? ⟨b, o, none⟩ = some v) : YieldsIf Try.prog ops S op v a :=
  .inl ⟨hw, fun w h => by
    have hc := hS w h
    have hg := hag w
    unfold execOp
    simp only [ho, hx, Instr.loadAt, Instr.sureAddr, Sem.run_bind, Sem.run_pure, Result.andThen_ok]
    simp [loadVar, hg, hc, go_sem]⟩
/-- Flags in memory. -/
def FlR (w : World) (B : Nat) (v : Value) (f : List Bool) : Prop := RowR w B v f.length (f.map Value.bool)
theorem FlR.at {w : World} {B : Nat} {v : Value} {f : List Bool} (h : FlR w B v f) {i : Nat} {x : Bool} (hi : f[i]? = some x) : ∃ b o c, v = .slice (some ⟨b, o, none⟩) f.length c ∧ w.cell? ⟨b, o + i, none⟩ = some (.bool x) := by
  obtain ⟨A, c, hv, _, _, h3⟩ := h
  have hl := (List.getElem?_eq_some_iff.1 hi).1
  obtain ⟨b, o, rfl, _, hr⟩ := h3 (by omega)
  exact ⟨b, o, c, hv, hr i _ (by rw [List.getElem?_map, hi]; rfl)⟩
set_option maxRecDepth 100000 in
set_option maxHeartbeats 12800000 in
theorem places_any (B : Nat) (va vf : Value) (AC : List Cn) (f : List Bool) (w : World) (hA : Ints .i64 w B va (atI AC)) (hF : FlR w B vf f) (hlen : AC.length = f.length) (hB : B ≤ w.heap.size) (hl : AC.length ≤ 19) :
    Calls Try.prog 31 #[va, vf] w fun e w' => ∃ u, e = .returned u ∧ Ints .i64 w' w'.heap.size u (nats (placesF (pick AC f))) ∧ Below w.heap.size w w' := by
  obtain ⟨R, hR⟩ : ∃ z, z = nats (placesF (pick AC f)) := ⟨_, rfl⟩
  rw [← hR]
  have HR := Lib.hid hR
  obtain ⟨Aa, ca, rfl, _, _⟩ := Ints.form hA
  obtain ⟨Af, cf, rfl, _, _⟩ := RowR.form hF
  have hla : (atI AC).length = AC.length := List.length_map _
  rw [hla] at hA ⊢
  rw [← hlen] at hF ⊢
  obtain ⟨nX, hnX⟩ : ∃ z, z = AC.length := ⟨_, rfl⟩
  rw [← hnX] at hA hF hl ⊢
  have HA := Lib.hid hA
  have HF := Lib.hid hF
  have HB := Lib.hid hB
  have HNX := Lib.hid hnX
  have HLN := Lib.hid hlen
  clear hR hA hF hB hnX hlen hla
  go_enter Try.func31, Try.ntmps31
  go_wp2
  go_loopw [5, 6, 7] (fun so si sk wr => ∃ (i : Nat) (uo : Value), uo = so ∧ i ≤ nX ∧ si = .int .i64 (i : Int) ∧ Hid (Ints .i64 wr wr.heap.size uo (nats (placesF (pick (AC.take i) (f.take i))))) ∧ Hid (Below w.heap.size w wr)) (fun _ si _ _ => nX - (intOf si).toNat)
  case atStart => exact ⟨0, _, rfl, Nat.zero_le _, rfl, Lib.hid (Ints.nil _ _ _), Lib.hid (Below.refl _ _)⟩
  case round =>
    obtain ⟨i, uo, hso, hi, rfl, hO, hBW⟩ := hrel
    subst hso
    obtain ⟨w3, rfl⟩ : ∃ z : World, z = wr := ⟨_, rfl⟩
    have hol : (placesF (pick (AC.take i) (f.take i))).length ≤ i := by
      rw [placesF_length]
      exact Nat.le_trans (pick_le _ _) (by rw [List.length_take]; omega)
    obtain ⟨OL, hOL⟩ : ∃ z, z = placesF (pick (AC.take i) (f.take i)) := ⟨_, rfl⟩
    rw [← hOL] at hO hol
    obtain ⟨Ao, co, rfl, ho1, ho2⟩ := Ints.form hO.out
    have hll : (nats OL).length = OL.length := List.length_map _
    rw [hll] at hO ho1
    rw [hll]
    obtain ⟨n, hn⟩ : ∃ z, z = OL.length := ⟨_, rfl⟩
    rw [← hn] at hO ho1 hol ⊢
    have HN := Lib.hid hn
    have HOL := Lib.hid hOL
    clear hn hOL hll
    by_cases hlt : i < nX
    · as_aux_lemma =>
      have dj : decide ((i : Int) < (nX : Int)) = true := decide_eq_true (by omega)
      obtain ⟨y, hy⟩ : ∃ y, AC[i]? = some y := ⟨_, List.getElem?_eq_getElem (by rw [← HNX.out]; exact hlt)⟩
      obtain ⟨b, hb⟩ : ∃ b, f[i]? = some b := ⟨_, List.getElem?_eq_getElem (by rw [← HLN.out, ← HNX.out]; exact hlt)⟩
      have hFw : FlR w3 B (.slice Af nX cf) f := by have := HF.out; exact this.below (hBW.out.mono HB.out)
      obtain ⟨b1, o1, c1, ef, hcf⟩ := hFw.at hb
      injection ef with ef1 ef2 ef3
      subst ef1
      clear ef2 ef3
      have hAw : Ints .i64 w3 B (.slice Aa nX ca) (atI AC) := Ints.below HA.out (hBW.out.mono HB.out)
      obtain ⟨b2, o2, c2, ef, hcc, hca⟩ := Ints.at hAw (i := i) (x := (y.2 : Int)) (by unfold atI; rw [List.getElem?_map, hy]; rfl)
      injection ef with ef1 ef2 ef3
      subst ef1
      clear ef2 ef3 hcc
      have hpk := pick_take HLN.out hy hb
      clear hFw hAw hy hb
      cases b with
      | false =>
        have hnp : placesF (pick (AC.take (i + 1)) (f.take (i + 1))) = OL := by rw [hpk, HOL.out]; exact congrArg placesF (List.append_nil _)
        have HNP := Lib.hid hnp
        clear hpk hnp hca
        go_wp2_with fail
        refine ⟨⟨i + 1, _, rfl, hlt, by first | rfl | exact next (by omega), Lib.hid ?_, hBW⟩, by first | exact meas hlt (by omega) | (show nX - ((i : Int) + 1).toNat < nX - (i : Int).toNat; omega)⟩
        rw [HNP.out]
        exact hO.out
      | true =>
        have hnp : placesF (pick (AC.take (i + 1)) (f.take (i + 1))) = insA y.2 OL := by rw [hpk, HOL.out]; exact placesF_snoc _ _
        have HIN := Lib.hid hnp
        clear hpk hnp
        go_upto_block 2 with fail
        have HO := Lib.hid (show Ints .i64 w3 w3.heap.size (.slice Ao n co) (nats OL) from hO.out)
        have HAT0 := Lib.hid (show w3.cell? ⟨b2, o2 + i, none⟩ = some (.int .i64 (y.2 : Int)) from hca)
        clear hO
        go_cut [7] (fun k7 wx => ∃ kk : Nat, k7 = .int .i64 (kk : Int) ∧ kk ≤ n ∧ Hid (∀ a ∈ OL.take kk, a < y.2) ∧ Hid (∀ b, (OL.drop kk).head? = some b → ¬ b < y.2) ∧ Hid (Below w3.heap.size w3 wx))
        case first =>
          apply wp_block
          go_loopw [7] (fun s7 wr => ∃ kk : Nat, s7 = .int .i64 (kk : Int) ∧ kk ≤ n ∧ Hid (∀ a ∈ OL.take kk, a < y.2) ∧ Hid (Below w3.heap.size w3 wr)) (fun s7 _ => n - (intOf s7).toNat)
          case atStart => exact ⟨0, rfl, Nat.zero_le _, Lib.hid (fun a h => by simp at h), Lib.hid (Below.refl _ _)⟩
          case round =>
            obtain ⟨kk, rfl, hkk, hge, hb4⟩ := hrel
            obtain ⟨w4, rfl⟩ : ∃ z : World, z = wr := ⟨_, rfl⟩
            have hlt3 : b2 < w3.heap.size := World.block_lt_of_cell? _ _ HAT0.out
            have hca4 : w4.cell? ⟨b2, o2 + i, none⟩ = some (.int .i64 (y.2 : Int)) := (hb4.out.cell (p := ⟨b2, _, none⟩) hlt3).trans HAT0.out
            by_cases hkn : kk < n
            · have dk : decide ((kk : Int) < (n : Int)) = true := decide_eq_true (by omega)
              obtain ⟨z, hz⟩ : ∃ z, OL[kk]? = some z := ⟨_, List.getElem?_eq_getElem (by rw [← HN.out]; exact hkn)⟩
              obtain ⟨b3, o3, c3, ef, hcc, hce⟩ := Ints.at (show Ints .i64 w4 w4.heap.size (.slice Ao n co) (nats OL) from Ints.keepB HO.out hb4.out) (i := kk) (x := (z : Int)) (by unfold nats; rw [List.getElem?_map, hz]; rfl)
              injection ef with ef1 ef2 ef3
              subst ef1
              clear ef2 ef3 hcc
              by_cases hyw : z < y.2
              · have dy : decide ((z : Int) < (y.2 : Int)) = true := decide_eq_true (by omega)
                have hnx : ∀ a ∈ OL.take (kk + 1), a < y.2 := fun a ha => by
                  rw [List.take_add_one, hz] at ha
                  rcases List.mem_append.1 ha with h | h
                  · exact hge.out a h
                  · obtain rfl : a = z := by simpa using h
                    exact hyw
                have HNX2 := Lib.hid hnx
                clear hnx hz
                go_upto_region 7 with fail
                go_quiet (fail)
                go_wp2_with fail
                have hk2 := hkn
                have hn3 := hol
                refine ⟨⟨kk + 1, by first | rfl | exact next (by omega), by omega, HNX2, Lib.hid (hb4.out.trans (show Below w3.heap.size w4 (w4.drewN nq) from ⟨rfl, rfl, rfl, Nat.le_refl _, fun _ _ => rfl⟩))⟩, ?_⟩
                first | (show n - ((kk : Int) + 1).toNat < n - (kk : Int).toNat; omega) | exact meas hkn (by omega)
              · have dy : decide ((z : Int) < (y.2 : Int)) = false := decide_eq_false (by omega)
                have hhd : ∀ b, (OL.drop kk).head? = some b → ¬ b < y.2 := fun b hb => by
                  rw [List.head?_drop, hz] at hb
                  injection hb with hb
                  subst hb
                  exact hyw
                have HH := Lib.hid hhd
                clear hhd hz
                go_upto_region 7 with fail
                go_quiet (fail)
                go_wp2_with fail
                go_meet
                exact ⟨kk, rfl, hkk, hge, HH, Lib.hid (hb4.out.trans (show Below w3.heap.size w4 (w4.drewN nq) from ⟨rfl, rfl, rfl, Nat.le_refl _, fun _ _ => rfl⟩))⟩
            · have dk : decide ((kk : Int) < (n : Int)) = false := decide_eq_false (by omega)
              have hhd : ∀ b, (OL.drop kk).head? = some b → ¬ b < y.2 := fun b hb => by
                rw [List.drop_of_length_le (by rw [← HN.out]; omega)] at hb
                cases hb
              have HH := Lib.hid hhd
              clear hhd
              go_upto_region 7 with fail
              go_quiet (fail)
              go_wp2_with fail
              go_meet
              exact ⟨kk, rfl, hkk, hge, HH, Lib.hid (hb4.out.trans (show Below w3.heap.size w4 (w4.drewN nq) from ⟨rfl, rfl, rfl, Nat.le_refl _, fun _ _ => rfl⟩))⟩
        case rest =>
          obtain ⟨kk, hs7, hkk, hge, hlt2, hb4⟩ := hcut
          subst hs7
          obtain ⟨W0, hW0⟩ : ∃ z : World, z = wc := ⟨_, rfl⟩
          rw [← hW0]
          have hlt3 : b2 < w3.heap.size := World.block_lt_of_cell? _ _ HAT0.out
          have HI := Lib.hid (show Ints .i64 W0 W0.heap.size (.slice Ao n co) (nats OL) by rw [hW0]; exact Ints.keepB HO.out hb4.out)
          have B0 := Lib.hid (show Below w.heap.size w W0 by rw [hW0]; exact hBW.out.trans (hb4.out.mono hBW.out.size))
          have hca4 : W0.cell? ⟨b2, o2 + i, none⟩ = some (.int .i64 (y.2 : Int)) := by rw [hW0]; exact (hb4.out.cell (p := ⟨b2, _, none⟩) hlt3).trans HAT0.out
          have HAT := Lib.hid (show ∀ W, Below W0.heap.size W0 W → W.cell? ⟨b2, o2 + i, none⟩ = some (.int .i64 (y.2 : Int)) from fun W hW => (hW.cell (p := ⟨b2, _, none⟩) (World.block_lt_of_cell? _ _ hca4)).trans hca4)
          have HNO := Lib.hid (show n = (nats OL).length by unfold nats; rw [List.length_map]; exact HN.out)
          have HKO := Lib.hid (show kk ≤ (nats OL).length by rw [← HNO.out]; exact hkk)
          have HLO := Lib.hid (show (nats OL).length ≤ 1000 by rw [← HNO.out]; omega)
          have HNP := Lib.hid (show nats (placesF (pick (AC.take (i + 1)) (f.take (i + 1)))) = (nats OL).take kk ++ (y.2 : Int) :: (nats OL).drop kk by
            rw [HIN.out]
            conv => lhs; rw [← List.take_append_drop kk OL]
            rw [insA_at y.2 _ _ hge.out hlt2.out]
            unfold nats
            rw [List.map_append, List.map_cons, List.map_take, List.map_drop]
            rfl)
          clear hW0 hca4 hb4 HO HAT0 hBW hlt3 hca
          go_upto_region 9 with fail
          refine wp_region_held_drew (S := (fun w' => Below W0.heap.size W0 w')) (by kernel_rfl) ?_ (fun hHeld => ?_)
          · exact (Below.refl _ W0).drew
          refine wpAnyH_take (i := 1) (oi := { dst := some 37, op := Go.Op.move (Go.Operand.tmp 5), type := 38, pos := "ref.go:79", after := #[], guard := none }) (v := ?pv1) rfl (by kernel_rfl) (by kernel_rfl) (by kernel_rfl) (fun _ _ _ h => h) (Or.inl ⟨by rfl, ?py1⟩) (by assumption) ?pr1
          case py1 => (intro w hSw; (try dsimp only at hSw); go_simp; try (with_reducible rfl))
          case pr1 =>
          try simp only [Act.put, List.setIfInBounds_toArray, List.set_cons_zero, List.set_cons_succ]
          refine wpAnyH_take (i := 2) (oi := { dst := some 38, op := Go.Op.move (Go.Operand.tmp 7), type := 3, pos := "ref.go:79", after := #[], guard := none }) (v := ?pv2) rfl (by kernel_rfl) (by kernel_rfl) (by kernel_rfl) (fun _ _ _ h => h) (Or.inl ⟨by rfl, ?py2⟩) (by assumption) ?pr2
          case py2 => (intro w hSw; (try dsimp only at hSw); go_simp; try (with_reducible rfl))
          case pr2 =>
          try simp only [Act.put, List.setIfInBounds_toArray, List.set_cons_zero, List.set_cons_succ]
          refine wpAnyH_take (i := 3) (oi := { dst := some 39, op := Go.Op.slice 38 (Go.Operand.tmp 37) none (some (Go.Operand.tmp 38)) none, type := 38, pos := "ref.go:79", after := #[{ on := 1, ground := Go.Ground.data }, { on := 2, ground := Go.Ground.data }], guard := none }) (v := (.slice Ao kk co)) rfl (by kernel_rfl) (by kernel_rfl) (by kernel_rfl) (fun _ _ _ h => h) (yieldsIf_slice (by rfl) 38 int_t (.tmp 37) none (some (.tmp 38)) rfl (run_front int_t Ao n co kk (by omega))) (by assumption) ?_
          try simp only [Act.put, List.setIfInBounds_toArray, List.set_cons_zero, List.set_cons_succ]
          refine wpAnyH_take (i := 5) (oi := { dst := some 41, op := Go.Op.move (Go.Operand.tmp 0), type := 38, pos := "ref.go:79", after := #[], guard := none }) (v := ?pv5) rfl (by kernel_rfl) (by kernel_rfl) (by kernel_rfl) (fun _ _ _ h => h) (Or.inl ⟨by rfl, ?py5⟩) (by assumption) ?pr5
          case py5 => (intro w hSw; (try dsimp only at hSw); go_simp; try (with_reducible rfl))
          case pr5 =>
          try simp only [Act.put, List.setIfInBounds_toArray, List.set_cons_zero, List.set_cons_succ]
          refine wpAnyH_take (i := 6) (oi := { dst := some 42, op := Go.Op.move (Go.Operand.tmp 6), type := 3, pos := "ref.go:79", after := #[], guard := none }) (v := ?pv6) rfl (by kernel_rfl) (by kernel_rfl) (by kernel_rfl) (fun _ _ _ h => h) (Or.inl ⟨by rfl, ?py6⟩) (by assumption) ?pr6
          case py6 => (intro w hSw; (try dsimp only at hSw); go_simp; try (with_reducible rfl))
          case pr6 =>
          try simp only [Act.put, List.setIfInBounds_toArray, List.set_cons_zero, List.set_cons_succ]
          refine wpAnyH_take (i := 7) (oi := { dst := some 43, op := Go.Op.indexAddr 38 (Go.Operand.tmp 41) (Go.Operand.tmp 42), type := 0, pos := "ref.go:79", after := #[{ on := 5, ground := Go.Ground.data }, { on := 6, ground := Go.Ground.data }], guard := none }) (v := ?pv7) rfl (by kernel_rfl) (by kernel_rfl) (by kernel_rfl) (fun _ _ _ h => h) (Or.inl ⟨by rfl, ?py7⟩) (by assumption) ?pr7
          case py7 => (intro w hSw; (try dsimp only at hSw); go_simp; try (with_reducible rfl))
          case pr7 =>
          try simp only [Act.put, List.setIfInBounds_toArray, List.set_cons_zero, List.set_cons_succ]
          refine wpAnyH_take (i := 8) (oi := { dst := some 44, op := Go.Op.load 3 (Go.Operand.tmp 43), type := 3, pos := "ref.go:79", after := #[{ on := 7, ground := Go.Ground.data }], guard := none }) (v := (.int .i64 (y.2 : Int))) rfl (by kernel_rfl) (by kernel_rfl) (by kernel_rfl) (fun _ _ _ h => h) (yieldsIf_load1 (by rfl) 3 (.tmp 43) rfl rfl (fun w => by kernel_rfl) (fun w h => HAT.out w h)) (by assumption) ?_
          try simp only [Act.put, List.setIfInBounds_toArray, List.set_cons_zero, List.set_cons_succ]
          refine wpAnyH_take (i := 11) (oi := { dst := some 47, op := Go.Op.move (Go.Operand.tmp 5), type := 38, pos := "ref.go:79", after := #[], guard := none }) (v := ?pv11) rfl (by kernel_rfl) (by kernel_rfl) (by kernel_rfl) (fun _ _ _ h => h) (Or.inl ⟨by rfl, ?py11⟩) (by assumption) ?pr11
          case py11 => (intro w hSw; (try dsimp only at hSw); go_simp; try (with_reducible rfl))
          case pr11 =>
          try simp only [Act.put, List.setIfInBounds_toArray, List.set_cons_zero, List.set_cons_succ]
          refine wpAnyH_take (i := 12) (oi := { dst := some 48, op := Go.Op.move (Go.Operand.tmp 7), type := 3, pos := "ref.go:79", after := #[], guard := none }) (v := ?pv12) rfl (by kernel_rfl) (by kernel_rfl) (by kernel_rfl) (fun _ _ _ h => h) (Or.inl ⟨by rfl, ?py12⟩) (by assumption) ?pr12
          case py12 => (intro w hSw; (try dsimp only at hSw); go_simp; try (with_reducible rfl))
          case pr12 =>
          try simp only [Act.put, List.setIfInBounds_toArray, List.set_cons_zero, List.set_cons_succ]
          refine wpAnyH_take (i := 13) (oi := { dst := some 49, op := Go.Op.slice 38 (Go.Operand.tmp 47) (some (Go.Operand.tmp 48)) none none, type := 38, pos := "ref.go:79", after := #[{ on := 11, ground := Go.Ground.data }, { on := 12, ground := Go.Ground.data }], guard := none }) (v := (restV Ao n co kk)) rfl (by kernel_rfl) (by kernel_rfl) (by kernel_rfl) (fun _ _ _ h => h) (yieldsIf_slice (by rfl) 38 int_t (.tmp 47) (some (.tmp 48)) none rfl (fun w => by (show Sem.run _ (Instr.slice _ (Value.slice Ao n co) (some (Value.int .i64 (kk : Int))) none none) w = _; exact run_rest int_t Ao n co kk (by omega) w))) (by assumption) ?_
          try simp only [Act.put, List.setIfInBounds_toArray, List.set_cons_zero, List.set_cons_succ]
          refine wpAnyH_ready (rs := [0, 9]) (by kernel_rfl) (by simp) ?_
          refine AllReadyH.cons (o := { dst := some 36, op := Go.Op.buildSlice 38 0 #[], type := 38, pos := "ref.go:79", after := #[], guard := none }) rfl (fun K hK => ?_) (AllReadyH.cons (o := { dst := some 45, op := Go.Op.buildSlice 38 1 #[(0, Go.Operand.tmp 44)], type := 38, pos := "ref.go:79", after := #[{ on := 8, ground := Go.Ground.data }], guard := none }) rfl (fun K hK => ?_) (AllReadyH.nil))
          · skip
            have OW := mk0_own (e := 3) hHeld
            refine wp_buildSlice _ _ _ rfl _ _ (by simp only [List.map_toArray, List.map_nil]; exact mk0_int _) ?_
            refine hK.out _ _ ?_ (fun hHeld => ?_)
            · exact Below.alloc hHeld hHeld.size _
            clear hK K
            try simp only [Act.put, List.setIfInBounds_toArray, List.set_cons_zero, List.set_cons_succ]
            refine wpAnyH_ready (rs := [4, 9]) (by kernel_rfl) (by simp) ?_
            refine AllReadyH.cons (o := { dst := some 40, op := Go.Op.call { callee := Go.Callee.builtin Go.Builtin.append, args := #[Go.Operand.tmp 36, Go.Operand.tmp 39], argTypes := #[38, 38] }, type := 38, pos := "ref.go:79", after := #[{ on := 0, ground := Go.Ground.data }, { on := 3, ground := Go.Ground.data }], guard := none }) rfl (fun K hK => ?_) (AllReadyH.cons (o := { dst := some 45, op := Go.Op.buildSlice 38 1 #[(0, Go.Operand.tmp 44)], type := 38, pos := "ref.go:79", after := #[{ on := 8, ground := Go.Ground.data }], guard := none }) rfl (fun K hK => ?_) (AllReadyH.nil))
            · skip
              refine op_append_i int_t (.tmp 36) (.tmp 39) rfl W0.heap.size _ 0 [] rfl OW _ _ ((nats OL).take kk) rfl (Ints.front (Ints.below HI.out hHeld) HNO.out HKO.out) (tri_le (HLO.out) kk (y.2 : Int)).1 hHeld.size ?_
              intro v1 w1 hown1 hg1 ho1
              have hBN := Below.grown hHeld hg1 hHeld.size (fun q hq => (OW.lt q hq).1)
              have OX := hown1
              refine hK.out _ _ ?_ (fun hHeld => ?_)
              · exact hBN
              clear hK K
              try simp only [Act.put, List.setIfInBounds_toArray, List.set_cons_zero, List.set_cons_succ]
              refine wpAnyH_ready (rs := [9]) (by kernel_rfl) (by simp) ?_
              refine AllReadyH.cons (o := { dst := some 45, op := Go.Op.buildSlice 38 1 #[(0, Go.Operand.tmp 44)], type := 38, pos := "ref.go:79", after := #[{ on := 8, ground := Go.Ground.data }], guard := none }) rfl (fun K hK => ?_) (AllReadyH.nil)
              have OW := own_alloc1 (x := (y.2 : Int)) OX
              have RX := mk1_at (e := 3) (x := (y.2 : Int)) hHeld
              refine wp_buildSlice _ _ _ rfl _ _ (by simp only [List.map_toArray, List.map_cons, List.map_nil]; exact mk1_int (y.2 : Int) _) ?_
              refine hK.out _ _ ?_ (fun hHeld => ?_)
              · exact Below.alloc hHeld hHeld.size _
              clear hK K
              try simp only [Act.put, List.setIfInBounds_toArray, List.set_cons_zero, List.set_cons_succ]
              refine wpAnyH_ready (rs := [10]) (by kernel_rfl) (by simp) ?_
              refine AllReadyH.cons (o := { dst := some 46, op := Go.Op.call { callee := Go.Callee.builtin Go.Builtin.append, args := #[Go.Operand.tmp 40, Go.Operand.tmp 45], argTypes := #[38, 38] }, type := 38, pos := "ref.go:79", after := #[{ on := 4, ground := Go.Ground.data }, { on := 9, ground := Go.Ground.data }, { on := 4, ground := Go.Ground.chain }], guard := none }) rfl (fun K hK => ?_) (AllReadyH.nil)
              refine op_append_i int_t (.tmp 40) (.tmp 45) rfl W0.heap.size _ _ _ rfl OW _ _ [(y.2 : Int)] rfl (ints_row RX) (tri_le (HLO.out) kk (y.2 : Int)).2.1 hHeld.size ?_
              intro v1 w1 hown1 hg1 ho1
              have hBN := Below.grown hHeld hg1 hHeld.size (fun q hq => (OW.lt q hq).1)
              have OX := hown1
              refine hK.out _ _ ?_ (fun hHeld => ?_)
              · exact hBN
              clear hK K
              try simp only [Act.put, List.setIfInBounds_toArray, List.set_cons_zero, List.set_cons_succ]
              refine wpAnyH_ready (rs := [14]) (by kernel_rfl) (by simp) ?_
              refine AllReadyH.cons (o := { dst := some 50, op := Go.Op.call { callee := Go.Callee.builtin Go.Builtin.append, args := #[Go.Operand.tmp 46, Go.Operand.tmp 49], argTypes := #[38, 38] }, type := 38, pos := "ref.go:79", after := #[{ on := 10, ground := Go.Ground.data }, { on := 13, ground := Go.Ground.data }, { on := 10, ground := Go.Ground.chain }], guard := none }) rfl (fun K hK => ?_) (AllReadyH.nil)
              have OW := OX
              refine op_append_i int_t (.tmp 46) (.tmp 49) rfl W0.heap.size _ _ _ rfl OW _ _ ((nats OL).drop kk) rfl (Ints.rest (Ints.below HI.out hHeld) HNO.out HKO.out) (tri_le (HLO.out) kk (y.2 : Int)).2.2 hHeld.size ?_
              intro v1 w1 hown1 hg1 ho1
              have hBN := Below.grown hHeld hg1 hHeld.size (fun q hq => (OW.lt q hq).1)
              refine hK.out _ _ ?_ (fun hHeld => ?_)
              · exact hBN
              clear hK K
              try simp only [Act.put, List.setIfInBounds_toArray, List.set_cons_zero, List.set_cons_succ]
              refine wpAnyH_take (i := 15) (oi := { dst := some 5, op := Go.Op.assign (Go.Operand.tmp 50), type := 38, pos := "ref.go:79", after := #[{ on := 14, ground := Go.Ground.data }, { on := 14, ground := Go.Ground.chain }, { on := 0, ground := Go.Ground.phase }, { on := 1, ground := Go.Ground.phase }, { on := 2, ground := Go.Ground.phase }, { on := 3, ground := Go.Ground.phase }, { on := 4, ground := Go.Ground.phase }, { on := 5, ground := Go.Ground.phase }, { on := 6, ground := Go.Ground.phase }, { on := 7, ground := Go.Ground.phase }, { on := 8, ground := Go.Ground.phase }, { on := 9, ground := Go.Ground.phase }, { on := 10, ground := Go.Ground.phase }, { on := 11, ground := Go.Ground.phase }, { on := 12, ground := Go.Ground.phase }, { on := 13, ground := Go.Ground.phase }, { on := 14, ground := Go.Ground.phase }], guard := none }) (v := ?p_0_4_9_10_14v15) rfl (by kernel_rfl) (by kernel_rfl) (by kernel_rfl) (fun _ _ _ h => h) (Or.inl ⟨by rfl, ?p_0_4_9_10_14y15⟩) (by assumption) ?p_0_4_9_10_14r15
              case p_0_4_9_10_14y15 => (intro w hSw; (try dsimp only at hSw); go_simp; try (with_reducible rfl))
              case p_0_4_9_10_14r15 =>
              try simp only [Act.put, List.setIfInBounds_toArray, List.set_cons_zero, List.set_cons_succ]
              refine wpAnyH_done (by kernel_rfl) ?_ _
              have HT3 := Lib.hid (tri_done hown1)
              have HB3 := Lib.hid hHeld
              obtain ⟨A1, c1, rfl⟩ := own_form hown1
              go_wp2_with fail
              refine ⟨⟨i + 1, _, rfl, hlt, by first | rfl | exact next (by omega), Lib.hid ?_, Lib.hid (B0.out.trans (HB3.out.mono B0.out.size))⟩, by first | exact meas hlt (by omega) | (show nX - ((i : Int) + 1).toNat < nX - (i : Int).toNat; omega)⟩
              rw [HNP.out]
              exact HT3.out
            · skip
              have OY := own_alloc1 (x := (y.2 : Int)) OW
              have NE := own_ne OW
              have RX := mk1_at (e := 3) (x := (y.2 : Int)) hHeld
              have OW := OY
              refine wp_buildSlice _ _ _ rfl _ _ (by simp only [List.map_toArray, List.map_cons, List.map_nil]; exact mk1_int (y.2 : Int) _) ?_
              refine hK.out _ _ ?_ (fun hHeld => ?_)
              · exact Below.alloc hHeld hHeld.size _
              clear hK K
              try simp only [Act.put, List.setIfInBounds_toArray, List.set_cons_zero, List.set_cons_succ]
              refine wpAnyH_ready (rs := [4]) (by kernel_rfl) (by simp) ?_
              refine AllReadyH.cons (o := { dst := some 40, op := Go.Op.call { callee := Go.Callee.builtin Go.Builtin.append, args := #[Go.Operand.tmp 36, Go.Operand.tmp 39], argTypes := #[38, 38] }, type := 38, pos := "ref.go:79", after := #[{ on := 0, ground := Go.Ground.data }, { on := 3, ground := Go.Ground.data }], guard := none }) rfl (fun K hK => ?_) (AllReadyH.nil)
              refine op_append_i int_t (.tmp 36) (.tmp 39) rfl W0.heap.size _ 0 [] rfl OW _ _ ((nats OL).take kk) rfl (Ints.front (Ints.below HI.out hHeld) HNO.out HKO.out) (tri_le (HLO.out) kk (y.2 : Int)).1 hHeld.size ?_
              intro v1 w1 hown1 hg1 ho1
              have hBN := Below.grown hHeld hg1 hHeld.size (fun q hq => (OW.lt q hq).1)
              have RX := row_grown RX hg1 NE
              have OX := hown1
              refine hK.out _ _ ?_ (fun hHeld => ?_)
              · exact hBN
              clear hK K
              try simp only [Act.put, List.setIfInBounds_toArray, List.set_cons_zero, List.set_cons_succ]
              refine wpAnyH_ready (rs := [10]) (by kernel_rfl) (by simp) ?_
              refine AllReadyH.cons (o := { dst := some 46, op := Go.Op.call { callee := Go.Callee.builtin Go.Builtin.append, args := #[Go.Operand.tmp 40, Go.Operand.tmp 45], argTypes := #[38, 38] }, type := 38, pos := "ref.go:79", after := #[{ on := 4, ground := Go.Ground.data }, { on := 9, ground := Go.Ground.data }, { on := 4, ground := Go.Ground.chain }], guard := none }) rfl (fun K hK => ?_) (AllReadyH.nil)
              have OW := OX
              refine op_append_i int_t (.tmp 40) (.tmp 45) rfl W0.heap.size _ _ _ rfl OW _ _ [(y.2 : Int)] rfl (ints_row RX) (tri_le (HLO.out) kk (y.2 : Int)).2.1 hHeld.size ?_
              intro v1 w1 hown1 hg1 ho1
              have hBN := Below.grown hHeld hg1 hHeld.size (fun q hq => (OW.lt q hq).1)
              have OX := hown1
              refine hK.out _ _ ?_ (fun hHeld => ?_)
              · exact hBN
              clear hK K
              try simp only [Act.put, List.setIfInBounds_toArray, List.set_cons_zero, List.set_cons_succ]
              refine wpAnyH_ready (rs := [14]) (by kernel_rfl) (by simp) ?_
              refine AllReadyH.cons (o := { dst := some 50, op := Go.Op.call { callee := Go.Callee.builtin Go.Builtin.append, args := #[Go.Operand.tmp 46, Go.Operand.tmp 49], argTypes := #[38, 38] }, type := 38, pos := "ref.go:79", after := #[{ on := 10, ground := Go.Ground.data }, { on := 13, ground := Go.Ground.data }, { on := 10, ground := Go.Ground.chain }], guard := none }) rfl (fun K hK => ?_) (AllReadyH.nil)
              have OW := OX
              refine op_append_i int_t (.tmp 46) (.tmp 49) rfl W0.heap.size _ _ _ rfl OW _ _ ((nats OL).drop kk) rfl (Ints.rest (Ints.below HI.out hHeld) HNO.out HKO.out) (tri_le (HLO.out) kk (y.2 : Int)).2.2 hHeld.size ?_
              intro v1 w1 hown1 hg1 ho1
              have hBN := Below.grown hHeld hg1 hHeld.size (fun q hq => (OW.lt q hq).1)
              refine hK.out _ _ ?_ (fun hHeld => ?_)
              · exact hBN
              clear hK K
              try simp only [Act.put, List.setIfInBounds_toArray, List.set_cons_zero, List.set_cons_succ]
              refine wpAnyH_take (i := 15) (oi := { dst := some 5, op := Go.Op.assign (Go.Operand.tmp 50), type := 38, pos := "ref.go:79", after := #[{ on := 14, ground := Go.Ground.data }, { on := 14, ground := Go.Ground.chain }, { on := 0, ground := Go.Ground.phase }, { on := 1, ground := Go.Ground.phase }, { on := 2, ground := Go.Ground.phase }, { on := 3, ground := Go.Ground.phase }, { on := 4, ground := Go.Ground.phase }, { on := 5, ground := Go.Ground.phase }, { on := 6, ground := Go.Ground.phase }, { on := 7, ground := Go.Ground.phase }, { on := 8, ground := Go.Ground.phase }, { on := 9, ground := Go.Ground.phase }, { on := 10, ground := Go.Ground.phase }, { on := 11, ground := Go.Ground.phase }, { on := 12, ground := Go.Ground.phase }, { on := 13, ground := Go.Ground.phase }, { on := 14, ground := Go.Ground.phase }], guard := none }) (v := ?p_0_9_4_10_14v15) rfl (by kernel_rfl) (by kernel_rfl) (by kernel_rfl) (fun _ _ _ h => h) (Or.inl ⟨by rfl, ?p_0_9_4_10_14y15⟩) (by assumption) ?p_0_9_4_10_14r15
              case p_0_9_4_10_14y15 => (intro w hSw; (try dsimp only at hSw); go_simp; try (with_reducible rfl))
              case p_0_9_4_10_14r15 =>
              try simp only [Act.put, List.setIfInBounds_toArray, List.set_cons_zero, List.set_cons_succ]
              refine wpAnyH_done (by kernel_rfl) ?_ _
              have HT3 := Lib.hid (tri_done hown1)
              have HB3 := Lib.hid hHeld
              obtain ⟨A1, c1, rfl⟩ := own_form hown1
              go_wp2_with fail
              refine ⟨⟨i + 1, _, rfl, hlt, by first | rfl | exact next (by omega), Lib.hid ?_, Lib.hid (B0.out.trans (HB3.out.mono B0.out.size))⟩, by first | exact meas hlt (by omega) | (show nX - ((i : Int) + 1).toNat < nX - (i : Int).toNat; omega)⟩
              rw [HNP.out]
              exact HT3.out
          · skip
            have RX := mk1_at (e := 3) (x := (y.2 : Int)) hHeld
            refine wp_buildSlice _ _ _ rfl _ _ (by simp only [List.map_toArray, List.map_cons, List.map_nil]; exact mk1_int (y.2 : Int) _) ?_
            refine hK.out _ _ ?_ (fun hHeld => ?_)
            · exact Below.alloc hHeld hHeld.size _
            clear hK K
            try simp only [Act.put, List.setIfInBounds_toArray, List.set_cons_zero, List.set_cons_succ]
            refine wpAnyH_ready (rs := [0]) (by kernel_rfl) (by simp) ?_
            refine AllReadyH.cons (o := { dst := some 36, op := Go.Op.buildSlice 38 0 #[], type := 38, pos := "ref.go:79", after := #[], guard := none }) rfl (fun K hK => ?_) (AllReadyH.nil)
            have OW := mk0_own (e := 3) hHeld
            have NE := mk0_ne RX
            have RX := row_alloc0 RX
            refine wp_buildSlice _ _ _ rfl _ _ (by simp only [List.map_toArray, List.map_nil]; exact mk0_int _) ?_
            refine hK.out _ _ ?_ (fun hHeld => ?_)
            · exact Below.alloc hHeld hHeld.size _
            clear hK K
            try simp only [Act.put, List.setIfInBounds_toArray, List.set_cons_zero, List.set_cons_succ]
            refine wpAnyH_ready (rs := [4]) (by kernel_rfl) (by simp) ?_
            refine AllReadyH.cons (o := { dst := some 40, op := Go.Op.call { callee := Go.Callee.builtin Go.Builtin.append, args := #[Go.Operand.tmp 36, Go.Operand.tmp 39], argTypes := #[38, 38] }, type := 38, pos := "ref.go:79", after := #[{ on := 0, ground := Go.Ground.data }, { on := 3, ground := Go.Ground.data }], guard := none }) rfl (fun K hK => ?_) (AllReadyH.nil)
            refine op_append_i int_t (.tmp 36) (.tmp 39) rfl W0.heap.size _ 0 [] rfl OW _ _ ((nats OL).take kk) rfl (Ints.front (Ints.below HI.out hHeld) HNO.out HKO.out) (tri_le (HLO.out) kk (y.2 : Int)).1 hHeld.size ?_
            intro v1 w1 hown1 hg1 ho1
            have hBN := Below.grown hHeld hg1 hHeld.size (fun q hq => (OW.lt q hq).1)
            have RX := row_grown RX hg1 NE
            have OX := hown1
            refine hK.out _ _ ?_ (fun hHeld => ?_)
            · exact hBN
            clear hK K
            try simp only [Act.put, List.setIfInBounds_toArray, List.set_cons_zero, List.set_cons_succ]
            refine wpAnyH_ready (rs := [10]) (by kernel_rfl) (by simp) ?_
            refine AllReadyH.cons (o := { dst := some 46, op := Go.Op.call { callee := Go.Callee.builtin Go.Builtin.append, args := #[Go.Operand.tmp 40, Go.Operand.tmp 45], argTypes := #[38, 38] }, type := 38, pos := "ref.go:79", after := #[{ on := 4, ground := Go.Ground.data }, { on := 9, ground := Go.Ground.data }, { on := 4, ground := Go.Ground.chain }], guard := none }) rfl (fun K hK => ?_) (AllReadyH.nil)
            have OW := OX
            refine op_append_i int_t (.tmp 40) (.tmp 45) rfl W0.heap.size _ _ _ rfl OW _ _ [(y.2 : Int)] rfl (ints_row RX) (tri_le (HLO.out) kk (y.2 : Int)).2.1 hHeld.size ?_
            intro v1 w1 hown1 hg1 ho1
            have hBN := Below.grown hHeld hg1 hHeld.size (fun q hq => (OW.lt q hq).1)
            have OX := hown1
            refine hK.out _ _ ?_ (fun hHeld => ?_)
            · exact hBN
            clear hK K
            try simp only [Act.put, List.setIfInBounds_toArray, List.set_cons_zero, List.set_cons_succ]
            refine wpAnyH_ready (rs := [14]) (by kernel_rfl) (by simp) ?_
            refine AllReadyH.cons (o := { dst := some 50, op := Go.Op.call { callee := Go.Callee.builtin Go.Builtin.append, args := #[Go.Operand.tmp 46, Go.Operand.tmp 49], argTypes := #[38, 38] }, type := 38, pos := "ref.go:79", after := #[{ on := 10, ground := Go.Ground.data }, { on := 13, ground := Go.Ground.data }, { on := 10, ground := Go.Ground.chain }], guard := none }) rfl (fun K hK => ?_) (AllReadyH.nil)
            have OW := OX
            refine op_append_i int_t (.tmp 46) (.tmp 49) rfl W0.heap.size _ _ _ rfl OW _ _ ((nats OL).drop kk) rfl (Ints.rest (Ints.below HI.out hHeld) HNO.out HKO.out) (tri_le (HLO.out) kk (y.2 : Int)).2.2 hHeld.size ?_
            intro v1 w1 hown1 hg1 ho1
            have hBN := Below.grown hHeld hg1 hHeld.size (fun q hq => (OW.lt q hq).1)
            refine hK.out _ _ ?_ (fun hHeld => ?_)
            · exact hBN
            clear hK K
            try simp only [Act.put, List.setIfInBounds_toArray, List.set_cons_zero, List.set_cons_succ]
            refine wpAnyH_take (i := 15) (oi := { dst := some 5, op := Go.Op.assign (Go.Operand.tmp 50), type := 38, pos := "ref.go:79", after := #[{ on := 14, ground := Go.Ground.data }, { on := 14, ground := Go.Ground.chain }, { on := 0, ground := Go.Ground.phase }, { on := 1, ground := Go.Ground.phase }, { on := 2, ground := Go.Ground.phase }, { on := 3, ground := Go.Ground.phase }, { on := 4, ground := Go.Ground.phase }, { on := 5, ground := Go.Ground.phase }, { on := 6, ground := Go.Ground.phase }, { on := 7, ground := Go.Ground.phase }, { on := 8, ground := Go.Ground.phase }, { on := 9, ground := Go.Ground.phase }, { on := 10, ground := Go.Ground.phase }, { on := 11, ground := Go.Ground.phase }, { on := 12, ground := Go.Ground.phase }, { on := 13, ground := Go.Ground.phase }, { on := 14, ground := Go.Ground.phase }], guard := none }) (v := ?p_9_0_4_10_14v15) rfl (by kernel_rfl) (by kernel_rfl) (by kernel_rfl) (fun _ _ _ h => h) (Or.inl ⟨by rfl, ?p_9_0_4_10_14y15⟩) (by assumption) ?p_9_0_4_10_14r15
            case p_9_0_4_10_14y15 => (intro w hSw; (try dsimp only at hSw); go_simp; try (with_reducible rfl))
            case p_9_0_4_10_14r15 =>
            try simp only [Act.put, List.setIfInBounds_toArray, List.set_cons_zero, List.set_cons_succ]
            refine wpAnyH_done (by kernel_rfl) ?_ _
            have HT3 := Lib.hid (tri_done hown1)
            have HB3 := Lib.hid hHeld
            obtain ⟨A1, c1, rfl⟩ := own_form hown1
            go_wp2_with fail
            refine ⟨⟨i + 1, _, rfl, hlt, by first | rfl | exact next (by omega), Lib.hid ?_, Lib.hid (B0.out.trans (HB3.out.mono B0.out.size))⟩, by first | exact meas hlt (by omega) | (show nX - ((i : Int) + 1).toNat < nX - (i : Int).toNat; omega)⟩
            rw [HNP.out]
            exact HT3.out
    · as_aux_lemma =>
      have dj : decide ((i : Int) < (nX : Int)) = false := decide_eq_false (by omega)
      have hin : i = AC.length := by rw [← HNX.out]; omega
      have hRe : R = nats OL := by rw [HR.out, HOL.out, hin, List.take_length, HLN.out, List.take_length]
      subst hRe
      have FO := hO
      have FB := hBW
      clear hin hO hBW HR
      go_wp2_with fail
      go_ret
      exact ⟨_, rfl, FO.out, FB.out⟩
end Go.Proofs.Ytammeedmccblcaa.Cs
