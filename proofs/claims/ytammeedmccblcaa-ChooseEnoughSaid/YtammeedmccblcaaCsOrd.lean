/-
  The document's order of coins. Conditions: at most nineteen coins.
-/
import Derived.Test.YtammeedmccblcaaCsTri
import Derived.Deep.DeepCutAuto
import Derived.Deep.CutBlock
namespace Go.Proofs.Ytammeedmccblcaa.Cs
open Go.RowKit

def atI (l : List Cn) : List Int := l.map fun c => (c.2 : Int)
def woI (l : List Cn) : List Int := l.map fun c => c.1
theorem Ints.keepB {k : IntKind} {w w' : World} {v : Value} {xs : List Int} (h : Ints k w w.heap.size v xs) (hb : Below w.heap.size w w') : Ints k w' w'.heap.size v xs := by
  have h2 := h.below hb
  obtain ⟨A, c, hv, h3, h4, h5, h6⟩ := h2
  exact ⟨A, c, hv, h3, h4, h5, fun hne => by obtain ⟨b, o, e, hlt, hc⟩ := h6 hne; exact ⟨b, o, e, Nat.lt_of_lt_of_le hlt hb.size, hc⟩⟩
theorem Ints.at {k : IntKind} {w : World} {B : Nat} {v : Value} {xs : List Int} (h : Ints k w B v xs) {i : Nat} {x : Int} (hi : xs[i]? = some x) : ∃ b o c, v = .slice (some ⟨b, o, none⟩) xs.length c ∧ xs.length ≤ c ∧ w.cell? ⟨b, o + i, none⟩ = some (.int k x) := by
  obtain ⟨A, c, hv, h3, h4, h5, h6⟩ := h
  obtain ⟨b, o, e, hlt, hc⟩ := h6 (by rintro rfl; simp at hi)
  exact ⟨b, o, c, by rw [hv, e], h3, hc i x hi⟩
theorem Ints.form {k : IntKind} {w : World} {B : Nat} {v : Value} {xs : List Int} (h : Ints k w B v xs) : ∃ A c, v = .slice A xs.length c ∧ xs.length ≤ c ∧ c ≤ 9223372036854775807 := by
  obtain ⟨A, c, hv, h3, h4, _⟩ := h
  exact ⟨A, c, hv, h3, h4⟩
set_option maxRecDepth 100000 in
set_option maxHeartbeats 12800000 in
theorem order_any (B : Nat) (v : Value) (l : List (Int × Int)) (rate : Int) (w : World) (hX : CrR w B v l) (hB : B ≤ w.heap.size) (hl : l.length ≤ 19) (hc : CoinsOk l) :
    Calls Try.prog 30 #[v, .int .i64 rate] w fun e w' => ∃ ua uw, e = .returned (.tuple #[ua, uw, .bool (decide (sumD (handF rate l) ≤ 2100000000000000))]) ∧ (sumD (handF rate l) ≤ 2100000000000000 → Ints .i64 w' w'.heap.size ua (atI (handF rate l)) ∧ Ints .i64 w' w'.heap.size uw (woI (handF rate l))) ∧ Below w.heap.size w w' := by
  obtain ⟨HD, hHD⟩ : ∃ z, z = handF rate l := ⟨_, rfl⟩
  rw [← hHD]
  have HHD := Lib.hid hHD
  obtain ⟨ok, hok⟩ : ∃ z, z = decide (sumD HD ≤ 2100000000000000) := ⟨_, rfl⟩
  rw [← hok]
  have HOK := Lib.hid hok
  clear hok
  obtain ⟨A, c, rfl, _, _⟩ := hX.form
  obtain ⟨nX, hnX⟩ : ∃ z, z = l.length := ⟨_, rfl⟩
  rw [← hnX] at hX hl ⊢
  have HX := Lib.hid hX
  have HB := Lib.hid hB
  have HNX := Lib.hid hnX
  have HC := Lib.hid hc
  clear hX hB hnX hc hHD
  go_enter Try.func30, Try.ntmps30
  go_wp2
  go_loopw [7, 8, 9, 10, 11, 12] (fun sa sw ss si s11 s12 wr => ∃ (i : Nat) (ua uw : Value), ua = sa ∧ uw = sw ∧ i ≤ nX ∧ si = .int .i64 (i : Int) ∧ ss = .int .i64 (sumD (dealF rate 0 (l.take i))) ∧ Hid (Ints .i64 wr wr.heap.size ua (atI (sortD (dealF rate 0 (l.take i))))) ∧ Hid (Ints .i64 wr wr.heap.size uw (woI (sortD (dealF rate 0 (l.take i))))) ∧ Hid (sumD (dealF rate 0 (l.take i)) ≤ 2100000000000000) ∧ Hid (Below w.heap.size w wr)) (fun _ _ _ si _ _ _ => nX - (intOf si).toNat)
  case atStart => exact ⟨0, _, _, rfl, rfl, Nat.zero_le _, rfl, rfl, Lib.hid (Ints.nil _ _ _), Lib.hid (Ints.nil _ _ _), Lib.hid (by show (0 : Int) ≤ _; omega), Lib.hid (Below.refl _ _)⟩
  case round =>
    obtain ⟨i, ua, uw, hsa, hsw, hi, rfl, rfl, hA, hW, hS, hBW⟩ := hrel
    subst hsa hsw
    obtain ⟨w3, rfl⟩ : ∃ z : World, z = wr := ⟨_, rfl⟩
    have hdn := dealF_length rate (l.take i) 0
    have hdn2 : (dealF rate 0 (l.take i)).length ≤ i := Nat.le_trans hdn (by rw [List.length_take]; omega)
    have hpos := dealF_pos rate (l.take i) 0
    obtain ⟨DL, hDL⟩ : ∃ z, z = dealF rate 0 (l.take i) := ⟨_, rfl⟩
    rw [← hDL] at hA hW hS hdn2 hpos ⊢
    have hs0 := sumD_nonneg hpos
    have hsl := (sortD_perm DL).length_eq
    obtain ⟨AC, hAC⟩ : ∃ z, z = sortD DL := ⟨_, rfl⟩
    rw [← hAC] at hA hW hsl
    obtain ⟨Aa, ca, rfl, ha1, ha2⟩ := Ints.form hA.out
    obtain ⟨Aw, cw, rfl, hw1, hw2⟩ := Ints.form hW.out
    have hla : (atI AC).length = AC.length := List.length_map _
    have hlw : (woI AC).length = AC.length := List.length_map _
    rw [hla] at hA ha1
    rw [hlw] at hW hw1
    rw [hla, hlw]
    obtain ⟨n, hn⟩ : ∃ z, z = AC.length := ⟨_, rfl⟩
    rw [← hn] at hA hW ha1 hw1 hsl ⊢
    obtain ⟨s, hs⟩ : ∃ z, z = sumD DL := ⟨_, rfl⟩
    rw [← hs] at hS hs0 ⊢
    have hSo := hS.out
    have HN := Lib.hid hn
    have HDL := Lib.hid hDL
    have HAC := Lib.hid hAC
    have HSS := Lib.hid hs
    have hn19 : n ≤ 19 := by omega
    clear hn hDL hAC hs hdn hdn2 hpos hla hlw hsl
    by_cases hlt : i < nX
    · as_aux_lemma =>
      have dj : decide ((i : Int) < (nX : Int)) = true := decide_eq_true (by omega)
      obtain ⟨x, hx⟩ : ∃ x, l[i]? = some x := ⟨_, List.getElem?_eq_getElem (by rw [← HNX.out]; exact hlt)⟩
      have hXw : CrR w3 B (.slice A nX c) l := by have := HX.out; exact this.below (hBW.out.mono HB.out)
      obtain ⟨b', o', c', ef, _, _, hbl, hc0, hc1⟩ := hXw.at hx
      injection ef with ef1 ef2 ef3
      subst ef1
      clear ef2 ef3
      have hcx := HC.out x (List.mem_of_getElem? hx)
      have hwo := fun W => rworth_any rate x.1 x.2 W hcx.1 hcx.2.1 hcx.2.2.1 hcx.2.2.2
      have hwb := worth_bd rate x.1 x.2
      have hdt := dealF_take rate l hx
      unfold dealt1 at hdt
      obtain ⟨wo, hwo1⟩ : ∃ z, z = worthF rate x.1 x.2 := ⟨_, rfl⟩
      rw [← hwo1] at hdt hwb
      rw [← HDL.out] at hdt
      simp only [← hwo1] at hwo
      have HDT := Lib.hid hdt
      clear hx hXw hcx hdt hwo1
      by_cases hz : wo = 0
      · have dz : decide (wo = 0) = true := decide_eq_true hz
        have hd2 : dealF rate 0 (l.take (i + 1)) = DL := by rw [HDT.out, if_neg (by omega), List.append_nil]
        have HD2 := Lib.hid hd2
        clear hd2
        go_wp2_with (first
          | (go_at_call 11; refine (hwo _).mono ?_; rintro e w4 ⟨rfl, hb4⟩))
        refine ⟨⟨i + 1, _, _, rfl, rfl, hlt, by first | rfl | exact next (by omega), by rw [HD2.out, HSS.out], Lib.hid ?_, Lib.hid ?_, Lib.hid ?_, Lib.hid (hBW.out.trans (hb4.mono hBW.out.size))⟩, by first | exact meas hlt (by omega) | (show nX - ((i : Int) + 1).toNat < nX - (i : Int).toNat; omega)⟩
        · rw [HD2.out, ← HAC.out]; exact Ints.keepB hA.out hb4
        · rw [HD2.out, ← HAC.out]; exact Ints.keepB hW.out hb4
        · rw [HD2.out, ← HSS.out]; exact hSo
      · have dz : decide (wo = 0) = false := decide_eq_false hz
        have hwr : IntKind.i64.wrap (s + wo) = s + wo := IntWalk.i64_in _ (by omega)
        have hd2 : dealF rate 0 (l.take (i + 1)) = DL ++ [(wo, i)] := by rw [HDT.out, if_pos (by omega)]
        have hsum2 : sumD (dealF rate 0 (l.take (i + 1))) = s + wo := by
          rw [hd2, sumD_append, ← HSS.out]
          show s + (wo + 0) = s + wo
          omega
        have hpre := sum_prefix rate l (i + 1)
        rw [hsum2, ← handF_sum, ← HHD.out] at hpre
        cases hval : amtB (s + wo) with
        | false =>
          have hb := amtB_false hval
          have hR : ¬ sumD HD ≤ 2100000000000000 := by omega
          obtain rfl : ok = false := by rw [HOK.out]; exact decide_eq_false hR
          have HRR := Lib.hid hR
          clear hpre hsum2 hd2 hR hb
          go_wp2_with (first
            | (go_at_call 11; refine (hwo _).mono ?_; rintro e w4 ⟨rfl, hb4⟩)
            | (go_at_call 26; refine (refValid_any _ _).mono ?_; rintro e w5 ⟨rfl, rfl⟩))
          exact bodyPost_ret (v := .tuple #[.slice none 0 0, .slice none 0 0, .bool false]) (by simp [results, Try.results30, go_sem]) rfl ⟨_, _, rfl, fun h => absurd h (Int.not_le.2 HRR.out), hBW.out.trans (hb4.mono hBW.out.size)⟩
        | true =>
          have hvb := amtB_true hval
          have HD2 := Lib.hid hd2
          have HS2 := Lib.hid hsum2
          have HP := Lib.hid hpre
          clear hpre hsum2 hd2
          go_upto_block 2 with (first
            | (go_at_call 11; refine (hwo _).mono ?_; rintro e w4 ⟨rfl, hb4⟩)
            | (go_at_call 26; refine (refValid_any _ _).mono ?_; rintro e w5 ⟨rfl, rfl⟩))
          have hA4 := Lib.hid (show Ints .i64 w4 w4.heap.size (.slice Aa n ca) (atI AC) from Ints.keepB hA.out hb4)
          have hW4 := Lib.hid (show Ints .i64 w4 w4.heap.size (.slice Aw n cw) (woI AC) from Ints.keepB hW.out hb4)
          have B4 := Lib.hid (hBW.out.trans (hb4.mono hBW.out.size))
          clear hb4 hBW hA hW hwo hc0 hc1
          go_cut [12] (fun k12 wx => ∃ kk : Nat, k12 = .int .i64 (kk : Int) ∧ kk ≤ n ∧ Hid (∀ a ∈ AC.take kk, wo ≤ a.1) ∧ Hid (∀ b, (AC.drop kk).head? = some b → b.1 < wo) ∧ Hid (wx = w4))
          case first =>
            apply wp_block
            go_loop [12] (fun s12 => ∃ kk : Nat, s12 = .int .i64 (kk : Int) ∧ kk ≤ n ∧ Hid (∀ a ∈ AC.take kk, wo ≤ a.1)) (fun s12 => n - (intOf s12).toNat)
            case atStart => exact ⟨0, rfl, Nat.zero_le _, Lib.hid (fun a h => by simp at h)⟩
            case round =>
              obtain ⟨kk, rfl, hkk, hge⟩ := hrel
              by_cases hkn : kk < n
              · have dk : decide ((kk : Int) < (n : Int)) = true := decide_eq_true (by omega)
                obtain ⟨y, hy⟩ : ∃ y, AC[kk]? = some y := ⟨_, List.getElem?_eq_getElem (by rw [← HN.out]; exact hkn)⟩
                obtain ⟨b2, o2, c2, ef, hcc, hce⟩ := Ints.at (show Ints .i64 w4 w4.heap.size (.slice Aw n cw) (woI AC) from hW4.out) (i := kk) (x := y.1) (by unfold woI; rw [List.getElem?_map, hy]; rfl)
                injection ef with ef1 ef2 ef3
                subst ef1
                clear ef2 ef3 hcc
                by_cases hyw : wo ≤ y.1
                · have dy : decide (wo ≤ y.1) = true := decide_eq_true hyw
                  have hnx : ∀ a ∈ AC.take (kk + 1), wo ≤ a.1 := fun a ha => by
                    rw [List.take_add_one, hy] at ha
                    rcases List.mem_append.1 ha with h | h
                    · exact hge.out a h
                    · obtain rfl : a = y := by simpa using h
                      exact hyw
                  have HNX2 := Lib.hid hnx
                  clear hnx hy
                  go_wp2_with fail
                  go_round
                  case rel => exact ⟨kk + 1, by first | rfl | exact next (by omega), by omega, HNX2⟩
                  case measure => first | (show n - ((kk : Int) + 1).toNat < n - (kk : Int).toNat; omega) | exact meas hkn (by omega)
                · have dy : decide (wo ≤ y.1) = false := decide_eq_false hyw
                  have hhd : ∀ b, (AC.drop kk).head? = some b → b.1 < wo := fun b hb => by
                    rw [List.head?_drop, hy] at hb
                    injection hb with hb
                    subst hb
                    omega
                  have HH := Lib.hid hhd
                  clear hhd hy
                  go_wp2_with fail
                  go_meet
                  exact ⟨kk, rfl, hkk, hge, HH, Lib.hid rfl⟩
              · have dk : decide ((kk : Int) < (n : Int)) = false := decide_eq_false (by omega)
                have hhd : ∀ b, (AC.drop kk).head? = some b → b.1 < wo := fun b hb => by
                  rw [List.drop_of_length_le (by rw [← HN.out]; omega)] at hb
                  cases hb
                have HH := Lib.hid hhd
                clear hhd
                go_wp2_with fail
                go_meet
                exact ⟨kk, rfl, hkk, hge, HH, Lib.hid rfl⟩
          case rest =>
            obtain ⟨kk, hs12, hkk, hge, hlt2, hwx⟩ := hcut
            subst hs12
            obtain ⟨W0, hW0⟩ : ∃ z : World, z = wc := ⟨_, rfl⟩
            rw [← hW0]
            have hI : Ints .i64 W0 W0.heap.size (.slice Aa n ca) (atI AC) := by rw [hW0, hwx.out]; exact hA4.out
            have hI2 := Lib.hid (show Ints .i64 W0 W0.heap.size (.slice Aw n cw) (woI AC) by rw [hW0, hwx.out]; exact hW4.out)
            have B0 := Lib.hid (show Below w.heap.size w W0 by rw [hW0, hwx.out]; exact B4.out)
            clear hA4 hW4 B4 hW0 hwx
            have hnA : n = (atI AC).length := by unfold atI; rw [List.length_map]; exact HN.out
            have hkA : kk ≤ (atI AC).length := by rw [← hnA]; exact hkk
            have HNA := Lib.hid hnA
            have HKA := Lib.hid hkA
            have HI := Lib.hid hI
            clear hI hnA hkA
            go_upto_region 15 with fail
            go_cut [7] (fun s7 wx => ∃ u7, s7 = u7 ∧ Hid (Ints .i64 wx wx.heap.size u7 ((atI AC).take kk ++ (i : Int) :: (atI AC).drop kk)) ∧ Hid (Below W0.heap.size W0 wx))
            case first =>
              have HLA := Lib.hid (show (atI AC).length ≤ 1000 by rw [← HNA.out]; omega)
              refine wp_region_held_drew (S := (fun w' => Below W0.heap.size W0 w')) (by kernel_rfl) ?_ (fun hHeld => ?_)
              · exact (Below.refl _ W0).drew
              refine wpAnyH_take (i := 1) (oi := { dst := some 48, op := Go.Op.move (Go.Operand.tmp 7), type := 38, pos := "ref.go:51", after := #[], guard := none }) (v := ?pv1) rfl (by kernel_rfl) (by kernel_rfl) (by kernel_rfl) (fun _ _ _ h => h) (Or.inl ⟨by rfl, ?py1⟩) (by assumption) ?pr1
              case py1 => (intro w hSw; (try dsimp only at hSw); go_simp; try (with_reducible rfl))
              case pr1 =>
              try simp only [Act.put, List.setIfInBounds_toArray, List.set_cons_zero, List.set_cons_succ]
              refine wpAnyH_take (i := 2) (oi := { dst := some 49, op := Go.Op.move (Go.Operand.tmp 12), type := 3, pos := "ref.go:51", after := #[], guard := none }) (v := ?pv2) rfl (by kernel_rfl) (by kernel_rfl) (by kernel_rfl) (fun _ _ _ h => h) (Or.inl ⟨by rfl, ?py2⟩) (by assumption) ?pr2
              case py2 => (intro w hSw; (try dsimp only at hSw); go_simp; try (with_reducible rfl))
              case pr2 =>
              try simp only [Act.put, List.setIfInBounds_toArray, List.set_cons_zero, List.set_cons_succ]
              refine wpAnyH_take (i := 3) (oi := { dst := some 50, op := Go.Op.slice 38 (Go.Operand.tmp 48) none (some (Go.Operand.tmp 49)) none, type := 38, pos := "ref.go:51", after := #[{ on := 1, ground := Go.Ground.data }, { on := 2, ground := Go.Ground.data }], guard := none }) (v := (.slice Aa kk ca)) rfl (by kernel_rfl) (by kernel_rfl) (by kernel_rfl) (fun _ _ _ h => h) (yieldsIf_slice (by rfl) 38 int_t (.tmp 48) none (some (.tmp 49)) rfl (run_front int_t Aa n ca kk (by omega))) (by assumption) ?_
              try simp only [Act.put, List.setIfInBounds_toArray, List.set_cons_zero, List.set_cons_succ]
              refine wpAnyH_take (i := 5) (oi := { dst := some 52, op := Go.Op.move (Go.Operand.tmp 10), type := 3, pos := "ref.go:51", after := #[], guard := none }) (v := ?pv5) rfl (by kernel_rfl) (by kernel_rfl) (by kernel_rfl) (fun _ _ _ h => h) (Or.inl ⟨by rfl, ?py5⟩) (by assumption) ?pr5
              case py5 => (intro w hSw; (try dsimp only at hSw); go_simp; try (with_reducible rfl))
              case pr5 =>
              try simp only [Act.put, List.setIfInBounds_toArray, List.set_cons_zero, List.set_cons_succ]
              refine wpAnyH_take (i := 8) (oi := { dst := some 55, op := Go.Op.move (Go.Operand.tmp 7), type := 38, pos := "ref.go:51", after := #[], guard := none }) (v := ?pv8) rfl (by kernel_rfl) (by kernel_rfl) (by kernel_rfl) (fun _ _ _ h => h) (Or.inl ⟨by rfl, ?py8⟩) (by assumption) ?pr8
              case py8 => (intro w hSw; (try dsimp only at hSw); go_simp; try (with_reducible rfl))
              case pr8 =>
              try simp only [Act.put, List.setIfInBounds_toArray, List.set_cons_zero, List.set_cons_succ]
              refine wpAnyH_take (i := 9) (oi := { dst := some 56, op := Go.Op.move (Go.Operand.tmp 12), type := 3, pos := "ref.go:51", after := #[], guard := none }) (v := ?pv9) rfl (by kernel_rfl) (by kernel_rfl) (by kernel_rfl) (fun _ _ _ h => h) (Or.inl ⟨by rfl, ?py9⟩) (by assumption) ?pr9
              case py9 => (intro w hSw; (try dsimp only at hSw); go_simp; try (with_reducible rfl))
              case pr9 =>
              try simp only [Act.put, List.setIfInBounds_toArray, List.set_cons_zero, List.set_cons_succ]
              refine wpAnyH_take (i := 10) (oi := { dst := some 57, op := Go.Op.slice 38 (Go.Operand.tmp 55) (some (Go.Operand.tmp 56)) none none, type := 38, pos := "ref.go:51", after := #[{ on := 8, ground := Go.Ground.data }, { on := 9, ground := Go.Ground.data }], guard := none }) (v := (restV Aa n ca kk)) rfl (by kernel_rfl) (by kernel_rfl) (by kernel_rfl) (fun _ _ _ h => h) (yieldsIf_slice (by rfl) 38 int_t (.tmp 55) (some (.tmp 56)) none rfl (fun w => by (show Sem.run _ (Instr.slice _ (Value.slice Aa n ca) (some (Value.int .i64 (kk : Int))) none none) w = _; exact run_rest int_t Aa n ca kk (by omega) w))) (by assumption) ?_
              try simp only [Act.put, List.setIfInBounds_toArray, List.set_cons_zero, List.set_cons_succ]
              refine wpAnyH_ready (rs := [0, 6]) (by kernel_rfl) (by simp) ?_
              refine AllReadyH.cons (o := { dst := some 47, op := Go.Op.buildSlice 38 0 #[], type := 38, pos := "ref.go:51", after := #[], guard := none }) rfl (fun K hK => ?_) (AllReadyH.cons (o := { dst := some 53, op := Go.Op.buildSlice 38 1 #[(0, Go.Operand.tmp 52)], type := 38, pos := "ref.go:51", after := #[{ on := 5, ground := Go.Ground.data }], guard := none }) rfl (fun K hK => ?_) (AllReadyH.nil))
              · skip
                have OW := mk0_own (e := 3) hHeld
                refine wp_buildSlice _ _ _ rfl _ _ (by simp only [List.map_toArray, List.map_nil]; exact mk0_int _) ?_
                refine hK.out _ _ ?_ (fun hHeld => ?_)
                · exact Below.alloc hHeld hHeld.size _
                clear hK K
                try simp only [Act.put, List.setIfInBounds_toArray, List.set_cons_zero, List.set_cons_succ]
                refine wpAnyH_ready (rs := [4, 6]) (by kernel_rfl) (by simp) ?_
                refine AllReadyH.cons (o := { dst := some 51, op := Go.Op.call { callee := Go.Callee.builtin Go.Builtin.append, args := #[Go.Operand.tmp 47, Go.Operand.tmp 50], argTypes := #[38, 38] }, type := 38, pos := "ref.go:51", after := #[{ on := 0, ground := Go.Ground.data }, { on := 3, ground := Go.Ground.data }], guard := none }) rfl (fun K hK => ?_) (AllReadyH.cons (o := { dst := some 53, op := Go.Op.buildSlice 38 1 #[(0, Go.Operand.tmp 52)], type := 38, pos := "ref.go:51", after := #[{ on := 5, ground := Go.Ground.data }], guard := none }) rfl (fun K hK => ?_) (AllReadyH.nil))
                · skip
                  refine op_append_i int_t (.tmp 47) (.tmp 50) rfl W0.heap.size _ 0 [] rfl OW _ _ ((atI AC).take kk) rfl (Ints.front (Ints.below HI.out hHeld) HNA.out HKA.out) (tri_le (HLA.out) kk (i : Int)).1 hHeld.size ?_
                  intro v1 w1 hown1 hg1 ho1
                  have hBN := Below.grown hHeld hg1 hHeld.size (fun q hq => (OW.lt q hq).1)
                  have OX := hown1
                  refine hK.out _ _ ?_ (fun hHeld => ?_)
                  · exact hBN
                  clear hK K
                  try simp only [Act.put, List.setIfInBounds_toArray, List.set_cons_zero, List.set_cons_succ]
                  refine wpAnyH_ready (rs := [6]) (by kernel_rfl) (by simp) ?_
                  refine AllReadyH.cons (o := { dst := some 53, op := Go.Op.buildSlice 38 1 #[(0, Go.Operand.tmp 52)], type := 38, pos := "ref.go:51", after := #[{ on := 5, ground := Go.Ground.data }], guard := none }) rfl (fun K hK => ?_) (AllReadyH.nil)
                  have OW := own_alloc1 (x := (i : Int)) OX
                  have RX := mk1_at (e := 3) (x := (i : Int)) hHeld
                  refine wp_buildSlice _ _ _ rfl _ _ (by simp only [List.map_toArray, List.map_cons, List.map_nil]; exact mk1_int (i : Int) _) ?_
                  refine hK.out _ _ ?_ (fun hHeld => ?_)
                  · exact Below.alloc hHeld hHeld.size _
                  clear hK K
                  try simp only [Act.put, List.setIfInBounds_toArray, List.set_cons_zero, List.set_cons_succ]
                  refine wpAnyH_ready (rs := [7]) (by kernel_rfl) (by simp) ?_
                  refine AllReadyH.cons (o := { dst := some 54, op := Go.Op.call { callee := Go.Callee.builtin Go.Builtin.append, args := #[Go.Operand.tmp 51, Go.Operand.tmp 53], argTypes := #[38, 38] }, type := 38, pos := "ref.go:51", after := #[{ on := 4, ground := Go.Ground.data }, { on := 6, ground := Go.Ground.data }, { on := 4, ground := Go.Ground.chain }], guard := none }) rfl (fun K hK => ?_) (AllReadyH.nil)
                  refine op_append_i int_t (.tmp 51) (.tmp 53) rfl W0.heap.size _ _ _ rfl OW _ _ [(i : Int)] rfl (ints_row RX) (tri_le (HLA.out) kk (i : Int)).2.1 hHeld.size ?_
                  intro v1 w1 hown1 hg1 ho1
                  have hBN := Below.grown hHeld hg1 hHeld.size (fun q hq => (OW.lt q hq).1)
                  have OX := hown1
                  refine hK.out _ _ ?_ (fun hHeld => ?_)
                  · exact hBN
                  clear hK K
                  try simp only [Act.put, List.setIfInBounds_toArray, List.set_cons_zero, List.set_cons_succ]
                  refine wpAnyH_ready (rs := [11]) (by kernel_rfl) (by simp) ?_
                  refine AllReadyH.cons (o := { dst := some 58, op := Go.Op.call { callee := Go.Callee.builtin Go.Builtin.append, args := #[Go.Operand.tmp 54, Go.Operand.tmp 57], argTypes := #[38, 38] }, type := 38, pos := "ref.go:51", after := #[{ on := 7, ground := Go.Ground.data }, { on := 10, ground := Go.Ground.data }, { on := 7, ground := Go.Ground.chain }], guard := none }) rfl (fun K hK => ?_) (AllReadyH.nil)
                  have OW := OX
                  refine op_append_i int_t (.tmp 54) (.tmp 57) rfl W0.heap.size _ _ _ rfl OW _ _ ((atI AC).drop kk) rfl (Ints.rest (Ints.below HI.out hHeld) HNA.out HKA.out) (tri_le (HLA.out) kk (i : Int)).2.2 hHeld.size ?_
                  intro v1 w1 hown1 hg1 ho1
                  have hBN := Below.grown hHeld hg1 hHeld.size (fun q hq => (OW.lt q hq).1)
                  refine hK.out _ _ ?_ (fun hHeld => ?_)
                  · exact hBN
                  clear hK K
                  try simp only [Act.put, List.setIfInBounds_toArray, List.set_cons_zero, List.set_cons_succ]
                  refine wpAnyH_take (i := 12) (oi := { dst := some 7, op := Go.Op.assign (Go.Operand.tmp 58), type := 38, pos := "ref.go:51", after := #[{ on := 11, ground := Go.Ground.data }, { on := 11, ground := Go.Ground.chain }, { on := 0, ground := Go.Ground.phase }, { on := 1, ground := Go.Ground.phase }, { on := 2, ground := Go.Ground.phase }, { on := 3, ground := Go.Ground.phase }, { on := 4, ground := Go.Ground.phase }, { on := 5, ground := Go.Ground.phase }, { on := 6, ground := Go.Ground.phase }, { on := 7, ground := Go.Ground.phase }, { on := 8, ground := Go.Ground.phase }, { on := 9, ground := Go.Ground.phase }, { on := 10, ground := Go.Ground.phase }, { on := 11, ground := Go.Ground.phase }], guard := none }) (v := ?p_0_4_6_7_11v12) rfl (by kernel_rfl) (by kernel_rfl) (by kernel_rfl) (fun _ _ _ h => h) (Or.inl ⟨by rfl, ?p_0_4_6_7_11y12⟩) (by assumption) ?p_0_4_6_7_11r12
                  case p_0_4_6_7_11y12 => (intro w hSw; (try dsimp only at hSw); go_simp; try (with_reducible rfl))
                  case p_0_4_6_7_11r12 =>
                  try simp only [Act.put, List.setIfInBounds_toArray, List.set_cons_zero, List.set_cons_succ]
                  refine wpAnyH_done (by kernel_rfl) ?_ _
                  have HT3 := Lib.hid (tri_done hown1)
                  have HB3 := Lib.hid hHeld
                  obtain ⟨A1, c1, rfl⟩ := own_form hown1
                  go_wp2_with fail
                  go_meet
                  exact ⟨_, rfl, HT3, HB3⟩
                · skip
                  have OY := own_alloc1 (x := (i : Int)) OW
                  have NE := own_ne OW
                  have RX := mk1_at (e := 3) (x := (i : Int)) hHeld
                  have OW := OY
                  refine wp_buildSlice _ _ _ rfl _ _ (by simp only [List.map_toArray, List.map_cons, List.map_nil]; exact mk1_int (i : Int) _) ?_
                  refine hK.out _ _ ?_ (fun hHeld => ?_)
                  · exact Below.alloc hHeld hHeld.size _
                  clear hK K
                  try simp only [Act.put, List.setIfInBounds_toArray, List.set_cons_zero, List.set_cons_succ]
                  refine wpAnyH_ready (rs := [4]) (by kernel_rfl) (by simp) ?_
                  refine AllReadyH.cons (o := { dst := some 51, op := Go.Op.call { callee := Go.Callee.builtin Go.Builtin.append, args := #[Go.Operand.tmp 47, Go.Operand.tmp 50], argTypes := #[38, 38] }, type := 38, pos := "ref.go:51", after := #[{ on := 0, ground := Go.Ground.data }, { on := 3, ground := Go.Ground.data }], guard := none }) rfl (fun K hK => ?_) (AllReadyH.nil)
                  refine op_append_i int_t (.tmp 47) (.tmp 50) rfl W0.heap.size _ 0 [] rfl OW _ _ ((atI AC).take kk) rfl (Ints.front (Ints.below HI.out hHeld) HNA.out HKA.out) (tri_le (HLA.out) kk (i : Int)).1 hHeld.size ?_
                  intro v1 w1 hown1 hg1 ho1
                  have hBN := Below.grown hHeld hg1 hHeld.size (fun q hq => (OW.lt q hq).1)
                  have RX := row_grown RX hg1 NE
                  have OX := hown1
                  refine hK.out _ _ ?_ (fun hHeld => ?_)
                  · exact hBN
                  clear hK K
                  try simp only [Act.put, List.setIfInBounds_toArray, List.set_cons_zero, List.set_cons_succ]
                  refine wpAnyH_ready (rs := [7]) (by kernel_rfl) (by simp) ?_
                  refine AllReadyH.cons (o := { dst := some 54, op := Go.Op.call { callee := Go.Callee.builtin Go.Builtin.append, args := #[Go.Operand.tmp 51, Go.Operand.tmp 53], argTypes := #[38, 38] }, type := 38, pos := "ref.go:51", after := #[{ on := 4, ground := Go.Ground.data }, { on := 6, ground := Go.Ground.data }, { on := 4, ground := Go.Ground.chain }], guard := none }) rfl (fun K hK => ?_) (AllReadyH.nil)
                  have OW := OX
                  refine op_append_i int_t (.tmp 51) (.tmp 53) rfl W0.heap.size _ _ _ rfl OW _ _ [(i : Int)] rfl (ints_row RX) (tri_le (HLA.out) kk (i : Int)).2.1 hHeld.size ?_
                  intro v1 w1 hown1 hg1 ho1
                  have hBN := Below.grown hHeld hg1 hHeld.size (fun q hq => (OW.lt q hq).1)
                  have OX := hown1
                  refine hK.out _ _ ?_ (fun hHeld => ?_)
                  · exact hBN
                  clear hK K
                  try simp only [Act.put, List.setIfInBounds_toArray, List.set_cons_zero, List.set_cons_succ]
                  refine wpAnyH_ready (rs := [11]) (by kernel_rfl) (by simp) ?_
                  refine AllReadyH.cons (o := { dst := some 58, op := Go.Op.call { callee := Go.Callee.builtin Go.Builtin.append, args := #[Go.Operand.tmp 54, Go.Operand.tmp 57], argTypes := #[38, 38] }, type := 38, pos := "ref.go:51", after := #[{ on := 7, ground := Go.Ground.data }, { on := 10, ground := Go.Ground.data }, { on := 7, ground := Go.Ground.chain }], guard := none }) rfl (fun K hK => ?_) (AllReadyH.nil)
                  have OW := OX
                  refine op_append_i int_t (.tmp 54) (.tmp 57) rfl W0.heap.size _ _ _ rfl OW _ _ ((atI AC).drop kk) rfl (Ints.rest (Ints.below HI.out hHeld) HNA.out HKA.out) (tri_le (HLA.out) kk (i : Int)).2.2 hHeld.size ?_
                  intro v1 w1 hown1 hg1 ho1
                  have hBN := Below.grown hHeld hg1 hHeld.size (fun q hq => (OW.lt q hq).1)
                  refine hK.out _ _ ?_ (fun hHeld => ?_)
                  · exact hBN
                  clear hK K
                  try simp only [Act.put, List.setIfInBounds_toArray, List.set_cons_zero, List.set_cons_succ]
                  refine wpAnyH_take (i := 12) (oi := { dst := some 7, op := Go.Op.assign (Go.Operand.tmp 58), type := 38, pos := "ref.go:51", after := #[{ on := 11, ground := Go.Ground.data }, { on := 11, ground := Go.Ground.chain }, { on := 0, ground := Go.Ground.phase }, { on := 1, ground := Go.Ground.phase }, { on := 2, ground := Go.Ground.phase }, { on := 3, ground := Go.Ground.phase }, { on := 4, ground := Go.Ground.phase }, { on := 5, ground := Go.Ground.phase }, { on := 6, ground := Go.Ground.phase }, { on := 7, ground := Go.Ground.phase }, { on := 8, ground := Go.Ground.phase }, { on := 9, ground := Go.Ground.phase }, { on := 10, ground := Go.Ground.phase }, { on := 11, ground := Go.Ground.phase }], guard := none }) (v := ?p_0_6_4_7_11v12) rfl (by kernel_rfl) (by kernel_rfl) (by kernel_rfl) (fun _ _ _ h => h) (Or.inl ⟨by rfl, ?p_0_6_4_7_11y12⟩) (by assumption) ?p_0_6_4_7_11r12
                  case p_0_6_4_7_11y12 => (intro w hSw; (try dsimp only at hSw); go_simp; try (with_reducible rfl))
                  case p_0_6_4_7_11r12 =>
                  try simp only [Act.put, List.setIfInBounds_toArray, List.set_cons_zero, List.set_cons_succ]
                  refine wpAnyH_done (by kernel_rfl) ?_ _
                  have HT3 := Lib.hid (tri_done hown1)
                  have HB3 := Lib.hid hHeld
                  obtain ⟨A1, c1, rfl⟩ := own_form hown1
                  go_wp2_with fail
                  go_meet
                  exact ⟨_, rfl, HT3, HB3⟩
              · skip
                have RX := mk1_at (e := 3) (x := (i : Int)) hHeld
                refine wp_buildSlice _ _ _ rfl _ _ (by simp only [List.map_toArray, List.map_cons, List.map_nil]; exact mk1_int (i : Int) _) ?_
                refine hK.out _ _ ?_ (fun hHeld => ?_)
                · exact Below.alloc hHeld hHeld.size _
                clear hK K
                try simp only [Act.put, List.setIfInBounds_toArray, List.set_cons_zero, List.set_cons_succ]
                refine wpAnyH_ready (rs := [0]) (by kernel_rfl) (by simp) ?_
                refine AllReadyH.cons (o := { dst := some 47, op := Go.Op.buildSlice 38 0 #[], type := 38, pos := "ref.go:51", after := #[], guard := none }) rfl (fun K hK => ?_) (AllReadyH.nil)
                have OW := mk0_own (e := 3) hHeld
                have NE := mk0_ne RX
                have RX := row_alloc0 RX
                refine wp_buildSlice _ _ _ rfl _ _ (by simp only [List.map_toArray, List.map_nil]; exact mk0_int _) ?_
                refine hK.out _ _ ?_ (fun hHeld => ?_)
                · exact Below.alloc hHeld hHeld.size _
                clear hK K
                try simp only [Act.put, List.setIfInBounds_toArray, List.set_cons_zero, List.set_cons_succ]
                refine wpAnyH_ready (rs := [4]) (by kernel_rfl) (by simp) ?_
                refine AllReadyH.cons (o := { dst := some 51, op := Go.Op.call { callee := Go.Callee.builtin Go.Builtin.append, args := #[Go.Operand.tmp 47, Go.Operand.tmp 50], argTypes := #[38, 38] }, type := 38, pos := "ref.go:51", after := #[{ on := 0, ground := Go.Ground.data }, { on := 3, ground := Go.Ground.data }], guard := none }) rfl (fun K hK => ?_) (AllReadyH.nil)
                refine op_append_i int_t (.tmp 47) (.tmp 50) rfl W0.heap.size _ 0 [] rfl OW _ _ ((atI AC).take kk) rfl (Ints.front (Ints.below HI.out hHeld) HNA.out HKA.out) (tri_le (HLA.out) kk (i : Int)).1 hHeld.size ?_
                intro v1 w1 hown1 hg1 ho1
                have hBN := Below.grown hHeld hg1 hHeld.size (fun q hq => (OW.lt q hq).1)
                have RX := row_grown RX hg1 NE
                have OX := hown1
                refine hK.out _ _ ?_ (fun hHeld => ?_)
                · exact hBN
                clear hK K
                try simp only [Act.put, List.setIfInBounds_toArray, List.set_cons_zero, List.set_cons_succ]
                refine wpAnyH_ready (rs := [7]) (by kernel_rfl) (by simp) ?_
                refine AllReadyH.cons (o := { dst := some 54, op := Go.Op.call { callee := Go.Callee.builtin Go.Builtin.append, args := #[Go.Operand.tmp 51, Go.Operand.tmp 53], argTypes := #[38, 38] }, type := 38, pos := "ref.go:51", after := #[{ on := 4, ground := Go.Ground.data }, { on := 6, ground := Go.Ground.data }, { on := 4, ground := Go.Ground.chain }], guard := none }) rfl (fun K hK => ?_) (AllReadyH.nil)
                have OW := OX
                refine op_append_i int_t (.tmp 51) (.tmp 53) rfl W0.heap.size _ _ _ rfl OW _ _ [(i : Int)] rfl (ints_row RX) (tri_le (HLA.out) kk (i : Int)).2.1 hHeld.size ?_
                intro v1 w1 hown1 hg1 ho1
                have hBN := Below.grown hHeld hg1 hHeld.size (fun q hq => (OW.lt q hq).1)
                have OX := hown1
                refine hK.out _ _ ?_ (fun hHeld => ?_)
                · exact hBN
                clear hK K
                try simp only [Act.put, List.setIfInBounds_toArray, List.set_cons_zero, List.set_cons_succ]
                refine wpAnyH_ready (rs := [11]) (by kernel_rfl) (by simp) ?_
                refine AllReadyH.cons (o := { dst := some 58, op := Go.Op.call { callee := Go.Callee.builtin Go.Builtin.append, args := #[Go.Operand.tmp 54, Go.Operand.tmp 57], argTypes := #[38, 38] }, type := 38, pos := "ref.go:51", after := #[{ on := 7, ground := Go.Ground.data }, { on := 10, ground := Go.Ground.data }, { on := 7, ground := Go.Ground.chain }], guard := none }) rfl (fun K hK => ?_) (AllReadyH.nil)
                have OW := OX
                refine op_append_i int_t (.tmp 54) (.tmp 57) rfl W0.heap.size _ _ _ rfl OW _ _ ((atI AC).drop kk) rfl (Ints.rest (Ints.below HI.out hHeld) HNA.out HKA.out) (tri_le (HLA.out) kk (i : Int)).2.2 hHeld.size ?_
                intro v1 w1 hown1 hg1 ho1
                have hBN := Below.grown hHeld hg1 hHeld.size (fun q hq => (OW.lt q hq).1)
                refine hK.out _ _ ?_ (fun hHeld => ?_)
                · exact hBN
                clear hK K
                try simp only [Act.put, List.setIfInBounds_toArray, List.set_cons_zero, List.set_cons_succ]
                refine wpAnyH_take (i := 12) (oi := { dst := some 7, op := Go.Op.assign (Go.Operand.tmp 58), type := 38, pos := "ref.go:51", after := #[{ on := 11, ground := Go.Ground.data }, { on := 11, ground := Go.Ground.chain }, { on := 0, ground := Go.Ground.phase }, { on := 1, ground := Go.Ground.phase }, { on := 2, ground := Go.Ground.phase }, { on := 3, ground := Go.Ground.phase }, { on := 4, ground := Go.Ground.phase }, { on := 5, ground := Go.Ground.phase }, { on := 6, ground := Go.Ground.phase }, { on := 7, ground := Go.Ground.phase }, { on := 8, ground := Go.Ground.phase }, { on := 9, ground := Go.Ground.phase }, { on := 10, ground := Go.Ground.phase }, { on := 11, ground := Go.Ground.phase }], guard := none }) (v := ?p_6_0_4_7_11v12) rfl (by kernel_rfl) (by kernel_rfl) (by kernel_rfl) (fun _ _ _ h => h) (Or.inl ⟨by rfl, ?p_6_0_4_7_11y12⟩) (by assumption) ?p_6_0_4_7_11r12
                case p_6_0_4_7_11y12 => (intro w hSw; (try dsimp only at hSw); go_simp; try (with_reducible rfl))
                case p_6_0_4_7_11r12 =>
                try simp only [Act.put, List.setIfInBounds_toArray, List.set_cons_zero, List.set_cons_succ]
                refine wpAnyH_done (by kernel_rfl) ?_ _
                have HT3 := Lib.hid (tri_done hown1)
                have HB3 := Lib.hid hHeld
                obtain ⟨A1, c1, rfl⟩ := own_form hown1
                go_wp2_with fail
                go_meet
                exact ⟨_, rfl, HT3, HB3⟩
            case rest =>
              obtain ⟨u7, hs7, HT3, HB3⟩ := hcut
              subst hs7
              obtain ⟨A7, c7, hf7, _, _⟩ := Ints.form HT3.out
              subst hf7
              obtain ⟨W1, hW1⟩ : ∃ z : World, z = wc := ⟨_, rfl⟩
              rw [← hW1]
              have HT7 := Lib.hid (show Ints .i64 W1 W1.heap.size (.slice A7 _ c7) _ by rw [hW1]; exact HT3.out)
              have HI2 := Lib.hid (show Ints .i64 W1 W1.heap.size (.slice Aw n cw) (woI AC) by rw [hW1]; exact Ints.keepB hI2.out HB3.out)
              have B1 := Lib.hid (show Below w.heap.size w W1 by rw [hW1]; exact B0.out.trans (HB3.out.mono B0.out.size))
              have HNW := Lib.hid (show n = (woI AC).length by unfold woI; rw [List.length_map]; exact HN.out)
              have HKW := Lib.hid (show kk ≤ (woI AC).length by rw [← HNW.out]; exact hkk)
              have HLW := Lib.hid (show (woI AC).length ≤ 1000 by rw [← HNW.out]; omega)
              have hins : sortD (dealF rate 0 (l.take (i + 1))) = AC.take kk ++ (wo, i) :: AC.drop kk := by
                rw [HD2.out, sortD_snoc, ← HAC.out]
                conv => lhs; rw [← List.take_append_drop kk AC]
                exact insD_at (wo, i) _ _ hge.out hlt2.out
              have HAT := Lib.hid (show atI (sortD (dealF rate 0 (l.take (i + 1)))) = (atI AC).take kk ++ (i : Int) :: (atI AC).drop kk by
                rw [hins]
                unfold atI
                rw [List.map_append, List.map_cons, List.map_take, List.map_drop])
              have HWT := Lib.hid (show woI (sortD (dealF rate 0 (l.take (i + 1)))) = (woI AC).take kk ++ wo :: (woI AC).drop kk by
                rw [hins]
                unfold woI
                rw [List.map_append, List.map_cons, List.map_take, List.map_drop])
              clear hins hW1 HT3 HB3 HI HNA HKA hI2 B0
              obtain ⟨W0, rfl⟩ : ∃ z : World, z = W1 := ⟨_, rfl⟩
              go_upto_region 16 with fail
              refine wp_region_held_drew (S := (fun w' => Below W0.heap.size W0 w')) (by kernel_rfl) ?_ (fun hHeld => ?_)
              · exact (Below.refl _ W0).drew
              refine wpAnyH_take (i := 1) (oi := { dst := some 60, op := Go.Op.move (Go.Operand.tmp 8), type := 49, pos := "ref.go:52", after := #[], guard := none }) (v := ?qv1) rfl (by kernel_rfl) (by kernel_rfl) (by kernel_rfl) (fun _ _ _ h => h) (Or.inl ⟨by rfl, ?qy1⟩) (by assumption) ?qr1
              case qy1 => (intro w hSw; (try dsimp only at hSw); go_simp; try (with_reducible rfl))
              case qr1 =>
              try simp only [Act.put, List.setIfInBounds_toArray, List.set_cons_zero, List.set_cons_succ]
              refine wpAnyH_take (i := 2) (oi := { dst := some 61, op := Go.Op.move (Go.Operand.tmp 12), type := 3, pos := "ref.go:52", after := #[], guard := none }) (v := ?qv2) rfl (by kernel_rfl) (by kernel_rfl) (by kernel_rfl) (fun _ _ _ h => h) (Or.inl ⟨by rfl, ?qy2⟩) (by assumption) ?qr2
              case qy2 => (intro w hSw; (try dsimp only at hSw); go_simp; try (with_reducible rfl))
              case qr2 =>
              try simp only [Act.put, List.setIfInBounds_toArray, List.set_cons_zero, List.set_cons_succ]
              refine wpAnyH_take (i := 3) (oi := { dst := some 62, op := Go.Op.slice 49 (Go.Operand.tmp 60) none (some (Go.Operand.tmp 61)) none, type := 49, pos := "ref.go:52", after := #[{ on := 1, ground := Go.Ground.data }, { on := 2, ground := Go.Ground.data }], guard := none }) (v := (.slice Aw kk cw)) rfl (by kernel_rfl) (by kernel_rfl) (by kernel_rfl) (fun _ _ _ h => h) (yieldsIf_slice (by rfl) 49 i64_t (.tmp 60) none (some (.tmp 61)) rfl (run_front i64_t Aw n cw kk (by omega))) (by assumption) ?_
              try simp only [Act.put, List.setIfInBounds_toArray, List.set_cons_zero, List.set_cons_succ]
              refine wpAnyH_take (i := 5) (oi := { dst := some 64, op := Go.Op.move (Go.Operand.tmp 11), type := 2, pos := "ref.go:52", after := #[], guard := none }) (v := ?qv5) rfl (by kernel_rfl) (by kernel_rfl) (by kernel_rfl) (fun _ _ _ h => h) (Or.inl ⟨by rfl, ?qy5⟩) (by assumption) ?qr5
              case qy5 => (intro w hSw; (try dsimp only at hSw); go_simp; try (with_reducible rfl))
              case qr5 =>
              try simp only [Act.put, List.setIfInBounds_toArray, List.set_cons_zero, List.set_cons_succ]
              refine wpAnyH_take (i := 8) (oi := { dst := some 67, op := Go.Op.move (Go.Operand.tmp 8), type := 49, pos := "ref.go:52", after := #[], guard := none }) (v := ?qv8) rfl (by kernel_rfl) (by kernel_rfl) (by kernel_rfl) (fun _ _ _ h => h) (Or.inl ⟨by rfl, ?qy8⟩) (by assumption) ?qr8
              case qy8 => (intro w hSw; (try dsimp only at hSw); go_simp; try (with_reducible rfl))
              case qr8 =>
              try simp only [Act.put, List.setIfInBounds_toArray, List.set_cons_zero, List.set_cons_succ]
              refine wpAnyH_take (i := 9) (oi := { dst := some 68, op := Go.Op.move (Go.Operand.tmp 12), type := 3, pos := "ref.go:52", after := #[], guard := none }) (v := ?qv9) rfl (by kernel_rfl) (by kernel_rfl) (by kernel_rfl) (fun _ _ _ h => h) (Or.inl ⟨by rfl, ?qy9⟩) (by assumption) ?qr9
              case qy9 => (intro w hSw; (try dsimp only at hSw); go_simp; try (with_reducible rfl))
              case qr9 =>
              try simp only [Act.put, List.setIfInBounds_toArray, List.set_cons_zero, List.set_cons_succ]
              refine wpAnyH_take (i := 10) (oi := { dst := some 69, op := Go.Op.slice 49 (Go.Operand.tmp 67) (some (Go.Operand.tmp 68)) none none, type := 49, pos := "ref.go:52", after := #[{ on := 8, ground := Go.Ground.data }, { on := 9, ground := Go.Ground.data }], guard := none }) (v := (restV Aw n cw kk)) rfl (by kernel_rfl) (by kernel_rfl) (by kernel_rfl) (fun _ _ _ h => h) (yieldsIf_slice (by rfl) 49 i64_t (.tmp 67) (some (.tmp 68)) none rfl (fun w => by (show Sem.run _ (Instr.slice _ (Value.slice Aw n cw) (some (Value.int .i64 (kk : Int))) none none) w = _; exact run_rest i64_t Aw n cw kk (by omega) w))) (by assumption) ?_
              try simp only [Act.put, List.setIfInBounds_toArray, List.set_cons_zero, List.set_cons_succ]
              refine wpAnyH_ready (rs := [0, 6]) (by kernel_rfl) (by simp) ?_
              refine AllReadyH.cons (o := { dst := some 59, op := Go.Op.buildSlice 49 0 #[], type := 49, pos := "ref.go:52", after := #[], guard := none }) rfl (fun K hK => ?_) (AllReadyH.cons (o := { dst := some 65, op := Go.Op.buildSlice 49 1 #[(0, Go.Operand.tmp 64)], type := 49, pos := "ref.go:52", after := #[{ on := 5, ground := Go.Ground.data }], guard := none }) rfl (fun K hK => ?_) (AllReadyH.nil))
              · skip
                have OW := mk0_own (e := 2) hHeld
                refine wp_buildSlice _ _ _ rfl _ _ (by simp only [List.map_toArray, List.map_nil]; exact mk0_i64 _) ?_
                refine hK.out _ _ ?_ (fun hHeld => ?_)
                · exact Below.alloc hHeld hHeld.size _
                clear hK K
                try simp only [Act.put, List.setIfInBounds_toArray, List.set_cons_zero, List.set_cons_succ]
                refine wpAnyH_ready (rs := [4, 6]) (by kernel_rfl) (by simp) ?_
                refine AllReadyH.cons (o := { dst := some 63, op := Go.Op.call { callee := Go.Callee.builtin Go.Builtin.append, args := #[Go.Operand.tmp 59, Go.Operand.tmp 62], argTypes := #[49, 49] }, type := 49, pos := "ref.go:52", after := #[{ on := 0, ground := Go.Ground.data }, { on := 3, ground := Go.Ground.data }], guard := none }) rfl (fun K hK => ?_) (AllReadyH.cons (o := { dst := some 65, op := Go.Op.buildSlice 49 1 #[(0, Go.Operand.tmp 64)], type := 49, pos := "ref.go:52", after := #[{ on := 5, ground := Go.Ground.data }], guard := none }) rfl (fun K hK => ?_) (AllReadyH.nil))
                · skip
                  refine op_append_i i64_t (.tmp 59) (.tmp 62) rfl W0.heap.size _ 0 [] rfl OW _ _ ((woI AC).take kk) rfl (Ints.front (Ints.below HI2.out hHeld) HNW.out HKW.out) (tri_le (HLW.out) kk wo).1 hHeld.size ?_
                  intro v1 w1 hown1 hg1 ho1
                  have hBN := Below.grown hHeld hg1 hHeld.size (fun q hq => (OW.lt q hq).1)
                  have OX := hown1
                  refine hK.out _ _ ?_ (fun hHeld => ?_)
                  · exact hBN
                  clear hK K
                  try simp only [Act.put, List.setIfInBounds_toArray, List.set_cons_zero, List.set_cons_succ]
                  refine wpAnyH_ready (rs := [6]) (by kernel_rfl) (by simp) ?_
                  refine AllReadyH.cons (o := { dst := some 65, op := Go.Op.buildSlice 49 1 #[(0, Go.Operand.tmp 64)], type := 49, pos := "ref.go:52", after := #[{ on := 5, ground := Go.Ground.data }], guard := none }) rfl (fun K hK => ?_) (AllReadyH.nil)
                  have OW := own_alloc1 (x := wo) OX
                  have RX := mk1_at (e := 2) (x := wo) hHeld
                  refine wp_buildSlice _ _ _ rfl _ _ (by simp only [List.map_toArray, List.map_cons, List.map_nil]; exact mk1_i64 wo _) ?_
                  refine hK.out _ _ ?_ (fun hHeld => ?_)
                  · exact Below.alloc hHeld hHeld.size _
                  clear hK K
                  try simp only [Act.put, List.setIfInBounds_toArray, List.set_cons_zero, List.set_cons_succ]
                  refine wpAnyH_ready (rs := [7]) (by kernel_rfl) (by simp) ?_
                  refine AllReadyH.cons (o := { dst := some 66, op := Go.Op.call { callee := Go.Callee.builtin Go.Builtin.append, args := #[Go.Operand.tmp 63, Go.Operand.tmp 65], argTypes := #[49, 49] }, type := 49, pos := "ref.go:52", after := #[{ on := 4, ground := Go.Ground.data }, { on := 6, ground := Go.Ground.data }, { on := 4, ground := Go.Ground.chain }], guard := none }) rfl (fun K hK => ?_) (AllReadyH.nil)
                  refine op_append_i i64_t (.tmp 63) (.tmp 65) rfl W0.heap.size _ _ _ rfl OW _ _ [wo] rfl (ints_row RX) (tri_le (HLW.out) kk wo).2.1 hHeld.size ?_
                  intro v1 w1 hown1 hg1 ho1
                  have hBN := Below.grown hHeld hg1 hHeld.size (fun q hq => (OW.lt q hq).1)
                  have OX := hown1
                  refine hK.out _ _ ?_ (fun hHeld => ?_)
                  · exact hBN
                  clear hK K
                  try simp only [Act.put, List.setIfInBounds_toArray, List.set_cons_zero, List.set_cons_succ]
                  refine wpAnyH_ready (rs := [11]) (by kernel_rfl) (by simp) ?_
                  refine AllReadyH.cons (o := { dst := some 70, op := Go.Op.call { callee := Go.Callee.builtin Go.Builtin.append, args := #[Go.Operand.tmp 66, Go.Operand.tmp 69], argTypes := #[49, 49] }, type := 49, pos := "ref.go:52", after := #[{ on := 7, ground := Go.Ground.data }, { on := 10, ground := Go.Ground.data }, { on := 7, ground := Go.Ground.chain }], guard := none }) rfl (fun K hK => ?_) (AllReadyH.nil)
                  have OW := OX
                  refine op_append_i i64_t (.tmp 66) (.tmp 69) rfl W0.heap.size _ _ _ rfl OW _ _ ((woI AC).drop kk) rfl (Ints.rest (Ints.below HI2.out hHeld) HNW.out HKW.out) (tri_le (HLW.out) kk wo).2.2 hHeld.size ?_
                  intro v1 w1 hown1 hg1 ho1
                  have hBN := Below.grown hHeld hg1 hHeld.size (fun q hq => (OW.lt q hq).1)
                  refine hK.out _ _ ?_ (fun hHeld => ?_)
                  · exact hBN
                  clear hK K
                  try simp only [Act.put, List.setIfInBounds_toArray, List.set_cons_zero, List.set_cons_succ]
                  refine wpAnyH_take (i := 12) (oi := { dst := some 8, op := Go.Op.assign (Go.Operand.tmp 70), type := 49, pos := "ref.go:52", after := #[{ on := 11, ground := Go.Ground.data }, { on := 11, ground := Go.Ground.chain }, { on := 0, ground := Go.Ground.phase }, { on := 1, ground := Go.Ground.phase }, { on := 2, ground := Go.Ground.phase }, { on := 3, ground := Go.Ground.phase }, { on := 4, ground := Go.Ground.phase }, { on := 5, ground := Go.Ground.phase }, { on := 6, ground := Go.Ground.phase }, { on := 7, ground := Go.Ground.phase }, { on := 8, ground := Go.Ground.phase }, { on := 9, ground := Go.Ground.phase }, { on := 10, ground := Go.Ground.phase }, { on := 11, ground := Go.Ground.phase }], guard := none }) (v := ?q_0_4_6_7_11v12) rfl (by kernel_rfl) (by kernel_rfl) (by kernel_rfl) (fun _ _ _ h => h) (Or.inl ⟨by rfl, ?q_0_4_6_7_11y12⟩) (by assumption) ?q_0_4_6_7_11r12
                  case q_0_4_6_7_11y12 => (intro w hSw; (try dsimp only at hSw); go_simp; try (with_reducible rfl))
                  case q_0_4_6_7_11r12 =>
                  try simp only [Act.put, List.setIfInBounds_toArray, List.set_cons_zero, List.set_cons_succ]
                  refine wpAnyH_done (by kernel_rfl) ?_ _
                  have HT4 := Lib.hid (tri_done hown1)
                  have HB4 := Lib.hid hHeld
                  obtain ⟨A1, c1, rfl⟩ := own_form hown1
                  go_wp2_with fail
                  refine ⟨⟨i + 1, _, _, rfl, rfl, hlt, by first | rfl | exact next (by omega), by rw [HS2.out], Lib.hid ?_, Lib.hid ?_, Lib.hid (by rw [HS2.out]; exact hvb.2), Lib.hid (B1.out.trans (HB4.out.mono B1.out.size))⟩, by first | exact meas hlt (by omega) | (show nX - ((i : Int) + 1).toNat < nX - (i : Int).toNat; omega)⟩
                  · rw [HAT.out]; exact Ints.keepB HT7.out HB4.out
                  · rw [HWT.out]; exact HT4.out
                · skip
                  have OY := own_alloc1 (x := wo) OW
                  have NE := own_ne OW
                  have RX := mk1_at (e := 2) (x := wo) hHeld
                  have OW := OY
                  refine wp_buildSlice _ _ _ rfl _ _ (by simp only [List.map_toArray, List.map_cons, List.map_nil]; exact mk1_i64 wo _) ?_
                  refine hK.out _ _ ?_ (fun hHeld => ?_)
                  · exact Below.alloc hHeld hHeld.size _
                  clear hK K
                  try simp only [Act.put, List.setIfInBounds_toArray, List.set_cons_zero, List.set_cons_succ]
                  refine wpAnyH_ready (rs := [4]) (by kernel_rfl) (by simp) ?_
                  refine AllReadyH.cons (o := { dst := some 63, op := Go.Op.call { callee := Go.Callee.builtin Go.Builtin.append, args := #[Go.Operand.tmp 59, Go.Operand.tmp 62], argTypes := #[49, 49] }, type := 49, pos := "ref.go:52", after := #[{ on := 0, ground := Go.Ground.data }, { on := 3, ground := Go.Ground.data }], guard := none }) rfl (fun K hK => ?_) (AllReadyH.nil)
                  refine op_append_i i64_t (.tmp 59) (.tmp 62) rfl W0.heap.size _ 0 [] rfl OW _ _ ((woI AC).take kk) rfl (Ints.front (Ints.below HI2.out hHeld) HNW.out HKW.out) (tri_le (HLW.out) kk wo).1 hHeld.size ?_
                  intro v1 w1 hown1 hg1 ho1
                  have hBN := Below.grown hHeld hg1 hHeld.size (fun q hq => (OW.lt q hq).1)
                  have RX := row_grown RX hg1 NE
                  have OX := hown1
                  refine hK.out _ _ ?_ (fun hHeld => ?_)
                  · exact hBN
                  clear hK K
                  try simp only [Act.put, List.setIfInBounds_toArray, List.set_cons_zero, List.set_cons_succ]
                  refine wpAnyH_ready (rs := [7]) (by kernel_rfl) (by simp) ?_
                  refine AllReadyH.cons (o := { dst := some 66, op := Go.Op.call { callee := Go.Callee.builtin Go.Builtin.append, args := #[Go.Operand.tmp 63, Go.Operand.tmp 65], argTypes := #[49, 49] }, type := 49, pos := "ref.go:52", after := #[{ on := 4, ground := Go.Ground.data }, { on := 6, ground := Go.Ground.data }, { on := 4, ground := Go.Ground.chain }], guard := none }) rfl (fun K hK => ?_) (AllReadyH.nil)
                  have OW := OX
                  refine op_append_i i64_t (.tmp 63) (.tmp 65) rfl W0.heap.size _ _ _ rfl OW _ _ [wo] rfl (ints_row RX) (tri_le (HLW.out) kk wo).2.1 hHeld.size ?_
                  intro v1 w1 hown1 hg1 ho1
                  have hBN := Below.grown hHeld hg1 hHeld.size (fun q hq => (OW.lt q hq).1)
                  have OX := hown1
                  refine hK.out _ _ ?_ (fun hHeld => ?_)
                  · exact hBN
                  clear hK K
                  try simp only [Act.put, List.setIfInBounds_toArray, List.set_cons_zero, List.set_cons_succ]
                  refine wpAnyH_ready (rs := [11]) (by kernel_rfl) (by simp) ?_
                  refine AllReadyH.cons (o := { dst := some 70, op := Go.Op.call { callee := Go.Callee.builtin Go.Builtin.append, args := #[Go.Operand.tmp 66, Go.Operand.tmp 69], argTypes := #[49, 49] }, type := 49, pos := "ref.go:52", after := #[{ on := 7, ground := Go.Ground.data }, { on := 10, ground := Go.Ground.data }, { on := 7, ground := Go.Ground.chain }], guard := none }) rfl (fun K hK => ?_) (AllReadyH.nil)
                  have OW := OX
                  refine op_append_i i64_t (.tmp 66) (.tmp 69) rfl W0.heap.size _ _ _ rfl OW _ _ ((woI AC).drop kk) rfl (Ints.rest (Ints.below HI2.out hHeld) HNW.out HKW.out) (tri_le (HLW.out) kk wo).2.2 hHeld.size ?_
                  intro v1 w1 hown1 hg1 ho1
                  have hBN := Below.grown hHeld hg1 hHeld.size (fun q hq => (OW.lt q hq).1)
                  refine hK.out _ _ ?_ (fun hHeld => ?_)
                  · exact hBN
                  clear hK K
                  try simp only [Act.put, List.setIfInBounds_toArray, List.set_cons_zero, List.set_cons_succ]
                  refine wpAnyH_take (i := 12) (oi := { dst := some 8, op := Go.Op.assign (Go.Operand.tmp 70), type := 49, pos := "ref.go:52", after := #[{ on := 11, ground := Go.Ground.data }, { on := 11, ground := Go.Ground.chain }, { on := 0, ground := Go.Ground.phase }, { on := 1, ground := Go.Ground.phase }, { on := 2, ground := Go.Ground.phase }, { on := 3, ground := Go.Ground.phase }, { on := 4, ground := Go.Ground.phase }, { on := 5, ground := Go.Ground.phase }, { on := 6, ground := Go.Ground.phase }, { on := 7, ground := Go.Ground.phase }, { on := 8, ground := Go.Ground.phase }, { on := 9, ground := Go.Ground.phase }, { on := 10, ground := Go.Ground.phase }, { on := 11, ground := Go.Ground.phase }], guard := none }) (v := ?q_0_6_4_7_11v12) rfl (by kernel_rfl) (by kernel_rfl) (by kernel_rfl) (fun _ _ _ h => h) (Or.inl ⟨by rfl, ?q_0_6_4_7_11y12⟩) (by assumption) ?q_0_6_4_7_11r12
                  case q_0_6_4_7_11y12 => (intro w hSw; (try dsimp only at hSw); go_simp; try (with_reducible rfl))
                  case q_0_6_4_7_11r12 =>
                  try simp only [Act.put, List.setIfInBounds_toArray, List.set_cons_zero, List.set_cons_succ]
                  refine wpAnyH_done (by kernel_rfl) ?_ _
                  have HT4 := Lib.hid (tri_done hown1)
                  have HB4 := Lib.hid hHeld
                  obtain ⟨A1, c1, rfl⟩ := own_form hown1
                  go_wp2_with fail
                  refine ⟨⟨i + 1, _, _, rfl, rfl, hlt, by first | rfl | exact next (by omega), by rw [HS2.out], Lib.hid ?_, Lib.hid ?_, Lib.hid (by rw [HS2.out]; exact hvb.2), Lib.hid (B1.out.trans (HB4.out.mono B1.out.size))⟩, by first | exact meas hlt (by omega) | (show nX - ((i : Int) + 1).toNat < nX - (i : Int).toNat; omega)⟩
                  · rw [HAT.out]; exact Ints.keepB HT7.out HB4.out
                  · rw [HWT.out]; exact HT4.out
              · skip
                have RX := mk1_at (e := 2) (x := wo) hHeld
                refine wp_buildSlice _ _ _ rfl _ _ (by simp only [List.map_toArray, List.map_cons, List.map_nil]; exact mk1_i64 wo _) ?_
                refine hK.out _ _ ?_ (fun hHeld => ?_)
                · exact Below.alloc hHeld hHeld.size _
                clear hK K
                try simp only [Act.put, List.setIfInBounds_toArray, List.set_cons_zero, List.set_cons_succ]
                refine wpAnyH_ready (rs := [0]) (by kernel_rfl) (by simp) ?_
                refine AllReadyH.cons (o := { dst := some 59, op := Go.Op.buildSlice 49 0 #[], type := 49, pos := "ref.go:52", after := #[], guard := none }) rfl (fun K hK => ?_) (AllReadyH.nil)
                have OW := mk0_own (e := 2) hHeld
                have NE := mk0_ne RX
                have RX := row_alloc0 RX
                refine wp_buildSlice _ _ _ rfl _ _ (by simp only [List.map_toArray, List.map_nil]; exact mk0_i64 _) ?_
                refine hK.out _ _ ?_ (fun hHeld => ?_)
                · exact Below.alloc hHeld hHeld.size _
                clear hK K
                try simp only [Act.put, List.setIfInBounds_toArray, List.set_cons_zero, List.set_cons_succ]
                refine wpAnyH_ready (rs := [4]) (by kernel_rfl) (by simp) ?_
                refine AllReadyH.cons (o := { dst := some 63, op := Go.Op.call { callee := Go.Callee.builtin Go.Builtin.append, args := #[Go.Operand.tmp 59, Go.Operand.tmp 62], argTypes := #[49, 49] }, type := 49, pos := "ref.go:52", after := #[{ on := 0, ground := Go.Ground.data }, { on := 3, ground := Go.Ground.data }], guard := none }) rfl (fun K hK => ?_) (AllReadyH.nil)
                refine op_append_i i64_t (.tmp 59) (.tmp 62) rfl W0.heap.size _ 0 [] rfl OW _ _ ((woI AC).take kk) rfl (Ints.front (Ints.below HI2.out hHeld) HNW.out HKW.out) (tri_le (HLW.out) kk wo).1 hHeld.size ?_
                intro v1 w1 hown1 hg1 ho1
                have hBN := Below.grown hHeld hg1 hHeld.size (fun q hq => (OW.lt q hq).1)
                have RX := row_grown RX hg1 NE
                have OX := hown1
                refine hK.out _ _ ?_ (fun hHeld => ?_)
                · exact hBN
                clear hK K
                try simp only [Act.put, List.setIfInBounds_toArray, List.set_cons_zero, List.set_cons_succ]
                refine wpAnyH_ready (rs := [7]) (by kernel_rfl) (by simp) ?_
                refine AllReadyH.cons (o := { dst := some 66, op := Go.Op.call { callee := Go.Callee.builtin Go.Builtin.append, args := #[Go.Operand.tmp 63, Go.Operand.tmp 65], argTypes := #[49, 49] }, type := 49, pos := "ref.go:52", after := #[{ on := 4, ground := Go.Ground.data }, { on := 6, ground := Go.Ground.data }, { on := 4, ground := Go.Ground.chain }], guard := none }) rfl (fun K hK => ?_) (AllReadyH.nil)
                have OW := OX
                refine op_append_i i64_t (.tmp 63) (.tmp 65) rfl W0.heap.size _ _ _ rfl OW _ _ [wo] rfl (ints_row RX) (tri_le (HLW.out) kk wo).2.1 hHeld.size ?_
                intro v1 w1 hown1 hg1 ho1
                have hBN := Below.grown hHeld hg1 hHeld.size (fun q hq => (OW.lt q hq).1)
                have OX := hown1
                refine hK.out _ _ ?_ (fun hHeld => ?_)
                · exact hBN
                clear hK K
                try simp only [Act.put, List.setIfInBounds_toArray, List.set_cons_zero, List.set_cons_succ]
                refine wpAnyH_ready (rs := [11]) (by kernel_rfl) (by simp) ?_
                refine AllReadyH.cons (o := { dst := some 70, op := Go.Op.call { callee := Go.Callee.builtin Go.Builtin.append, args := #[Go.Operand.tmp 66, Go.Operand.tmp 69], argTypes := #[49, 49] }, type := 49, pos := "ref.go:52", after := #[{ on := 7, ground := Go.Ground.data }, { on := 10, ground := Go.Ground.data }, { on := 7, ground := Go.Ground.chain }], guard := none }) rfl (fun K hK => ?_) (AllReadyH.nil)
                have OW := OX
                refine op_append_i i64_t (.tmp 66) (.tmp 69) rfl W0.heap.size _ _ _ rfl OW _ _ ((woI AC).drop kk) rfl (Ints.rest (Ints.below HI2.out hHeld) HNW.out HKW.out) (tri_le (HLW.out) kk wo).2.2 hHeld.size ?_
                intro v1 w1 hown1 hg1 ho1
                have hBN := Below.grown hHeld hg1 hHeld.size (fun q hq => (OW.lt q hq).1)
                refine hK.out _ _ ?_ (fun hHeld => ?_)
                · exact hBN
                clear hK K
                try simp only [Act.put, List.setIfInBounds_toArray, List.set_cons_zero, List.set_cons_succ]
                refine wpAnyH_take (i := 12) (oi := { dst := some 8, op := Go.Op.assign (Go.Operand.tmp 70), type := 49, pos := "ref.go:52", after := #[{ on := 11, ground := Go.Ground.data }, { on := 11, ground := Go.Ground.chain }, { on := 0, ground := Go.Ground.phase }, { on := 1, ground := Go.Ground.phase }, { on := 2, ground := Go.Ground.phase }, { on := 3, ground := Go.Ground.phase }, { on := 4, ground := Go.Ground.phase }, { on := 5, ground := Go.Ground.phase }, { on := 6, ground := Go.Ground.phase }, { on := 7, ground := Go.Ground.phase }, { on := 8, ground := Go.Ground.phase }, { on := 9, ground := Go.Ground.phase }, { on := 10, ground := Go.Ground.phase }, { on := 11, ground := Go.Ground.phase }], guard := none }) (v := ?q_6_0_4_7_11v12) rfl (by kernel_rfl) (by kernel_rfl) (by kernel_rfl) (fun _ _ _ h => h) (Or.inl ⟨by rfl, ?q_6_0_4_7_11y12⟩) (by assumption) ?q_6_0_4_7_11r12
                case q_6_0_4_7_11y12 => (intro w hSw; (try dsimp only at hSw); go_simp; try (with_reducible rfl))
                case q_6_0_4_7_11r12 =>
                try simp only [Act.put, List.setIfInBounds_toArray, List.set_cons_zero, List.set_cons_succ]
                refine wpAnyH_done (by kernel_rfl) ?_ _
                have HT4 := Lib.hid (tri_done hown1)
                have HB4 := Lib.hid hHeld
                obtain ⟨A1, c1, rfl⟩ := own_form hown1
                go_wp2_with fail
                refine ⟨⟨i + 1, _, _, rfl, rfl, hlt, by first | rfl | exact next (by omega), by rw [HS2.out], Lib.hid ?_, Lib.hid ?_, Lib.hid (by rw [HS2.out]; exact hvb.2), Lib.hid (B1.out.trans (HB4.out.mono B1.out.size))⟩, by first | exact meas hlt (by omega) | (show nX - ((i : Int) + 1).toNat < nX - (i : Int).toNat; omega)⟩
                · rw [HAT.out]; exact Ints.keepB HT7.out HB4.out
                · rw [HWT.out]; exact HT4.out
    · as_aux_lemma =>
      have dj : decide ((i : Int) < (nX : Int)) = false := decide_eq_false (by omega)
      have hin : i = l.length := by rw [← HNX.out]; omega
      have hDe : AC = HD := by rw [HAC.out, HDL.out, hin, List.take_length, HHD.out]; rfl
      have hok : ok = true := by
        rw [HOK.out, HHD.out, handF_sum, ← List.take_length (l := l), ← hin, ← HDL.out, ← HSS.out]
        exact decide_eq_true hSo
      subst hok hDe
      have FA := hA
      have FW := hW
      have FB := hBW
      clear hin hA hW hBW
      go_wp2_with fail
      exact bodyPost_ret (v := .tuple #[.slice Aa n ca, .slice Aw n cw, .bool true]) (by simp [results, Try.results30, go_sem]) rfl ⟨_, _, rfl, fun _ => ⟨FA.out, FW.out⟩, FB.out⟩
end Go.Proofs.Ytammeedmccblcaa.Cs
