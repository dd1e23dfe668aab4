/-
  The reference's Target. Conditions: none.
-/
import Derived.Test.YtgkocmljnoambaaDoorRfMin
namespace Go.Proofs.YtgkocmljnoambaaDoor
open Go.RowKit

theorem low_keeps {m e m' e' : Nat} (h3 : e' < 3) (h : lowM m' e' = lowM m e ∧ lowE e' = lowE e) : lowM (m' / 256) (e' + 1) = lowM m e ∧ lowE (e' + 1) = lowE e := by
  rw [← h.1, ← h.2]
  unfold lowM lowE
  rw [if_neg (show ¬ 3 ≤ e' by omega), if_neg (show ¬ 3 ≤ e' by omega)]
  have h2 := low_next m' e' h3
  split
  · obtain rfl : e' = 2 := by omega
    refine ⟨?_, rfl⟩
    show m' / 256 = m' / 256 ^ 1
    rw [Nat.pow_one]
  · exact ⟨h2, rfl⟩
theorem low_bd (m e : Nat) : lowM m e ≤ m := by
  unfold lowM
  split
  · exact Nat.le_refl _
  · exact Nat.div_le_self _ _
theorem low_ge (e : Nat) : 3 ≤ lowE e := by
  unfold lowE
  split <;> omega

set_option maxRecDepth 100000 in
set_option maxHeartbeats 6400000 in
theorem refTarget_any (bs : Nat) (w : World) (hb : bs < 4294967296) :
    Calls Tryd.prog 8 #[.int .u32 (bs : Int)] w fun e w' => e = .returned (.tuple #[numV (tgtN bs), .bool (tgtB bs)]) ∧ Below w.heap.size w w' := by
  obtain ⟨n, hn⟩ : ∃ n, n = tgtN bs := ⟨_, rfl⟩
  obtain ⟨tb, htb⟩ : ∃ tb, tb = tgtB bs := ⟨_, rfl⟩
  rw [← hn, ← htb]
  obtain ⟨m, hm⟩ : ∃ m, m = bitsM bs := ⟨_, rfl⟩
  obtain ⟨e, he⟩ : ∃ e, e = bitsE bs := ⟨_, rfl⟩
  have hmb : m < 16777216 := by rw [hm]; unfold bitsM; omega
  have heb : e < 256 := by rw [he]; unfold bitsE; omega
  have hei : (bs : Int) / 16777216 = (e : Int) := by rw [he]; unfold bitsE; omega
  have hmi : (bs : Int) % 16777216 = (m : Int) := by rw [hm]; unfold bitsM; omega
  have hv := bitsV_low bs
  rw [← hm, ← he] at hv
  obtain ⟨B, hB⟩ : ∃ B, B = w.heap.size := ⟨_, rfl⟩
  have r1 := (zero_row w 23).alloc (.cells zeroA 23)
  have r2 := zero_row_at (w.alloc (.cells zeroA 23)) 23 (g := w.heap.size + 1) (by simp)
  obtain ⟨W, hW⟩ : ∃ W, (w.alloc (.cells zeroA 23)).alloc (.cells zeroA 23) = W := ⟨_, rfl⟩
  rw [hW] at r1 r2
  have bA : Below w.heap.size w W := by rw [← hW]; exact ((Below.refl _ w).alloc (Nat.le_refl _) _).alloc (by simp) _
  rw [← hB] at r1 r2 bA ⊢
  have R1 := Lib.hid r1
  have R2 := Lib.hid r2
  have HBA := Lib.hid bA
  have HW := Lib.hid hW
  have HN := Lib.hid hn
  have HTB := Lib.hid htb
  have HM := Lib.hid hm
  have HV := Lib.hid hv
  have HBB := Lib.hid hB
  clear r1 r2 bA hW hn htb hm he hv hB
  unfold numV
  have hmb' : (m : Int) < 16777216 := by omega
  have HMB := Lib.hid hmb
  clear hmb
  by_cases hbig : 8388608 ≤ m
  · have hd : decide ((8388608 : Int) ≤ (m : Int)) = true := decide_eq_true (by omega)
    have hbad : tgtB bs = false := by unfold tgtB; rw [decide_eq_false_iff_not, ← HM.out]; intro h; omega
    have hn0 : n = 0 := by rw [HN.out]; unfold tgtN; rw [hbad]; rfl
    have ht0 : tb = false := by rw [HTB.out]; exact hbad
    have HT0 := Lib.hid ht0
    have QF := Lib.hid (setRow_irow (ys := num 0) R1.out)
    have HBF := Lib.hid (below_setRow (g := B) HBA.out (Nat.le_refl _) (numA 0))
    clear hbad hbig ht0
    subst hn0
    go_enter Tryd.func8, Tryd.ntmps8
    go_upto_region 5 with fail
    change Code.wp _ _ _ _ ((w.alloc (.cells zeroA 23)).alloc (.cells zeroA 23))
    rw [HW.out, ← HBB.out]
    go_wp2_with (first
      | (refine wpList_load_irow rfl 23 (.tmp 4) rfl (g := B + 1) (t := 23) (k := .u8) (xs := num 0) rfl R2.out Tryd.underlying23 (size_num 0) ?_)
      | (refine wpList_store_irow rfl 23 (.tmp 2) (.tmp 17) rfl (g := B) (t := 23) (k := .u8) (xs := num 0) (ys := num 0) rfl rfl R1.out (size_num 0) rfl ?_))
    refine bodyPost_ret (v := .tuple #[numV 0, .bool false]) ?_ rfl ⟨by rw [HT0.out]; rfl, HBF.out⟩
    exact results_row_tmp Tryd.results8 _ _ B 23 (numA 0) (0, 0) _ _ rfl rfl QF.out Tryd.underlying23 rfl (size_numA 0)
  · have hd : decide ((8388608 : Int) ≤ (m : Int)) = false := decide_eq_false (by omega)
    have HBIG := Lib.hid hbig
    clear hbig
    go_enter Tryd.func8, Tryd.ntmps8
    go_upto_block 0 with fail
    change Code.wp _ _ _ _ ((w.alloc (.cells zeroA 23)).alloc (.cells zeroA 23))
    rw [HW.out, ← HBB.out, hmi]
    refine wp_block ?_
    go_loop [5, 6] (fun ev mv => ∃ e' m' : Nat, e' < 256 ∧ Hid (m' < 16777216) ∧ Hid (lowM m' e' = lowM m e ∧ lowE e' = lowE e) ∧ ev = .int .i64 e' ∧ mv = .int .u32 m') (fun ev _ => 3 - (intOf ev).toNat)
    case atStart => exact ⟨e, m, heb, HMB, Lib.hid ⟨rfl, rfl⟩, rfl, rfl⟩
    case round =>
      obtain ⟨e', m', he', hm', hlow, rfl, rfl⟩ := hrel
      clear hmi hei hd hmb' hb
      by_cases h3 : e' < 3
      · have HNX := Lib.hid (low_keeps h3 hlow.out)
        have hw : (m' : Int) / 256 % 4294967296 = (m' : Int) / 256 := by have := hm'.out; omega
        go_wp2_with fail
        exact ⟨⟨e' + 1, m' / 256, by omega, Lib.hid (by have := hm'.out; omega), HNX, by go_num, by go_num⟩, by simp [intOf]; omega⟩
      · have hm0 : m' = lowM m e := by rw [← hlow.out.1]; unfold lowM; rw [if_pos (by omega)]
        have he0 : e' = lowE e := by rw [← hlow.out.2]; unfold lowE; rw [if_pos (by omega)]
        obtain ⟨f, hf⟩ : ∃ f, e' = f + 3 := ⟨e' - 3, by omega⟩
        have hv2 : bitsV bs = m' * 256 ^ f := by rw [HV.out, ← hm0, ← he0, hf]; rfl
        have HV2 := Lib.hid hv2
        have hst : (31 : Int) - ((e' : Int) - 3) = 31 - (f : Int) := by omega
        have HE := Lib.hid hf
        have hf253 : f < 253 := by omega
        have HM' := Lib.hid hm'.out
        clear hm0 he0 hv2 hf hlow hm'
        obtain ⟨st, hst2⟩ : ∃ st : Int, st = 31 - (f : Int) := ⟨_, rfl⟩
        have HST := Lib.hid hst2
        have hs0 : -300 ≤ st := by omega
        have hs1 : st ≤ 31 := by omega
        rw [← hst2] at hst
        clear hst2
        go_wp2_with fail
        go_loopw [7, 6] (fun kv mv wr => ∃ k M : Nat, k ≤ 3 ∧ Hid (M = m' / 256 ^ k) ∧ kv = .int .i64 k ∧ mv = .int .u32 M ∧ Hid (lows m' f k < top) ∧ IRow wr (B + 1) 23 .u8 (num (lows m' f k)) ∧ IRow wr B 23 .u8 (num 0) ∧ Below B w wr) (fun kv _ _ => 3 - (intOf kv).toNat)
        case atStart => exact ⟨0, m', by omega, Lib.hid (by rw [Nat.pow_zero, Nat.div_one]), rfl, rfl, Lib.hid (by rw [lows_zero]; exact top_pos), by rw [lows_zero]; exact R2.out, R1.out, HBA.out⟩
        case round =>
          obtain ⟨k, M, hk, hM, rfl, rfl, hlt, q2, q1, hbel⟩ := hrel
          by_cases hk3 : k < 3
          · obtain ⟨D, hD⟩ : ∃ D, D = M % 256 := ⟨_, rfl⟩
            have hD256 : D < 256 := by rw [hD]; exact Nat.mod_lt _ (by omega)
            have hDM : m' / 256 ^ k % 256 = D := by rw [hD, hM.out]
            have hMn : M / 256 = m' / 256 ^ (k + 1) := by rw [hM.out, Nat.pow_succ, Nat.div_div_eq_div_mul]
            have hdi : (M : Int) % 256 = D := by omega
            have hMw : (M : Int) / 256 % 4294967296 = (M : Int) / 256 := by
              have h1 : M ≤ m' := by rw [hM.out]; exact Nat.div_le_self _ _
              have := HM'.out
              omega
            have HMN := Lib.hid hMn
            have HDM := Lib.hid hDM
            have Q1 := Lib.hid q1
            have Q2 := Lib.hid q2
            have HBL := Lib.hid hbel
            clear hD hDM hMn q1 q2 hbel
            by_cases hin : f + k ≤ 31
            · obtain ⟨q, hq0⟩ : ∃ q : Nat, q + (f + k) = 31 := ⟨31 - (f + k), by omega⟩
              have hnx := num_set (c := lows m' f k) (k := f + k) (d := D) (by omega) (lows_digit m' f k) hD256
              rw [show 31 - (f + k) = q by omega, ← HDM.out, ← lows_next, HDM.out] at hnx
              have HNX := Lib.hid hnx.symm
              have HLT := Lib.hid (lows_lt (m := m') (f := f) (k := k + 1) (by omega))
              have hce : wr.cell? ⟨B + 1, q, none⟩ = some (.int .u8 ((dg (lows m' f k) q : Nat) : Int)) := Q2.out.cell (num_at _ (by omega))
              have hfr : wr.frozen? ⟨B + 1, q, none⟩ = false := Q2.out.free q
              have hq : st - (k : Int) = (q : Int) := by have := HST.out; omega
              have b1 : (q : Int) < 32 := by omega
              clear hnx
              by_cases hD0 : D = 0
              · have hne : ((D : Int) != 0) = false := by rw [hD0]; rfl
                have HD0 := Lib.hid hD0
                clear hD0
                go_wp2_with fail
                exact ⟨⟨k + 1, M / 256, by omega, Lib.hid HMN.out, by go_num, by go_num, Lib.hid HLT.out, by rw [HNX.out]; exact Q2.out.set q D, Q1.out.setCell (by show B + 1 ≠ B; omega) _, HBL.out.setCell (p := ⟨B + 1, q, none⟩) (by show B ≤ B + 1; omega) _⟩, by simp [intOf]; omega⟩
              · have hne : ((D : Int) != 0) = true := by simp; omega
                have HD0 := Lib.hid hD0
                clear hD0
                go_wp2_with fail
                exact ⟨⟨k + 1, M / 256, by omega, Lib.hid HMN.out, by go_num, by go_num, Lib.hid HLT.out, by rw [HNX.out]; exact Q2.out.set q D, Q1.out.setCell (by show B + 1 ≠ B; omega) _, HBL.out.setCell (p := ⟨B + 1, q, none⟩) (by show B ≤ B + 1; omega) _⟩, by simp [intOf]; omega⟩
            · by_cases hD0 : D = 0
              · subst hD0
                have hneg : st - (k : Int) < 0 := by have := HST.out; omega
                have hln : lows m' f (k + 1) = lows m' f k := by rw [lows_next, HDM.out, Nat.zero_mul, Nat.add_zero]
                have HLN := Lib.hid hln
                clear hln
                go_wp2_with fail
                exact ⟨⟨k + 1, M / 256, by omega, Lib.hid HMN.out, by go_num, by go_num, Lib.hid (by rw [HLN.out]; exact hlt.out), by rw [HLN.out]; exact Q2.out, Q1.out, HBL.out⟩, by simp [intOf]; omega⟩
              · have hneg : st - (k : Int) < 0 := by have := HST.out; omega
                have hne : ((D : Int) != 0) = true := by simp; omega
                have hbad : tgtB bs = false := by
                  unfold tgtB
                  rw [decide_eq_false_iff_not]
                  intro h
                  apply h.2.1
                  unfold expN
                  rw [if_neg]
                  rw [HV2.out, ← lows_three HM'.out]
                  exact lows_great hk3 (by omega) (by rw [HDM.out]; exact hD0)
                have qz5 := Q1.out
                have hb5 := HBL.out
                clear hD0
                have hn0 : n = 0 := by rw [HN.out]; unfold tgtN; rw [hbad]; rfl
                have ht0 : tb = false := by rw [HTB.out]; exact hbad
                have QZ5 := Lib.hid qz5
                have QF := Lib.hid (irow_as (setRow_irow (ys := List.replicate 32 0) qz5) (show num n = _ by rw [hn0, num_zero]))
                have HBF := Lib.hid (below_setRow hb5 (Nat.le_refl _) zeroA)
                have HT0 := Lib.hid ht0
                clear qz5 hb5 hn0 ht0 hbad
                try dsimp only [Act.put]
                go_wp2_with (refine wpList_store_irow rfl 23 (.tmp 2) (.tmp 44) rfl (g := B) (t := 23) (k := .u8) (xs := num 0) (ys := List.replicate 32 0) rfl rfl QZ5.out info_32 (by rw [num_length]; rfl) ?_)
                refine bodyPost_ret (v := .tuple #[numV n, .bool false]) ?_ rfl ⟨by rw [HT0.out]; rfl, HBF.out⟩
                exact results_row_tmp Tryd.results8 _ _ B 23 (numA n) (0, 0) _ _ rfl rfl QF.out Tryd.underlying23 rfl (size_numA n)
          · obtain rfl : k = 3 := by omega
            obtain ⟨v, hv⟩ : ∃ v, v = lows m' f 3 := ⟨_, rfl⟩
            rw [← hv] at q2
            have hve : expN bs = v := by
              unfold expN
              rw [HV2.out, hv, ← lows_three HM'.out, if_pos hlt.out]
            have HVL := Lib.hid (show v < top by rw [hv]; exact hlt.out)
            have QV := Lib.hid q2
            have QZ := Lib.hid q1
            have HB2 := Lib.hid hbel
            have hmb2 : bitsM bs < 8388608 := by rw [← HM.out]; have := HBIG.out; omega
            clear hv q1 q2 hbel hlt hM
            by_cases hv0 : v = 0
            · have hbad : tgtB bs = false := by unfold tgtB; rw [decide_eq_false_iff_not, hve]; intro h; exact h.2.1 hv0
              have heq : ∀ U, (Op.equalIn 10000 23 (.agg ((num v).map (Value.int .u8)).toArray) (.agg #[.int .u8 0, .int .u8 0, .int .u8 0, .int .u8 0, .int .u8 0, .int .u8 0, .int .u8 0, .int .u8 0, .int .u8 0, .int .u8 0, .int .u8 0, .int .u8 0, .int .u8 0, .int .u8 0, .int .u8 0, .int .u8 0, .int .u8 0, .int .u8 0, .int .u8 0, .int .u8 0, .int .u8 0, .int .u8 0, .int .u8 0, .int .u8 0, .int .u8 0, .int .u8 0, .int .u8 0, .int .u8 0, .int .u8 0, .int .u8 0, .int .u8 0, .int .u8 0])).run Tryd.prog U = .ok true U := fun U => by
                have h := eq_num_at 23 Tryd.underlying23 HVL.out top_pos U
                rw [decide_eq_true hv0] at h
                have e : numV 0 = (.agg #[.int .u8 0, .int .u8 0, .int .u8 0, .int .u8 0, .int .u8 0, .int .u8 0, .int .u8 0, .int .u8 0, .int .u8 0, .int .u8 0, .int .u8 0, .int .u8 0, .int .u8 0, .int .u8 0, .int .u8 0, .int .u8 0, .int .u8 0, .int .u8 0, .int .u8 0, .int .u8 0, .int .u8 0, .int .u8 0, .int .u8 0, .int .u8 0, .int .u8 0, .int .u8 0, .int .u8 0, .int .u8 0, .int .u8 0, .int .u8 0, .int .u8 0, .int .u8 0]) := by unfold numV; rw [numA_zero]; rfl
                rw [e] at h
                exact h
              clear hv0 hve hmb2
              go_upto_region 19 with fail
              refine wp_region_held_drew (S := (fun w' => IRow w' (B + 1) 23 .u8 (num v) ∧ IRow w' B 23 .u8 (num 0) ∧ Below B w w')) (by kernel_rfl) ?_ (fun hHeld => ?_)
              · exact ⟨QV.out.drew, QZ.out.drew, below_drewN HB2.out 1⟩
              refine wpAnyH_take (i := 0) (oi := { dst := some 50, op := Go.Op.load 23 (Go.Operand.tmp 4), type := 23, pos := "ref.go:192", after := #[], guard := none }) (v := (.agg ((num v).map (Value.int .u8)).toArray)) rfl (by kernel_rfl) (by kernel_rfl) (by kernel_rfl) (fun _ _ _ h => h) (yieldsIf_load_mid (by rfl) 23 (.tmp 4) rfl (B + 1) 0 rfl ((num v).map (Value.int .u8)) _ (fun w' h => h.1.range) Tryd.underlying23 rfl (by rw [List.length_map]; exact size_num v)) (by assumption) ?_
              try simp only [Act.put, List.setIfInBounds_toArray, List.set_cons_zero, List.set_cons_succ]
              refine wpAnyH_take (i := 1) (oi := { dst := some 51, op := Go.Op.build 23 #[], type := 23, pos := "ref.go:192", after := #[], guard := none }) (v := ?av1) rfl (by kernel_rfl) (by kernel_rfl) (by kernel_rfl) (fun _ _ _ h => h) (Or.inl ⟨by rfl, ?ay1⟩) (by assumption) ?ar1
              case ay1 => (intro w hSw; (try dsimp only at hSw); go_simp; try (with_reducible rfl))
              case ar1 =>
              try simp only [Act.put, List.setIfInBounds_toArray, List.set_cons_zero, List.set_cons_succ]
              refine wpAnyH_take (i := 2) (oi := { dst := some 52, op := Go.Op.binOp Go.BinOp.eql 23 (Go.Operand.tmp 50) (Go.Operand.tmp 51) 23, type := 4, pos := "ref.go:192", after := #[{ on := 0, ground := Go.Ground.data }, { on := 1, ground := Go.Ground.data }], guard := none }) (v := ?av2) rfl (by kernel_rfl) (by kernel_rfl) (by kernel_rfl) (fun _ _ _ h => h) (Or.inl ⟨by rfl, ?ay2⟩) (by assumption) ?ar2
              case ay2 => (intro w hSw; (try dsimp only at hSw); go_simp; try (with_reducible rfl))
              case ar2 =>
              try simp only [Act.put, List.setIfInBounds_toArray, List.set_cons_zero, List.set_cons_succ]
              refine wpAnyH_take (i := 3) (oi := { dst := some 53, op := Go.Op.move (Go.Operand.tmp 52), type := 4, pos := "ref.go:192", after := #[{ on := 2, ground := Go.Ground.data }], guard := none }) (v := ?av3) rfl (by kernel_rfl) (by kernel_rfl) (by kernel_rfl) (fun _ _ _ h => h) (Or.inl ⟨by rfl, ?ay3⟩) (by assumption) ?ar3
              case ay3 => (intro w hSw; (try dsimp only at hSw); go_simp; try (with_reducible rfl))
              case ar3 =>
              try simp only [Act.put, List.setIfInBounds_toArray, List.set_cons_zero, List.set_cons_succ]
              refine wpAnyH_take (i := 4) (oi := { dst := some 54, op := Go.Op.call { callee := Go.Callee.value (Go.Operand.func 24), args := #[], argTypes := #[] }, type := 23, pos := "ref.go:192", after := #[{ on := 3, ground := Go.Ground.chain }, { on := 3, ground := Go.Ground.guard }], guard := some (3, false) }) (v := undef) rfl (by kernel_rfl) (by kernel_rfl) (by kernel_rfl) (fun _ _ _ h => h) (Or.inr ⟨by rfl, rfl⟩) (by assumption) ?_
              try simp only [Act.put, List.setIfInBounds_toArray, List.set_cons_zero, List.set_cons_succ]
              refine wpAnyH_take (i := 5) (oi := { dst := some 55, op := Go.Op.load 23 (Go.Operand.tmp 4), type := 23, pos := "ref.go:192", after := #[{ on := 3, ground := Go.Ground.guard }], guard := some (3, false) }) (v := undef) rfl (by kernel_rfl) (by kernel_rfl) (by kernel_rfl) (fun _ _ _ h => h) (Or.inr ⟨by rfl, rfl⟩) (by assumption) ?_
              try simp only [Act.put, List.setIfInBounds_toArray, List.set_cons_zero, List.set_cons_succ]
              refine wpAnyH_take (i := 6) (oi := { dst := some 56, op := Go.Op.call { callee := Go.Callee.value (Go.Operand.func 14), args := #[Go.Operand.tmp 54, Go.Operand.tmp 55], argTypes := #[23, 23] }, type := 4, pos := "ref.go:192", after := #[{ on := 4, ground := Go.Ground.data }, { on := 5, ground := Go.Ground.data }, { on := 4, ground := Go.Ground.chain }, { on := 3, ground := Go.Ground.guard }], guard := some (3, false) }) (v := undef) rfl (by kernel_rfl) (by kernel_rfl) (by kernel_rfl) (fun _ _ _ h => h) (Or.inr ⟨by rfl, rfl⟩) (by assumption) ?_
              try simp only [Act.put, List.setIfInBounds_toArray, List.set_cons_zero, List.set_cons_succ]
              refine wpAnyH_take (i := 7) (oi := { dst := some 57, op := Go.Op.pick (Go.Operand.tmp 53) (Go.Operand.const (Go.Value.bool true)) (Go.Operand.tmp 56), type := 4, pos := "ref.go:192", after := #[{ on := 3, ground := Go.Ground.data }, { on := 6, ground := Go.Ground.data }], guard := none }) (v := ?av7) rfl (by kernel_rfl) (by kernel_rfl) (by kernel_rfl) (fun _ _ _ h => h) (Or.inl ⟨by rfl, ?ay7⟩) (by assumption) ?ar7
              case ay7 => (intro w hSw; (try dsimp only at hSw); go_simp; try (with_reducible rfl))
              case ar7 =>
              try simp only [Act.put, List.setIfInBounds_toArray, List.set_cons_zero, List.set_cons_succ]
              refine wpAnyH_done (by kernel_rfl) ?_ _
              obtain ⟨qv5, qz5, hb5⟩ := hHeld
              clear qv5
              have hn0 : n = 0 := by rw [HN.out]; unfold tgtN; rw [hbad]; rfl
              have ht0 : tb = false := by rw [HTB.out]; exact hbad
              have QZ5 := Lib.hid qz5
              have QF := Lib.hid (irow_as (setRow_irow (ys := List.replicate 32 0) qz5) (show num n = _ by rw [hn0, num_zero]))
              have HBF := Lib.hid (below_setRow hb5 (Nat.le_refl _) zeroA)
              have HT0 := Lib.hid ht0
              clear qz5 hb5 hn0 ht0 hbad
              try dsimp only [Act.put]
              go_wp2_with (refine wpList_store_irow rfl 23 (.tmp 2) (.tmp 58) rfl (g := B) (t := 23) (k := .u8) (xs := num 0) (ys := List.replicate 32 0) rfl rfl QZ5.out info_32 (by rw [num_length]; rfl) ?_)
              refine bodyPost_ret (v := .tuple #[numV n, .bool false]) ?_ rfl ⟨by rw [HT0.out]; rfl, HBF.out⟩
              exact results_row_tmp Tryd.results8 _ _ B 23 (numA n) (0, 0) _ _ rfl rfl QF.out Tryd.underlying23 rfl (size_numA n)
            · have heq : ∀ U, (Op.equalIn 10000 23 (.agg ((num v).map (Value.int .u8)).toArray) (.agg #[.int .u8 0, .int .u8 0, .int .u8 0, .int .u8 0, .int .u8 0, .int .u8 0, .int .u8 0, .int .u8 0, .int .u8 0, .int .u8 0, .int .u8 0, .int .u8 0, .int .u8 0, .int .u8 0, .int .u8 0, .int .u8 0, .int .u8 0, .int .u8 0, .int .u8 0, .int .u8 0, .int .u8 0, .int .u8 0, .int .u8 0, .int .u8 0, .int .u8 0, .int .u8 0, .int .u8 0, .int .u8 0, .int .u8 0, .int .u8 0, .int .u8 0, .int .u8 0])).run Tryd.prog U = .ok false U := fun U => by
                have h := eq_num_at 23 Tryd.underlying23 HVL.out top_pos U
                rw [decide_eq_false hv0] at h
                have e : numV 0 = (.agg #[.int .u8 0, .int .u8 0, .int .u8 0, .int .u8 0, .int .u8 0, .int .u8 0, .int .u8 0, .int .u8 0, .int .u8 0, .int .u8 0, .int .u8 0, .int .u8 0, .int .u8 0, .int .u8 0, .int .u8 0, .int .u8 0, .int .u8 0, .int .u8 0, .int .u8 0, .int .u8 0, .int .u8 0, .int .u8 0, .int .u8 0, .int .u8 0, .int .u8 0, .int .u8 0, .int .u8 0, .int .u8 0, .int .u8 0, .int .u8 0, .int .u8 0, .int .u8 0]) := by unfold numV; rw [numA_zero]; rfl
                rw [e] at h
                exact h
              by_cases hlm : limitN < v
              · have hbad : tgtB bs = false := by unfold tgtB; rw [decide_eq_false_iff_not, hve]; intro h; omega
                have hcm : decide (limitN < v) = true := decide_eq_true hlm
                clear hv0 hve hmb2 hlm
                go_upto_region 19 with fail
                refine wp_region_held_drew (S := (fun w' => IRow w' (B + 1) 23 .u8 (num v) ∧ IRow w' B 23 .u8 (num 0) ∧ Below B w w')) (by kernel_rfl) ?_ (fun hHeld => ?_)
                · exact ⟨QV.out.drew, QZ.out.drew, below_drewN HB2.out 1⟩
                refine wpAnyH_take (i := 0) (oi := { dst := some 50, op := Go.Op.load 23 (Go.Operand.tmp 4), type := 23, pos := "ref.go:192", after := #[], guard := none }) (v := (.agg ((num v).map (Value.int .u8)).toArray)) rfl (by kernel_rfl) (by kernel_rfl) (by kernel_rfl) (fun _ _ _ h => h) (yieldsIf_load_mid (by rfl) 23 (.tmp 4) rfl (B + 1) 0 rfl ((num v).map (Value.int .u8)) _ (fun w' h => h.1.range) Tryd.underlying23 rfl (by rw [List.length_map]; exact size_num v)) (by assumption) ?_
                try simp only [Act.put, List.setIfInBounds_toArray, List.set_cons_zero, List.set_cons_succ]
                refine wpAnyH_take (i := 1) (oi := { dst := some 51, op := Go.Op.build 23 #[], type := 23, pos := "ref.go:192", after := #[], guard := none }) (v := ?bv1) rfl (by kernel_rfl) (by kernel_rfl) (by kernel_rfl) (fun _ _ _ h => h) (Or.inl ⟨by rfl, ?by1⟩) (by assumption) ?br1
                case by1 => (intro w hSw; (try dsimp only at hSw); go_simp; try (with_reducible rfl))
                case br1 =>
                try simp only [Act.put, List.setIfInBounds_toArray, List.set_cons_zero, List.set_cons_succ]
                refine wpAnyH_take (i := 2) (oi := { dst := some 52, op := Go.Op.binOp Go.BinOp.eql 23 (Go.Operand.tmp 50) (Go.Operand.tmp 51) 23, type := 4, pos := "ref.go:192", after := #[{ on := 0, ground := Go.Ground.data }, { on := 1, ground := Go.Ground.data }], guard := none }) (v := ?bv2) rfl (by kernel_rfl) (by kernel_rfl) (by kernel_rfl) (fun _ _ _ h => h) (Or.inl ⟨by rfl, ?by2⟩) (by assumption) ?br2
                case by2 => (intro w hSw; (try dsimp only at hSw); go_simp; try (with_reducible rfl))
                case br2 =>
                try simp only [Act.put, List.setIfInBounds_toArray, List.set_cons_zero, List.set_cons_succ]
                refine wpAnyH_take (i := 3) (oi := { dst := some 53, op := Go.Op.move (Go.Operand.tmp 52), type := 4, pos := "ref.go:192", after := #[{ on := 2, ground := Go.Ground.data }], guard := none }) (v := ?bv3) rfl (by kernel_rfl) (by kernel_rfl) (by kernel_rfl) (fun _ _ _ h => h) (Or.inl ⟨by rfl, ?by3⟩) (by assumption) ?br3
                case by3 => (intro w hSw; (try dsimp only at hSw); go_simp; try (with_reducible rfl))
                case br3 =>
                try simp only [Act.put, List.setIfInBounds_toArray, List.set_cons_zero, List.set_cons_succ]
                refine wpAnyH_take (i := 5) (oi := { dst := some 55, op := Go.Op.load 23 (Go.Operand.tmp 4), type := 23, pos := "ref.go:192", after := #[{ on := 3, ground := Go.Ground.guard }], guard := some (3, false) }) (v := (.agg ((num v).map (Value.int .u8)).toArray)) rfl (by kernel_rfl) (by kernel_rfl) (by kernel_rfl) (fun _ _ _ h => h) (yieldsIf_load_mid (by rfl) 23 (.tmp 4) rfl (B + 1) 0 rfl ((num v).map (Value.int .u8)) _ (fun w' h => h.1.range) Tryd.underlying23 rfl (by rw [List.length_map]; exact size_num v)) (by assumption) ?_
                try simp only [Act.put, List.setIfInBounds_toArray, List.set_cons_zero, List.set_cons_succ]
                refine wpAnyH_ready (rs := [4]) (by kernel_rfl) (by simp) ?_
                refine AllReadyH.cons (o := { dst := some 54, op := Go.Op.call { callee := Go.Callee.value (Go.Operand.func 24), args := #[], argTypes := #[] }, type := 23, pos := "ref.go:192", after := #[{ on := 3, ground := Go.Ground.chain }, { on := 3, ground := Go.Ground.guard }], guard := some (3, false) }) rfl (fun K hK => ?_) (AllReadyH.nil)
                go_simp
                refine (refLimit_any _).mono ?_
                rintro e w4 ⟨rfl, hb4⟩
                go_simp
                refine hK.out _ _ ?_ (fun hHeld => ?_)
                · exact ⟨hHeld.1.below hb4 hHeld.1.lt, hHeld.2.1.below hb4 hHeld.2.1.lt, hHeld.2.2.trans (hb4.mono (by rw [HBB.out]; exact hHeld.2.2.size))⟩
                clear hK K
                try simp only [Act.put, List.setIfInBounds_toArray, List.set_cons_zero, List.set_cons_succ]
                refine wpAnyH_ready (rs := [6]) (by kernel_rfl) (by simp) ?_
                refine AllReadyH.cons (o := { dst := some 56, op := Go.Op.call { callee := Go.Callee.value (Go.Operand.func 14), args := #[Go.Operand.tmp 54, Go.Operand.tmp 55], argTypes := #[23, 23] }, type := 4, pos := "ref.go:192", after := #[{ on := 4, ground := Go.Ground.data }, { on := 5, ground := Go.Ground.data }, { on := 4, ground := Go.Ground.chain }, { on := 3, ground := Go.Ground.guard }], guard := some (3, false) }) rfl (fun K hK => ?_) (AllReadyH.nil)
                go_simp
                refine (less_any limitN v _ limit_lt HVL.out).mono ?_
                rintro e w4 ⟨rfl, hb4⟩
                go_simp
                refine hK.out _ _ ?_ (fun hHeld => ?_)
                · exact ⟨hHeld.1.below hb4 hHeld.1.lt, hHeld.2.1.below hb4 hHeld.2.1.lt, hHeld.2.2.trans (hb4.mono (by rw [HBB.out]; exact hHeld.2.2.size))⟩
                clear hK K
                try simp only [Act.put, List.setIfInBounds_toArray, List.set_cons_zero, List.set_cons_succ]
                refine wpAnyH_take (i := 7) (oi := { dst := some 57, op := Go.Op.pick (Go.Operand.tmp 53) (Go.Operand.const (Go.Value.bool true)) (Go.Operand.tmp 56), type := 4, pos := "ref.go:192", after := #[{ on := 3, ground := Go.Ground.data }, { on := 6, ground := Go.Ground.data }], guard := none }) (v := ?b_4_6v7) rfl (by kernel_rfl) (by kernel_rfl) (by kernel_rfl) (fun _ _ _ h => h) (Or.inl ⟨by rfl, ?b_4_6y7⟩) (by assumption) ?b_4_6r7
                case b_4_6y7 => (intro w hSw; (try dsimp only at hSw); go_simp; try (with_reducible rfl))
                case b_4_6r7 =>
                try simp only [Act.put, List.setIfInBounds_toArray, List.set_cons_zero, List.set_cons_succ]
                refine wpAnyH_done (by kernel_rfl) ?_ _
                obtain ⟨qv5, qz5, hb5⟩ := hHeld
                clear qv5
                have hn0 : n = 0 := by rw [HN.out]; unfold tgtN; rw [hbad]; rfl
                have ht0 : tb = false := by rw [HTB.out]; exact hbad
                have QZ5 := Lib.hid qz5
                have QF := Lib.hid (irow_as (setRow_irow (ys := List.replicate 32 0) qz5) (show num n = _ by rw [hn0, num_zero]))
                have HBF := Lib.hid (below_setRow hb5 (Nat.le_refl _) zeroA)
                have HT0 := Lib.hid ht0
                clear qz5 hb5 hn0 ht0 hbad
                try dsimp only [Act.put]
                go_wp2_with (refine wpList_store_irow rfl 23 (.tmp 2) (.tmp 58) rfl (g := B) (t := 23) (k := .u8) (xs := num 0) (ys := List.replicate 32 0) rfl rfl QZ5.out info_32 (by rw [num_length]; rfl) ?_)
                refine bodyPost_ret (v := .tuple #[numV n, .bool false]) ?_ rfl ⟨by rw [HT0.out]; rfl, HBF.out⟩
                exact results_row_tmp Tryd.results8 _ _ B 23 (numA n) (0, 0) _ _ rfl rfl QF.out Tryd.underlying23 rfl (size_numA n)
              · have hgood : tgtB bs = true := by unfold tgtB; rw [decide_eq_true_eq, hve]; exact ⟨hmb2, hv0, by omega⟩
                have hcm : decide (limitN < v) = false := decide_eq_false hlm
                have hn0 : n = v := by rw [HN.out]; unfold tgtN; rw [hgood]; exact hve
                have ht0 : tb = true := by rw [HTB.out]; exact hgood
                have HN0 := Lib.hid hn0
                have HT0 := Lib.hid ht0
                clear hv0 hve hmb2 hlm hgood hn0 ht0
                go_upto_region 19 with fail
                refine wp_region_held_drew (S := (fun w' => IRow w' (B + 1) 23 .u8 (num v) ∧ IRow w' B 23 .u8 (num 0) ∧ Below B w w')) (by kernel_rfl) ?_ (fun hHeld => ?_)
                · exact ⟨QV.out.drew, QZ.out.drew, below_drewN HB2.out 1⟩
                refine wpAnyH_take (i := 0) (oi := { dst := some 50, op := Go.Op.load 23 (Go.Operand.tmp 4), type := 23, pos := "ref.go:192", after := #[], guard := none }) (v := (.agg ((num v).map (Value.int .u8)).toArray)) rfl (by kernel_rfl) (by kernel_rfl) (by kernel_rfl) (fun _ _ _ h => h) (yieldsIf_load_mid (by rfl) 23 (.tmp 4) rfl (B + 1) 0 rfl ((num v).map (Value.int .u8)) _ (fun w' h => h.1.range) Tryd.underlying23 rfl (by rw [List.length_map]; exact size_num v)) (by assumption) ?_
                try simp only [Act.put, List.setIfInBounds_toArray, List.set_cons_zero, List.set_cons_succ]
                refine wpAnyH_take (i := 1) (oi := { dst := some 51, op := Go.Op.build 23 #[], type := 23, pos := "ref.go:192", after := #[], guard := none }) (v := ?cv1) rfl (by kernel_rfl) (by kernel_rfl) (by kernel_rfl) (fun _ _ _ h => h) (Or.inl ⟨by rfl, ?cy1⟩) (by assumption) ?cr1
                case cy1 => (intro w hSw; (try dsimp only at hSw); go_simp; try (with_reducible rfl))
                case cr1 =>
                try simp only [Act.put, List.setIfInBounds_toArray, List.set_cons_zero, List.set_cons_succ]
                refine wpAnyH_take (i := 2) (oi := { dst := some 52, op := Go.Op.binOp Go.BinOp.eql 23 (Go.Operand.tmp 50) (Go.Operand.tmp 51) 23, type := 4, pos := "ref.go:192", after := #[{ on := 0, ground := Go.Ground.data }, { on := 1, ground := Go.Ground.data }], guard := none }) (v := ?cv2) rfl (by kernel_rfl) (by kernel_rfl) (by kernel_rfl) (fun _ _ _ h => h) (Or.inl ⟨by rfl, ?cy2⟩) (by assumption) ?cr2
                case cy2 => (intro w hSw; (try dsimp only at hSw); go_simp; try (with_reducible rfl))
                case cr2 =>
                try simp only [Act.put, List.setIfInBounds_toArray, List.set_cons_zero, List.set_cons_succ]
                refine wpAnyH_take (i := 3) (oi := { dst := some 53, op := Go.Op.move (Go.Operand.tmp 52), type := 4, pos := "ref.go:192", after := #[{ on := 2, ground := Go.Ground.data }], guard := none }) (v := ?cv3) rfl (by kernel_rfl) (by kernel_rfl) (by kernel_rfl) (fun _ _ _ h => h) (Or.inl ⟨by rfl, ?cy3⟩) (by assumption) ?cr3
                case cy3 => (intro w hSw; (try dsimp only at hSw); go_simp; try (with_reducible rfl))
                case cr3 =>
                try simp only [Act.put, List.setIfInBounds_toArray, List.set_cons_zero, List.set_cons_succ]
                refine wpAnyH_take (i := 5) (oi := { dst := some 55, op := Go.Op.load 23 (Go.Operand.tmp 4), type := 23, pos := "ref.go:192", after := #[{ on := 3, ground := Go.Ground.guard }], guard := some (3, false) }) (v := (.agg ((num v).map (Value.int .u8)).toArray)) rfl (by kernel_rfl) (by kernel_rfl) (by kernel_rfl) (fun _ _ _ h => h) (yieldsIf_load_mid (by rfl) 23 (.tmp 4) rfl (B + 1) 0 rfl ((num v).map (Value.int .u8)) _ (fun w' h => h.1.range) Tryd.underlying23 rfl (by rw [List.length_map]; exact size_num v)) (by assumption) ?_
                try simp only [Act.put, List.setIfInBounds_toArray, List.set_cons_zero, List.set_cons_succ]
                refine wpAnyH_ready (rs := [4]) (by kernel_rfl) (by simp) ?_
                refine AllReadyH.cons (o := { dst := some 54, op := Go.Op.call { callee := Go.Callee.value (Go.Operand.func 24), args := #[], argTypes := #[] }, type := 23, pos := "ref.go:192", after := #[{ on := 3, ground := Go.Ground.chain }, { on := 3, ground := Go.Ground.guard }], guard := some (3, false) }) rfl (fun K hK => ?_) (AllReadyH.nil)
                go_simp
                refine (refLimit_any _).mono ?_
                rintro e w4 ⟨rfl, hb4⟩
                go_simp
                refine hK.out _ _ ?_ (fun hHeld => ?_)
                · exact ⟨hHeld.1.below hb4 hHeld.1.lt, hHeld.2.1.below hb4 hHeld.2.1.lt, hHeld.2.2.trans (hb4.mono (by rw [HBB.out]; exact hHeld.2.2.size))⟩
                clear hK K
                try simp only [Act.put, List.setIfInBounds_toArray, List.set_cons_zero, List.set_cons_succ]
                refine wpAnyH_ready (rs := [6]) (by kernel_rfl) (by simp) ?_
                refine AllReadyH.cons (o := { dst := some 56, op := Go.Op.call { callee := Go.Callee.value (Go.Operand.func 14), args := #[Go.Operand.tmp 54, Go.Operand.tmp 55], argTypes := #[23, 23] }, type := 4, pos := "ref.go:192", after := #[{ on := 4, ground := Go.Ground.data }, { on := 5, ground := Go.Ground.data }, { on := 4, ground := Go.Ground.chain }, { on := 3, ground := Go.Ground.guard }], guard := some (3, false) }) rfl (fun K hK => ?_) (AllReadyH.nil)
                go_simp
                refine (less_any limitN v _ limit_lt HVL.out).mono ?_
                rintro e w4 ⟨rfl, hb4⟩
                go_simp
                refine hK.out _ _ ?_ (fun hHeld => ?_)
                · exact ⟨hHeld.1.below hb4 hHeld.1.lt, hHeld.2.1.below hb4 hHeld.2.1.lt, hHeld.2.2.trans (hb4.mono (by rw [HBB.out]; exact hHeld.2.2.size))⟩
                clear hK K
                try simp only [Act.put, List.setIfInBounds_toArray, List.set_cons_zero, List.set_cons_succ]
                refine wpAnyH_take (i := 7) (oi := { dst := some 57, op := Go.Op.pick (Go.Operand.tmp 53) (Go.Operand.const (Go.Value.bool true)) (Go.Operand.tmp 56), type := 4, pos := "ref.go:192", after := #[{ on := 3, ground := Go.Ground.data }, { on := 6, ground := Go.Ground.data }], guard := none }) (v := ?c_4_6v7) rfl (by kernel_rfl) (by kernel_rfl) (by kernel_rfl) (fun _ _ _ h => h) (Or.inl ⟨by rfl, ?c_4_6y7⟩) (by assumption) ?c_4_6r7
                case c_4_6y7 => (intro w hSw; (try dsimp only at hSw); go_simp; try (with_reducible rfl))
                case c_4_6r7 =>
                try simp only [Act.put, List.setIfInBounds_toArray, List.set_cons_zero, List.set_cons_succ]
                refine wpAnyH_done (by kernel_rfl) ?_ _
                obtain ⟨qv5, qz5, hb5⟩ := hHeld
                have QV5 := Lib.hid qv5
                have QZ5 := Lib.hid qz5
                have QF := Lib.hid (setRow_irow (ys := num v) qz5)
                have HBF := Lib.hid (below_setRow hb5 (Nat.le_refl _) (numA v))
                clear qv5 qz5 hb5
                try dsimp only [Act.put]
                go_wp2_with (first
                  | (refine wpList_load_irow rfl 23 (.tmp 4) rfl (g := B + 1) (t := 23) (k := .u8) (xs := num v) rfl QV5.out Tryd.underlying23 (size_num v) ?_)
                  | (refine wpList_store_irow rfl 23 (.tmp 2) (.tmp 59) rfl (g := B) (t := 23) (k := .u8) (xs := num 0) (ys := num v) rfl rfl QZ5.out (size_num v) (same_length _ _) ?_))
                refine bodyPost_ret (v := .tuple #[numV n, .bool true]) ?_ rfl ⟨by rw [HT0.out]; rfl, HBF.out⟩
                rw [show numV n = numV v by rw [HN0.out]]
                exact results_row_tmp Tryd.results8 _ _ B 23 (numA v) (0, 0) _ _ rfl rfl QF.out Tryd.underlying23 rfl (size_numA v)
end Go.Proofs.YtgkocmljnoambaaDoor
