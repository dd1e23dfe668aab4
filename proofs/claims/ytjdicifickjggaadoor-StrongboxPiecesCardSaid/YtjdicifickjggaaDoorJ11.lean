/-
  StrongboxPieces returns true for every input, and leaves each argument as it was. Conditions: none beyond the statement's own (the listed variables hold what the program's text lays; the card ties them).
-/
import Derived.Test.YtjdicifickjggaaDoorJ8
import Derived.Test.YtjdicifickjggaaDoorJ10
import Derived.Test.YtjdicifickjggaaDoorJ6
import Derived.Test.YtjdicifickjggaaDoorJ7
import Derived.Deep.CutBlock
import Derived.Deep.DeepCutAuto
import Derived.OpenShut
import Derived.SizedLaws
import Derived.ChangeMaps5
/-
  The law on pieces, its first loop: all is written, listed and digested. Conditions: the roots are laid.
-/
namespace Go.Proofs.YtjdicifickjggaaDoor
open Go.RowKit

theorem partAt_at {P : List (Value × List UInt8)} {i : Nat} (h : i < P.length) : partAt P i = P[i].2.take 400 := by
  unfold partAt
  rw [List.getElem?_eq_getElem h]
  rfl
theorem run_to400 (A : Option Addr) (n c : Nat) (h2 : 400 ≤ c) (W : World) :
    (Instr.slice 24 (.slice A n c) none (some (.int .i64 400)) none).run Tryd.prog W = .ok (.slice A 400 c) W := by
  obtain ⟨i0, hi, hz0, hz1, hz2⟩ := info_parts info_u8
  have he : Tryd.prog.elem 24 = 5 := by kernel_rfl
  have ht : Tryd.prog.underlying 24 = some (.slice (Tryd.prog.elem 24)) := by rw [he]; exact slice_u8
  rw [run_slice_h (ht := ht) (h0 := by omega) (h2 := by omega), he]
  have hc0 : ¬ c = 0 := by omega
  simp [sizeOf, typeInfo, hi, hz1, sliced, go_sem, hc0]

theorem wpList_load_irow_g {ops : Array Oper} {rest : List Oper} {op : Oper} {a : Act} {w : World} {Q : Exit → Act → World → Prop} (hgd : Region.wanted op (yielded ops a.tmps) = true) (ty : TypeId) (x : Operand) (ho : op.op = .load ty x)
    {g : Nat} {t : TypeId} {k : IntKind} {xs : List Int} {n : Nat} {e : TypeId} (hx : a.eval x = .pointer (some ⟨g, 0, none⟩)) (h : IRow w g t k xs) (hu : Tryd.prog.underlying ty = some (.array n e)) (hi : (Tryd.prog.info? ty).map (·.size) = some xs.length)
    (hn : wpList Tryd.prog ops Q rest (a.put op.dst (.agg (xs.map (Value.int k)).toArray)) w) : wpList Tryd.prog ops Q (op :: rest) a w :=
  wpList_step fun K hK => by
    rw [if_pos hgd]
    unfold Oper.wp execOp
    simp only [ho, hx, loadAt_irow h hu hi, Sem.run_bind, Sem.run_pure, Result.andThen_ok]
    exact hK _ _ hn
theorem PSt.byt {G B : Nat} {w wx wy : World} {v v' o o' y : Value} {a a' c c' d d' e e' ys : List UInt8} (h1 : PSt G w wx v o a c d e) (h2 : PSt G w wy v' o' a' c' d' e') (hb : Byt wx B y ys) (hB : B ≤ G) : Byt wy B y ys :=
  hb.keep fun b q hlt => (h2.bl.cell (p := ⟨b, q, none⟩) (by show b < G; omega)).trans (h1.bl.cell (p := ⟨b, q, none⟩) (by show b < G; omega)).symm
theorem own_join {w : World} {base : Nat} {v : Value} {t l p : List UInt8} (h : w.ownsRow base 5 1 v (t.length + l.length) (t.map bv ++ l.map bv)) (hp : p = t ++ l) : OwnB w base v p := by
  subst hp
  unfold OwnB
  rw [List.length_append, List.map_append]
  exact h

set_option maxRecDepth 100000 in
set_option maxHeartbeats 25600000 in
theorem pieces_law (B B2 : Nat) (x y : Value) (P : List (Value × List UInt8)) (N : List Int) (w : World) (hr : Roots w) (hx : BagR w B x P) (hB : B ≤ w.heap.size) (hy : Ints .u64 w B2 y N) (hB2 : B2 ≤ w.heap.size) (hN : ∀ n ∈ N, 0 ≤ n ∧ n < 18446744073709551616) :
    Calls Tryd.prog 3 #[x, y] w fun e w' => e = .returned (.bool true) ∧ Below w.heap.size w w' := by
  obtain ⟨i0, hi, hz0, hz1, hz2⟩ := info_parts info_u8
  have hlenP := hx.len
  obtain ⟨Ax, cx, rfl⟩ := hx.form
  obtain ⟨Ay, cy, rfl, hcy1, hcy2, hcy3, hcy4⟩ := hy
  unfold maxLen at hcy2
  obtain ⟨G, hG⟩ : ∃ G, G = w.heap.size := ⟨_, rfl⟩
  have HF := Lib.hid (PSt.first (w := w) hG)
  have HX := Lib.hid hx
  have HR := Lib.hid hr
  have HY := Lib.hid hcy4
  have HN := Lib.hid hN
  have HG := Lib.hid hG
  have hBG : B ≤ G := by omega
  have hB2G : B2 ≤ G := by omega
  have hzs := zero_sum
  have hzw : ∀ W, (zeroValue 26).run Tryd.prog W = .ok (.agg #[.slice none 0 0]) W := fun _ => by kernel_rfl
  clear hx hr hcy4 hcy3 hN
  go_enter Tryd.func3, Tryd.ntmps3
  go_upto_region 3 with fail
  change Code.wp _ _ _ _ (((w.alloc (.cells #[.slice none 0 0] 26)).alloc (.cells zIn.toArray 34)).alloc (.cells zIn.toArray 34))
  obtain ⟨w3, hw3⟩ : ∃ x, x = ((w.alloc (.cells #[.slice none 0 0] 26)).alloc (.cells zIn.toArray 34)).alloc (.cells zIn.toArray 34) := ⟨_, rfl⟩
  rw [← hw3] at HF ⊢
  rw [← hG]
  clear hw3 hG
  go_upto_block 0 with fail
  obtain ⟨m, hm⟩ : ∃ m, m = min P.length 12 := ⟨_, rfl⟩
  have HM := Lib.hid hm
  clear hm
  go_cut [8] (fun s wx => ∃ v ob, ob = s ∧ PSt G w wx v ob (catP P N m) (catP P N m) (catP P N m) (catP P N m))
  case first => as_aux_lemma =>
    go_wp2_with fail
    go_loopw [8, 9] (fun s t wr => ∃ (i : Nat) (v ob : Value), ob = s ∧ i ≤ m ∧ t = .int .i64 (i : Int) ∧ PSt G w wr v ob (catP P N i) (catP P N i) (catP P N i) (catP P N i)) (fun _ t _ => m - (intOf t).toNat)
    case atStart => exact ⟨0, _, _, rfl, Nat.zero_le _, rfl, HF.out⟩
    case round =>
      obtain ⟨i, v, ob, hob, him, rfl, hst⟩ := hrel
      subst hob
      have ST := Lib.hid hst
      have him2 := HM.out
      by_cases hlt : i < m
      · have hlt1 : i < P.length := by omega
        have hlt2 : i < 12 := by omega
        have d1 : decide (i < P.length) = true := decide_eq_true hlt1
        have d2 : decide ((i : Int) < 12) = true := decide_eq_true (by omega)
        have d3 : decide (i < 12) = true := decide_eq_true hlt2
        obtain ⟨⟨A', c', e0, _, _, h4⟩, h5⟩ := HX.out.below (hst.bl.mono hBG)
        obtain ⟨e1, _, e3⟩ := Value.slice.inj e0
        subst e1 e3
        obtain ⟨b, o, rfl, hb, hc⟩ := h4 (by rintro rfl; simp at hlt1)
        have hc0 := hc i _ (List.getElem?_eq_getElem hlt1)
        have hby := h5 _ (List.getElem_mem hlt1)
        have hpa := partAt_at hlt1
        obtain ⟨⟨pd, ys⟩, hpe⟩ : ∃ p, p = P[i] := ⟨_, rfl⟩
        rw [← hpe] at hc0 hby hpa
        dsimp only at hc0 hby hpa
        obtain ⟨Ad, cd, rfl⟩ := hby.form
        obtain ⟨hcd1, hcd2⟩ := hby.cap
        have HBY := Lib.hid hby
        have HPA := Lib.hid hpa
        clear hc h4 h5 e0 hby hpa hpe hst him2
        go_upto_if 37 with fail
        go_cut [10] (fun s wx => (∃ c, s = .slice Ad (partAt P i).length c ∧ (partAt P i).length ≤ c ∧ c ≤ 9223372036854775807) ∧ Byt wr B s (partAt P i) ∧ wx = wr)
        case first =>
          by_cases h400 : 400 < ys.length
          · have dg : decide ((400 : Int) < (ys.length : Int)) = true := decide_eq_true (by omega)
            have hl4 : (ys.take 400).length = 400 := by rw [List.length_take]; omega
            have hsl := run_to400 Ad ys.length cd (by omega)
            have HBT := Lib.hid (HBY.out.take_ (k := 400) (by omega))
            go_wp2_with fail
            go_meet
            rw [HPA.out]
            exact ⟨⟨cd, by rw [hl4], by omega, hcd2⟩, HBT.out, rfl⟩
          · have dg : decide ((400 : Int) < (ys.length : Int)) = false := decide_eq_false (by omega)
            go_wp2_with fail
            go_meet
            rw [HPA.out, List.take_of_length_le (by omega)]
            exact ⟨⟨cd, rfl, hcd1, hcd2⟩, HBY.out, rfl⟩
        case rest =>
          obtain ⟨⟨cb, rfl, hcb1, hcb2⟩, hbp, rfl⟩ := hcut
          have HBP := Lib.hid hbp
          clear hbp HBY HPA hcd1 hcd2 hc0
          have hwi : IntKind.u64.wrap (i : Int) = (i : Int) := by rw [IntKind.wrap_u64]; omega
          go_upto_if 44 with fail
          go_cut [11] (fun s wx => s = .int .u64 (numAt N i) ∧ wx = wc)
          case first =>
            by_cases hn0 : N.length = 0
            · have dn : decide ((0 : Int) < (N.length : Int)) = false := decide_eq_false (by omega)
              have dn' : decide (0 < N.length) = false := decide_eq_false (by omega)
              have hna : numAt N i = (i : Int) := by unfold numAt; rw [if_pos hn0]
              have HNA := Lib.hid hna
              have hn1 : ¬ 0 < N.length := by omega
              clear hna hn0
              go_wp2_with fail
              go_meet
              exact ⟨by rw [HNA.out], rfl⟩
            · have dn : decide ((0 : Int) < (N.length : Int)) = true := decide_eq_true (by omega)
              have dn' : decide (0 < N.length) = true := decide_eq_true (by omega)
              have hna : numAt N i = N.getD (i % N.length) 0 := by unfold numAt; rw [if_neg hn0]
              obtain ⟨k, hk⟩ : ∃ k, k = i % N.length := ⟨_, rfl⟩
              have hkl : k < N.length := by rw [hk]; exact Nat.mod_lt _ (by omega)
              have ek : (i : Int) % (N.length : Int) = (k : Int) := by rw [hk]; rfl
              have hne : N ≠ [] := by rintro rfl; simp at hn0
              obtain ⟨bb, oo, hAy, hbb, hcc⟩ := HY.out hne
              have hcz := hcc k _ (List.getElem?_eq_getElem hkl)
              have hcz2 : wc.cell? ⟨bb, oo + k, none⟩ = some (.int .u64 N[k]) := (ST.out.bl.cell (p := ⟨bb, oo + k, none⟩) (by show bb < _; omega)).trans hcz
              have hna2 : numAt N i = N[k] := by rw [hna, ← hk, List.getD, List.getElem?_eq_getElem hkl]; rfl
              obtain ⟨z, hz⟩ : ∃ z, z = N[k] := ⟨_, rfl⟩
              rw [← hz] at hcz2 hna2
              have HNA := Lib.hid hna2
              have dk : (k : Int) < (N.length : Int) := by omega
              have dnz : ¬ (N.length : Int) = 0 := by omega
              subst hAy
              clear hk hna hna2 hz hcc hcz
              go_wp2_with fail
              go_meet
              exact ⟨by rw [HNA.out], rfl⟩
          case rest =>
            obtain ⟨rfl, rfl⟩ := hcut
            obtain ⟨hn1, hn2⟩ := numAt_bd HN.out hlt2
            obtain ⟨q, hq⟩ : ∃ q, q = numAt N i := ⟨_, rfl⟩
            obtain ⟨bp, hbp⟩ : ∃ bp, bp = partAt P i := ⟨_, rfl⟩
            have hpl := partAt_le (P := P) i
            have hpc : pc P N i = sizeB bp.length ++ bp ++ low q 8 := by rw [hbp, hq]; rfl
            rw [← hbp] at HBP hcb1 hpl ⊢
            rw [← hq] at hn1 hn2 ⊢
            have hcl := catP_le (P := P) (N := N) i
            have HPC := Lib.hid hpc
            have hcs : catP P N (i + 1) = catP P N i ++ pc P N i := rfl
            have HCS := Lib.hid hcs
            obtain ⟨X, hX⟩ : ∃ X, X = catP P N i := ⟨_, rfl⟩
            rw [← hX] at ST HCS hcl
            have hXl : X.length ≤ 5000 := by omega
            have hz9 := sizeB_le bp.length
            have HZ9 := Lib.hid hz9
            clear hq hbp hpc hcs hX hcl hz9
            go_wp2_with fail
            refine (bytes_any G (G + 3) B v _ X bp wc ST.out.wr HBP.out (by omega) (by omega) ST.out.sz (by have := ST.out.sz; omega) hBG (fun k hk => by have := (World.ownsRow.lt ST.out.wr.2 k hk).1; omega)).mono ?_
            rintro e w4 ⟨rfl, hs4⟩
            obtain ⟨v4, hst4⟩ := ST.out.write hs4
            have ST4 := Lib.hid hst4
            clear hs4 hst4
            go_wp2_with fail
            refine (u64_any G (G + 3) v4 q _ w4 hn1 hn2 ST4.out.wr (by have := HZ9.out; simp; omega) ST4.out.sz).mono ?_
            rintro e w5 ⟨rfl, hs5⟩
            obtain ⟨v5, hst5⟩ := ST4.out.write hs5
            rw [List.append_assoc, ← HPC.out] at hst5
            have HB5 := Lib.hid (ST.out.byt hst5 HBP.out hBG)
            have ST5 := Lib.hid hst5
            have hB5 : B ≤ w5.heap.size := by have := hst5.sz; omega
            clear hs5 hst5 ST4 ST
            go_wp2_with fail
            refine (rtext_any B _ bp w5 HB5.out hB5 (by omega)).mono ?_
            rintro e w6 ⟨A6, c6, rfl, hown6, hb6⟩
            obtain ⟨tx, htx⟩ : ∃ tx, tx = sizeB bp.length ++ bp := ⟨_, rfl⟩
            have HTL := Lib.hid (show tx.length ≤ 409 by have := HZ9.out; rw [htx]; simp; omega)
            have HTX := Lib.hid htx
            rw [← htx] at hown6 ⊢
            clear htx
            have O6 := Lib.hid hown6
            have B6 := Lib.hid hb6
            clear hown6 hb6
            go_wp2_with fail
            refine (low_num q 8 8 rfl w6 hn1 hn2 (by omega)).mono ?_
            rintro e w7 ⟨A7, c7, rfl, hown7, hb7⟩
            have O7 := Lib.hid (Byt.of_own hown7)
            have B7 := Lib.hid (B6.out.trans (hb7.mono B6.out.size))
            have O67 := Lib.hid (own_turns O6.out (Turns.of_below (S := fun _ => False) hb7) (fun _ _ h => h))
            have hsz7 : w5.heap.size ≤ w7.heap.size := Nat.le_trans B6.out.size hb7.size
            have hl8 : (low q 8).length = 8 := low_length _ _
            have HL8 := Lib.hid hl8
            have HPC2 := Lib.hid (show pc P N i = tx ++ low q 8 by rw [HTX.out]; exact HPC.out)
            clear hown7 hb7 O6 hl8
            obtain ⟨lw, hlw⟩ : ∃ lw, lw = low q 8 := ⟨_, rfl⟩
            rw [← hlw] at O7 HL8 HPC2 ⊢
            clear hlw
            go_upto_region 16 with (at_builtin; refine wpList_append_bytes rfl (.tmp 57) (.tmp 59) 24 rfl w5.heap.size 5 i0 slice_u8 hi hz0 hz1 hz2 _ tx.length (tx.map bv) rfl O67.out _ _ lw rfl O7.out (by have := HTL.out; have := HL8.out; omega) hsz7 ?_; intro v8 w8 hown8 hg8 hat8; have B8 := Lib.hid (B7.out.grown hg8 hsz7 (fun k hk => (World.ownsRow.lt O67.out k hk).1)); have ST8 := Lib.hid (ST5.out.below B8.out); have O8 := Lib.hid (own_join hown8 HPC2.out); have F8 := Lib.hid (own_form O8.out); clear hown8 hg8 hat8)
            obtain ⟨A8, c8, rfl⟩ := F8.out
            obtain ⟨pcs, hpcs⟩ : ∃ p, p = pc P N i := ⟨_, rfl⟩
            have hpcl : pcs.length ≤ 417 := by rw [hpcs]; exact pc_le i
            rw [← hpcs] at O8 ST8 HCS ⊢
            have HPL := Lib.hid hpcl
            have hb85 : w5.heap.size ≤ w8.heap.size := B8.out.size
            have HOO := Lib.hid (show ∀ k, (Value.slice A8 pcs.length c8).ownBlock = some k → G + 3 ≤ k ∧ ob.ownBlock ≠ some k from fun k hk => by
              have h1 := (World.ownsRow.lt O8.out k hk).1
              have h2 := ST5.out.sz
              refine ⟨by omega, fun h => ?_⟩
              have := (World.ownsRow.lt ST5.out.al k h).2
              omega)
            have B58 := Lib.hid (Byt.of_own O8.out)
            clear hpcs hpcl O67 O7 HTL HL8 HPC HPC2 HTX B6 B7 F8 HB5 B8
            go_upto_region 17 with (at_builtin; refine wpList_append_bytes rfl (.tmp 61) (.tmp 62) 24 rfl (G + 3) 5 i0 slice_u8 hi hz0 hz1 hz2 _ X.length (X.map bv) rfl ST8.out.al _ _ pcs rfl B58.out (by have := HPL.out; omega) ST8.out.sz ?_; intro o9 w9 hown9 hg9 hat9; have ST9 := Lib.hid (ST8.out.all hown9 hg9 hat9); have O9 := Lib.hid (own_turns O8.out ((Turns.refl (fun k => ob.ownBlock = some k) w8).grown hg9 (fun k hk _ => hk)) (fun k hk e => (HOO.out k hk).2 e)); clear hown9 hg9 hat9)
            have SA := Lib.hid (sumAdd_any (G + 1) 34 X pcs (.slice A8 pcs.length c8) w9 ST9.out.s1 (src_own O9.out (by have := ST5.out.sz; omega)) (by have := HPL.out; omega) (ST9.out.roots HG.out HR.out) (HR.out.off (by have := HG.out; omega)))
            rw [← HCS.out] at ST9
            clear O8 ST8 B58
            go_wp2_with fail
            refine SA.out.mono ?_
            rintro e w10 ⟨rfl, hs10, ht10⟩
            have hst10 := ST9.out.sum1 hs10 ht10
            rw [← HCS.out] at hst10
            have ST10 := Lib.hid hst10
            have O10 := Lib.hid (own_turns O9.out ht10 (fun k hk e => by have e : k = G + 1 := e; have := (HOO.out k hk).1; omega))
            have hpl2 := HPL.out
            clear hs10 ht10 hst10 SA ST9 O9 HOO
            go_wp2_with fail
            go_loopw [68] (fun s wx => ∃ j : Nat, j ≤ pcs.length ∧ s = .int .i64 (j : Int) ∧ Hid (PSt G w wx v5 o9 (catP P N (i + 1)) (catP P N (i + 1)) (catP P N (i + 1)) (X ++ pcs.take j)) ∧ Hid (OwnB wx w5.heap.size (.slice A8 pcs.length c8) pcs)) (fun s _ => pcs.length - (intOf s).toNat)
            case atStart => exact ⟨0, Nat.zero_le _, rfl, Lib.hid (by rw [List.take_zero, List.append_nil]; exact ST10.out), O10⟩
            case round =>
              obtain ⟨j, hj, rfl, hstj, hownj⟩ := hrel
              by_cases hjl : j < pcs.length
              · obtain ⟨gp, cp, e, g1, g2, g3⟩ := hownj.out.block (by omega)
                obtain ⟨e1, _, e3⟩ := Value.slice.inj e
                subst e1 e3
                have hcd := hownj.out.cell (List.getElem?_eq_getElem hjl)
                obtain ⟨z, hz⟩ : ∃ z, z = pcs[j] := ⟨_, rfl⟩
                have hsn : pcs.take (j + 1) = pcs.take j ++ [z] := by rw [List.take_succ_eq_append_getElem hjl, hz]
                rw [← hz] at hcd
                have hcd2 : wr.cell? ⟨gp, j, none⟩ = some (.int .u8 (z.toNat : Int)) := hcd
                have hba : Below wr.heap.size wr (wr.alloc (.cells #[.int .u8 (z.toNat : Int)] 5)) := (Below.refl _ wr).alloc (Nat.le_refl _) _
                have STA := Lib.hid (hstj.out.below hba)
                have OA := Lib.hid (own_turns hownj.out (Turns.of_below (S := fun _ => False) hba) (fun _ _ h => h))
                have SB := Lib.hid (sumAdd_any (G + 2) 34 (X ++ pcs.take j) [z] _ _ STA.out.s2 (src_one wr z (g := G + 2) (by have := hstj.out.sz; omega)) (by simp; omega) (STA.out.roots HG.out HR.out) (HR.out.off (by have := HG.out; omega)))
                have HSN := Lib.hid hsn
                have hdj : decide (j < pcs.length) = true := decide_eq_true hjl
                have hg5 := Lib.hid g1
                have hs5 := Lib.hid ST5.out.sz
                clear hcd hz hsn e g1 g2 hba
                go_wp2_with fail
                refine SB.out.mono ?_
                rintro e w12 ⟨rfl, hs12, ht12⟩
                have hst12 := STA.out.sum2 hs12 ht12
                rw [List.append_assoc, ← HSN.out] at hst12
                have ST12 := Lib.hid hst12
                have O12 := Lib.hid (own_turns OA.out ht12 (fun k hk e => absurd ((show gp = k by simpa [Value.ownBlock] using hk).trans e) (by have := hg5.out; have := hs5.out; omega)))
                clear hs12 ht12 hst12
                go_wp2_with fail
                go_roundw
                case rel => exact ⟨j + 1, by omega, by go_num, ST12, O12⟩
                case measure => simp [intOf]; omega
              · obtain rfl : j = pcs.length := by omega
                have hst13 := hstj.out
                rw [List.take_length, ← HCS.out] at hst13
                have ST13 := Lib.hid hst13
                clear hst13
                go_wp2_with fail
                go_roundw
                case rel => exact ⟨i + 1, _, _, rfl, by omega, by go_num, ST13.out⟩
                case measure => simp [intOf]; omega
      · obtain rfl : i = m := by omega
        have d0 : (decide (i < P.length) = false) ∨ (decide (i < P.length) = true ∧ i = 12) := by
          by_cases h : i < P.length
          · exact .inr ⟨decide_eq_true h, by omega⟩
          · exact .inl (decide_eq_false h)
        clear hst him2
        rcases d0 with d0 | ⟨d0, rfl⟩
        · go_wp2_with fail
          go_meet
          exact ⟨v, ob, rfl, ST.out⟩
        · have d0' : decide ((12 : Int) < (P.length : Int)) = true := decide_eq_true (by have := of_decide_eq_true d0; omega)
          go_wp2_with fail
          go_meet
          exact ⟨v, ob, rfl, ST.out⟩
  case rest => as_aux_lemma =>
    obtain ⟨v, ob, hob, hst⟩ := hcut
    subst hob
    have hXl : (catP P N m).length ≤ 5004 := by have := catP_le (P := P) (N := N) m; have := HM.out; omega
    obtain ⟨X, hX⟩ : ∃ X, X = catP P N m := ⟨_, rfl⟩
    rw [← hX] at hst hXl
    have HXX := Lib.hid hX
    obtain ⟨Ao, co, rfl⟩ := own_form hst.al
    have ST := Lib.hid hst
    clear hst hX HF
    go_wp2_with fail
    refine (out_any G (G + 3) v X wc ST.out.wr (by omega)).mono ?_
    rintro e w4 ⟨A4, c4, rfl, hown4, hb4⟩
    have ST4 := Lib.hid (ST.out.below hb4)
    have O4 := Lib.hid (Byt.of_own hown4)
    have CS := Lib.hid (sum256_any w4.heap.size _ X w4 O4.out (Nat.le_refl _) (by omega) (ST4.out.roots HG.out HR.out))
    clear hown4 hb4 ST
    go_wp2_with fail
    refine CS.out.mono ?_
    rintro e w5 ⟨rfl, hb5⟩
    have ST5 := Lib.hid (ST4.out.below hb5)
    clear hb5 ST4 O4 CS
    obtain ⟨D, hD⟩ : ∃ D, D = sha256 X := ⟨_, rfl⟩
    have hDl : D.length = 32 := by rw [hD]; exact sha256_length _
    rw [← hD]
    unfold digV
    have HDD := Lib.hid hD
    have HDL := Lib.hid hDl
    have hsz32 : (nums D).length = 32 := by rw [nums_length, hDl]
    have HI := Lib.hid (show (Tryd.prog.info? 41).map (·.size) = some (nums D).length by rw [hsz32]; exact info_h)
    have HL := Lib.hid (show (List.replicate 32 (0 : Int)).length = (nums D).length by rw [hsz32]; rfl)
    have RC := Lib.hid (IRow.new w5 41 .u8 (List.replicate 32 0))
    have hzh := zero_hash
    clear hD hDl hsz32
    go_upto_region 24 with (refine wpList_store_irow rfl 41 (.tmp 15) (.tmp 77) rfl (g := w5.heap.size) (t := 41) (k := .u8) (xs := List.replicate 32 0) (ys := nums D) rfl rfl RC.out HI.out HL.out ?_)
    change Code.wp _ _ _ _ ((w5.alloc (.cells ((List.replicate 32 (0 : Int)).map (Value.int .u8)).toArray 41)).setRow w5.heap.size ((nums D).map (Value.int .u8)).toArray)
    obtain ⟨w6, hw6⟩ : ∃ x, x = (w5.alloc (.cells ((List.replicate 32 (0 : Int)).map (Value.int .u8)).toArray 41)).setRow w5.heap.size ((nums D).map (Value.int .u8)).toArray := ⟨_, rfl⟩
    rw [← hw6]
    have b56 : Below w5.heap.size w5 w6 := by rw [hw6]; exact below_setRow ((Below.refl _ w5).alloc (Nat.le_refl _) _) (Nat.le_refl _) _
    obtain ⟨H, hH⟩ : ∃ H, H = w5.heap.size := ⟨_, rfl⟩
    have r6 : IRow w6 H 41 .u8 (nums D) := by rw [hw6, hH]; exact setRow_irow RC.out
    have hHG : G + 3 ≤ H := by rw [hH]; exact ST5.out.sz
    rw [← hH]
    have ST6 := Lib.hid (ST5.out.below b56)
    have R6 := Lib.hid r6
    have HHG := Lib.hid hHG
    clear hw6 b56 hH r6 RC ST5 hHG
    try dsimp only [Act.put]
    have RO := Lib.hid (ST6.out.roots HG.out HR.out)
    have BY := Lib.hid (Byt.of_own ST6.out.al)
    have C1 := Lib.hid (fun (W : World) (hW : Below w6.heap.size w6 W) => by have h := rsum256_any w6.heap.size _ X W (BY.out.below hW) hW.size (by omega); rw [← HDD.out] at h; exact h)
    have C2 := Lib.hid (fun (W : World) (hW : Below w6.heap.size w6 W) => by have h := sumHash_any (G + 1) _ X W (ST6.out.s1.below hW) (by omega) (RO.out.below hW); rw [← HDD.out] at h; exact h)
    have C3 := Lib.hid (fun (W : World) (hW : Below w6.heap.size w6 W) => by have h := sumHash_any (G + 2) _ X W (ST6.out.s2.below hW) (by omega) (RO.out.below hW); rw [← HDD.out] at h; exact h)
    have C4 := Lib.hid (fun (W : World) (hW : Below w6.heap.size w6 W) => twice_any (G + 1) _ X W (ST6.out.s1.below hW) (by omega) (RO.out.below hW))
    have C5 := Lib.hid (fun (W : World) (hW : Below w6.heap.size w6 W) => double_any w6.heap.size _ X W (BY.out.below hW) hW.size (by omega) (RO.out.below hW))
    refine st24_any Ao X.length co (G + 1) (G + 2) H D (sha256 (sha256 X)) w6 HDL.out (sha256_length _) R6.out C1.out C2.out C3.out C4.out C5.out _ _ _ _ _ _ _ _ _ _ _ _ _ _ _ _ _ _ _ _ _ _ _ _ _ _ _ _ _ _ _ _ _ _ _ _ _ _ _ _ _ _ _ _ _ _ _ _ _ _ _ _ _ _ _ _ _ _ _ _ _ _ _ _ _ _ _ _ _ _ _ _ _ _ _ _ _ _ _ _ _ _ _ _ _ _ _ _ _ _ _ _ _ _ _ _ _ _ _ _ _ _ _ _ _ _ _ _ _ _ _ _ _ _ _ _ _ _ _ _ _ _ _ _ _ _ _ _ _ _ _ _ _ _ _ _ _ _ _ _ _ _ _ (fun _ _ _ _ _ h => h) (fun _ _ _ _ _ _ _ _ _ _ _ _ _ _ _ _ _ _ _ w7 hb7 => ?_)
    have ST7 := Lib.hid (ST6.out.below hb7)
    have R7 := Lib.hid (R6.out.below hb7 R6.out.lt)
    clear hb7 C1 C2 C3 C4 C5 RO BY R6 ST6
    have CT := Lib.hid (htext_any D w7 HDL.out)
    go_wp2_with (refine wpList_load_irow rfl 41 (.tmp 15) rfl (g := H) (t := 41) (k := .u8) (xs := nums D) rfl R7.out Tryd.underlying41 HI.out ?_)
    refine CT.out.mono ?_
    rintro e w8 ⟨rfl, hb8⟩
    have ST8 := Lib.hid (ST7.out.below hb8)
    have R8 := Lib.hid (R7.out.below hb8 R7.out.lt)
    obtain ⟨S, hS⟩ : ∃ S : ByteArray, S = ⟨(textB D).toArray⟩ := ⟨_, rfl⟩
    have hST : S.data.toList = textB D := by rw [hS]
    have CF := fromText_any S w8
    rw [hST] at CF
    rw [← hS]
    have CFH := Lib.hid CF
    clear hb8 hST CF hS CT R7 ST7
    go_wp2_with fail
    refine CFH.out.mono ?_
    rintro e w9 ⟨hb9, ⟨hg, rfl⟩ | ⟨hbad, rfl⟩⟩
    rotate_left
    · exact absurd (good_text HDL.out) hbad
    rw [fromB_text]
    unfold digV
    have ST9 := Lib.hid (ST8.out.below hb9)
    have R9 := Lib.hid (R8.out.below hb9 R8.out.lt)
    have RD := Lib.hid (IRow.new w9 41 .u8 (List.replicate 32 0))
    clear hb9 hg R8 ST8
    go_upto_region 27 with (refine wpList_store_irow rfl 41 (.tmp 16) (.tmp 102) rfl (g := w9.heap.size) (t := 41) (k := .u8) (xs := List.replicate 32 0) (ys := nums D) rfl rfl RD.out HI.out HL.out ?_)
    change Code.wp _ _ _ _ ((w9.alloc (.cells ((List.replicate 32 (0 : Int)).map (Value.int .u8)).toArray 41)).setRow w9.heap.size ((nums D).map (Value.int .u8)).toArray)
    obtain ⟨w10, hw10⟩ : ∃ x, x = (w9.alloc (.cells ((List.replicate 32 (0 : Int)).map (Value.int .u8)).toArray 41)).setRow w9.heap.size ((nums D).map (Value.int .u8)).toArray := ⟨_, rfl⟩
    rw [← hw10]
    have b90 : Below w9.heap.size w9 w10 := by rw [hw10]; exact below_setRow ((Below.refl _ w9).alloc (Nat.le_refl _) _) (Nat.le_refl _) _
    obtain ⟨H2, hH2⟩ : ∃ H2, H2 = w9.heap.size := ⟨_, rfl⟩
    have r10 : IRow w10 H2 41 .u8 (nums D) := by rw [hw10, hH2]; exact setRow_irow RD.out
    rw [← hH2]
    have ST10 := Lib.hid (ST9.out.below b90)
    have R10 := Lib.hid (R9.out.below b90 R9.out.lt)
    have Q10 := Lib.hid r10
    clear hw10 b90 hH2 r10 RD ST9 R9
    try dsimp only [Act.put]
    go_wp2_with fail
    refine (out_any G (G + 3) v X w10 ST10.out.wr (by omega)).mono ?_
    rintro e w11 ⟨A11, c11, rfl, hown11, hb11⟩
    have CO := Lib.hid (open_any _ _ X w11 (Byt.of_own hown11) (by omega))
    have ST11 := Lib.hid (ST10.out.below hb11)
    have R11 := Lib.hid (R10.out.below hb11 R10.out.lt)
    have Q11 := Lib.hid (Q10.out.below hb11 Q10.out.lt)
    clear hown11 hb11 ST10 R10 Q10
    go_wp2_with fail
    refine CO.out.mono ?_
    rintro e w12 ⟨r, v12, rfl, hcu, hr12, hb12⟩
    have BL := Lib.hid (show Below G w w12 from ST11.out.bl.trans (hb12.mono (by have := ST11.out.sz; omega)))
    have R12 := Lib.hid (R11.out.below hb12 R11.out.lt)
    have Q12 := Lib.hid (Q11.out.below hb12 Q11.out.lt)
    have HRH := Lib.hid (show H < r by have := R11.out.lt; omega)
    have HRQ := Lib.hid (show H2 < r by have := Q11.out.lt; omega)
    have HGR := Lib.hid (show G + 3 ≤ r by have := ST11.out.sz; omega)
    have CU := Lib.hid hcu
    have hrlt := hcu.lt
    have HRL := Lib.hid hrlt
    clear hcu hr12 hb12 CO ST11 R11 Q11 hrlt
    go_upto_block 4 with fail
    go_cut [] (fun wx => ∃ v', Cu wx r r v' 0 [] ∧ Turns (fun k => k = r ∨ w12.heap.size ≤ k) w12 wx)
    case first => as_aux_lemma =>
      go_wp2_with fail
      go_loopw [19] (fun s wr => ∃ (i : Nat) (ys : List UInt8) (v' : Value), i ≤ m ∧ s = .int .i64 (i : Int) ∧ X = catP P N i ++ ys ∧ Cu wr r r v' 0 ys ∧ Turns (fun k => k = r ∨ w12.heap.size ≤ k) w12 wr) (fun s _ => m - (intOf s).toNat)
      case atStart => exact ⟨0, X, v12, Nat.zero_le _, rfl, rfl, CU.out, Turns.refl _ _⟩
      case round =>
        obtain ⟨i, ys, v', him, rfl, hxy, hcu, ht⟩ := hrel
        have him2 := HM.out
        rw [HXX.out] at hxy
        by_cases hlt : i < m
        · have hlt1 : i < P.length := by omega
          have hlt2 : i < 12 := by omega
          have d1 : decide (i < P.length) = true := decide_eq_true hlt1
          have d2 : decide ((i : Int) < 12) = true := decide_eq_true (by omega)
          have d3 : decide (i < 12) = true := decide_eq_true hlt2
          obtain ⟨z, hys, hxz⟩ := rest_next hlt hxy
          have hwB : Below G w wr := BL.out.trans (ht.below_of (B := G) (by have := HRL.out; have := HGR.out; omega) (fun i hi h => by have := HGR.out; have := HRL.out; omega))
          obtain ⟨⟨A', c', e0, _, _, h4⟩, h5⟩ := HX.out.below (hwB.mono hBG)
          obtain ⟨e1, _, e3⟩ := Value.slice.inj e0
          subst e1 e3
          obtain ⟨b, o, rfl, hb, hc⟩ := h4 (by rintro rfl; simp at hlt1)
          have hc0 := hc i _ (List.getElem?_eq_getElem hlt1)
          have hby := h5 _ (List.getElem_mem hlt1)
          have hpa := partAt_at hlt1
          obtain ⟨⟨pd, us⟩, hpe⟩ : ∃ p, p = P[i] := ⟨_, rfl⟩
          rw [← hpe] at hc0 hby hpa
          dsimp only at hc0 hby hpa
          obtain ⟨Ad, cd, rfl⟩ := hby.form
          have hql := numAt_bd HN.out hlt2
          obtain ⟨bp, hbp⟩ : ∃ bp, bp = partAt P i := ⟨_, rfl⟩
          obtain ⟨q, hq⟩ : ∃ q, q = numAt N i := ⟨_, rfl⟩
          have hpl := partAt_le (P := P) i
          rw [← hbp] at hpa hpl
          rw [← hq] at hql
          have hpc : pc P N i ++ z = sizeB bp.length ++ bp ++ (low q 8 ++ z) := by rw [hbp, hq]; unfold pc; rw [List.append_assoc]
          have hl : listR 400 0 ys = (bp, 0, low q 8 ++ z) := by rw [hys, hpc]; exact listR_app bp _ 400 (by omega) (by omega)
          have hrb := rlist_any r r v' 0 400 ys wr hcu
          rw [hl] at hrb
          have CB := Lib.hid hrb
          have hnr := numR_low q 8 z hql.1
          have HNR := Lib.hid hnr
          have HXZ := Lib.hid hxz
          have HT := Lib.hid ht
          have HBY := Lib.hid hby
          have HC0 := Lib.hid hc0
          have HPA := Lib.hid hpa
          have HBO := Lib.hid hb
          clear hc h4 h5 e0 hpe hbp hq hpc hl hrb hnr hxz hys hxy hcu ht hby hpa him2 hwB hql hc0
          go_wp2_with fail
          refine CB.out.mono ?_
          rintro e w13 ⟨u, rfl, A13, c13, rfl, hown13, v13, hcu13, ht13⟩
          have hc13 : w13.cell? ⟨b, o + i, none⟩ = some (.slice Ad us.length cd) := (ht13.cell (p := ⟨b, o + i, none⟩) (by have := HT.out.size; have := HRL.out; have := HGR.out; have := HBO.out; show b < _; omega) (fun e => by have e : b = r := e; have := HBO.out; have := HGR.out; omega)).trans HC0.out
          have hb13 : Byt w13 B (.slice Ad us.length cd) us := HBY.out.keep fun bb oo hlt => ht13.cell (p := ⟨bb, oo, none⟩) (by have := HT.out.size; have := HRL.out; have := HGR.out; show bb < _; omega) (fun e => by have e : bb = r := e; have := HGR.out; omega)
          have hu := ru64_any r r v13 0 (low q 8 ++ z) w13 hcu13
          rw [HNR.out] at hu
          have CU64 := Lib.hid hu
          have HT13 := Lib.hid (HT.out.trans ht13 (fun k _ hk => .inl hk))
          have O13 := Lib.hid (Byt.of_own hown13)
          have HB13 := Lib.hid hb13
          clear hown13 hcu13 ht13 hu hb13 CB HNR
          by_cases h400 : us.length ≤ 400
          · have dg : decide ((us.length : Int) ≤ 400) = true := decide_eq_true (by omega)
            have dg2 : decide (us.length ≤ 400) = true := decide_eq_true h400
            have EQ := Lib.hid (equal_yes _ _ _ _ bp us w13 O13.out HB13.out (by rw [HPA.out, List.take_of_length_le h400]))
            go_wp2_with fail
            refine EQ.out.mono ?_
            rintro e w14 ⟨rfl, rfl⟩
            go_wp2_with fail
            refine CU64.out.mono ?_
            rintro e w15 ⟨rfl, v15, hcu15, ht15⟩
            have C15 := Lib.hid hcu15
            have T15 := Lib.hid (HT13.out.trans ht15 (fun k _ hk => .inl hk))
            clear hcu15 ht15
            go_wp2_with fail
            go_roundw
            case rel => exact ⟨i + 1, z, v15, by omega, by go_num, by rw [HXX.out]; exact HXZ.out, C15.out, T15.out⟩
            case measure => simp [intOf]; omega
          · have dg : decide ((us.length : Int) ≤ 400) = false := decide_eq_false (by omega)
            have dg2 : decide (us.length ≤ 400) = false := decide_eq_false h400
            go_wp2_with fail
            refine CU64.out.mono ?_
            rintro e w15 ⟨rfl, v15, hcu15, ht15⟩
            have C15 := Lib.hid hcu15
            have T15 := Lib.hid (HT13.out.trans ht15 (fun k _ hk => .inl hk))
            clear hcu15 ht15
            go_wp2_with fail
            go_roundw
            case rel => exact ⟨i + 1, z, v15, by omega, by go_num, by rw [HXX.out]; exact HXZ.out, C15.out, T15.out⟩
            case measure => simp [intOf]; omega
        · obtain rfl : i = m := by omega
          have hye := rest_end hxy
          subst hye
          have HC := Lib.hid hcu
          have HT := Lib.hid ht
          have d0 : (decide (i < P.length) = false) ∨ (decide (i < P.length) = true ∧ i = 12) := by
            by_cases h : i < P.length
            · exact .inr ⟨decide_eq_true h, by omega⟩
            · exact .inl (decide_eq_false h)
          clear hxy hcu ht him2
          rcases d0 with d0 | ⟨d0, rfl⟩
          · go_wp2_with fail
            go_meet
            exact ⟨v', HC.out, HT.out⟩
          · have d0' : decide ((12 : Int) < (P.length : Int)) = true := decide_eq_true (by have := of_decide_eq_true d0; omega)
            go_wp2_with fail
            go_meet
            exact ⟨v', HC.out, HT.out⟩
    case rest => as_aux_lemma =>
      obtain ⟨v', hcu, ht⟩ := hcut
      have R13 := Lib.hid (R12.out.turns ht (fun h => by have := HRH.out; have := R12.out.lt; omega))
      have Q13 := Lib.hid (Q12.out.turns ht (fun h => by have := HRQ.out; have := Q12.out.lt; omega))
      have BF := Lib.hid (BL.out.trans (ht.below_of (B := G) (by have := HRL.out; have := HGR.out; omega) (fun i hi h => by have := HGR.out; have := HRL.out; omega)))
      have heq := fun W => eq_h D D HDL.out HDL.out W
      simp only [beq_self_eq_true] at heq
      have CC := Lib.hid (rclose_any r r v' 0 [] wc hcu)
      clear hcu ht
      go_wp2_with (first
        | (refine wpList_load_irow_g rfl 41 (.tmp 16) rfl (g := H2) (t := 41) (k := .u8) (xs := nums D) rfl Q13.out Tryd.underlying41 HI.out ?_)
        | (refine wpList_load_irow_g rfl 41 (.tmp 15) rfl (g := H) (t := 41) (k := .u8) (xs := nums D) rfl R13.out Tryd.underlying41 HI.out ?_))
      refine CC.out.mono ?_
      rintro e w14 ⟨rfl, rfl⟩
      have hcl : closeR 0 ([] : List UInt8) = 0 := by unfold closeR; rw [if_neg (by simp)]
      rw [hcl]
      clear hcl
      go_wp2_with fail
      go_ret
      exact ⟨rfl, by rw [← HG.out]; exact BF.out⟩
end Go.Proofs.YtjdicifickjggaaDoor

/-
  From an argument that can be read as data to slices of bytes in memory. Conditions: none.
-/
namespace Go.Proofs.YtjdicifickjggaaDoor
open Go.ChangeShapes Go.WideShapes Go.ChangeAt Go.RowKit Go.Deep

theorem bag_open {H : Type} {enc : TypeId × Value → H} {P : Program} {w : World} {spare : Nat → Bool} {held : Bool} {fuel : Nat} {t e q : TypeId} {v : Value} {x : DataW H × List MemPlace}
    (ht : P.underlying t = some (.slice e)) (he : P.underlying e = some (.slice q)) (hq : P.underlying q = some (.int .u8)) (ce : P.cellsOf e = 1) (cq : P.cellsOf q = 1) (h : DataW.trod enc P w 0 spare held fuel t [v] = some x) : ∃ L, BagR w w.heap.size v L := by
  rcases open_slice1 ht ce h with ⟨hcs, _⟩ | ⟨a, len, cap, m, n, V, D, Pl, hcs, _, hl, hm, hmm, _, hx⟩
  · simp only [List.cons.injEq, and_true] at hcs
    subst hcs
    exact ⟨[], ⟨none, 0, rfl, Nat.le_refl _, by unfold maxLen; omega, fun h => absurd rfl h⟩, fun _ h => by cases h⟩
  · simp only [List.cons.injEq, and_true] at hcs
    subst hcs
    have hlm : len ≤ m := by rw [hmm]; split <;> omega
    obtain ⟨f, hf⟩ := choose_lt (α := List UInt8) (p := fun i bs => Byt w w.heap.size (V i) bs) (n := len) (fun i hi => byt_open he hq cq (hx i (by omega)).2)
    have hlen : ((List.range len).map fun i => (V i, f i)).length = len := by simp
    refine ⟨(List.range len).map fun i => (V i, f i), ⟨some a, cap, by rw [hlen], by rw [hlen]; exact hl, hm, fun hne => ?_⟩, fun p hp => ?_⟩
    · have hpos : 0 < len := by
        rcases Nat.eq_zero_or_pos len with h0 | h0
        · rw [h0] at hne; simp at hne
        · exact h0
      have h0 := (hx 0 (by omega)).1
      have hadd0 : a.add 0 = a := by unfold Addr.add; simp
      rw [hadd0] at h0
      have hsp := spot_none h0
      refine ⟨a.block, a.off, by rw [← hsp], World.block_lt_of_cell? _ _ h0, fun j p hp => ?_⟩
      have hj : j < len := by
        have := (List.getElem?_eq_some_iff.1 hp).1
        omega
      have hcj := (hx j (by omega)).1
      have hadd : a.add j = ⟨a.block, a.off + j, none⟩ := (congrArg (fun q : Addr => q.add j) hsp).trans (add_at _ _ _)
      rw [hadd] at hcj
      rw [hcj]
      rw [List.getElem?_map, List.getElem?_range hj] at hp
      rw [← Option.some.inj hp]
    · obtain ⟨i, hi, rfl⟩ := List.mem_map.1 hp
      exact hf i (List.mem_range.1 hi)
end Go.Proofs.YtjdicifickjggaaDoor

/-
  StrongboxPieces returns true for every input, and leaves each argument as it was. Conditions: none beyond the statement's own (the listed variables hold what the program's text lays; the card ties them).
-/
namespace Go.Proofs.YtjdicifickjggaaDoor
open Go.ChangeShapes Go.WideShapes Go.ChangeAt Go.RowKit Go.ChangeMaps

theorem bounds_u64' {n : Int} (h : (Lit.int .u64 n).wf = true) : 0 ≤ n ∧ n < 18446744073709551616 := by
  have := bounds_u64 h
  omega

set_option maxRecDepth 100000 in
theorem pieces_lifted (os : Os) (started : os.Started) (H : Type) (enc : TypeId × Value → H) :
    ReturnsInHanded {} Tryd.checked os 3 .any (fun w args => (Rows.strongboxPiecesSpec.pre enc Tryd.prog Tryd.f3 [] false w args ∧ laidMetH Tryd.prog laidL w) ∧ sizedMet enc Tryd.prog Tryd.f3 (OpenSpec.ofChange Rows.strongboxPiecesSpec) false w args)
      (Rows.strongboxPiecesSpec.post enc Tryd.prog Tryd.f3 false true false false) := by
  refine returnsInHanded_of_change_and (C := Tryd.checked) (X := fun w _ => laidMetH Tryd.prog laidL w) (fun _ _ _ hh h => h.of_heap hh) own started (by kernel_rfl) Tryd.func3
    (ChangeSpec.witness_shaped (enc := enc) (C := Tryd.checked) (os := os) (X := fun w _ => laidMetH Tryd.prog laidL w) false (World.doorLaid Tryd.prog 400 os) #[.slice none 0 0, .slice none 0 0] 8 rfl (World.shaped_of_RefB (by kernel_rfl) (by kernel_rfl)) (by kernel_rfl) (by kernel_rfl) (by kernel_rfl) (door_met os _)) ?_
  intro W base args ds gs before hval0 hW _ hsz hL _
  have hval : ∀ (j : Nat) t v, Tryd.f3.params[j]? = some t → args[j]? = some v → Value.okWide Tryd.prog W .any base t v := hval0
  have hW' := hW
  obtain ⟨p, q, hA0, hV, rfl, hfz, hnd⟩ := hW
  have hA : DataW.TrodAll enc Tryd.prog W 0 (fun _ => true) true Tryd.f3.params.toList args.toList ds p := hA0
  rw [Tryd.params3] at hA hval
  obtain ⟨v0, v1, d0, d1, p0, p1, rfl, rfl, rfl, h0, h1⟩ := trodAll_two hA
  obtain ⟨rfl, rfl⟩ := trodVars_none hV
  obtain ⟨a0, len0, cap0, rfl⟩ := okWide_slice Tryd.underlying22 (hval 0 22 v0 rfl rfl)
  obtain ⟨a1, len1, cap1, rfl⟩ := okWide_slice Tryd.underlying23 (hval 1 23 v1 rfl rfl)
  have lt0 : ∀ x ∈ p0, x.block < W.heap.size := by obtain ⟨m, hm⟩ := h0; exact DataW.trod_lt m _ _ _ hm
  have lt1 : ∀ x ∈ p1, x.block < W.heap.size := by obtain ⟨m, hm⟩ := h1; exact DataW.trod_lt m _ _ _ hm
  obtain ⟨bs, hbs⟩ : ∃ bs, BagR W W.heap.size (.slice a0 len0 cap0) bs := by
    obtain ⟨m, hm⟩ := h0
    exact bag_open Tryd.underlying22 slice_u8 Tryd.underlying5 (by kernel_rfl) (by kernel_rfl) hm
  obtain ⟨cs, hcs, hwf⟩ : ∃ cs, Ints .u64 W W.heap.size (.slice a1 len1 cap1) cs ∧ ∀ n ∈ cs, (Lit.int .u64 n).wf = true := by
    obtain ⟨m, hm⟩ := h1
    exact ints_open Tryd.underlying23 Tryd.underlying30 (by kernel_rfl) hm
  clear hA0 hval0
  refine (pieces_law W.heap.size W.heap.size _ _ bs cs W (roots_of_laid hL) hbs (Nat.le_refl _) hcs (Nat.le_refl _) (fun n hn => bounds_u64' (hwf n hn))).mono fun e W' ⟨he, bel⟩ => ?_
  subst he
  exact ⟨_, rfl, _, _, _, [], _, [], hW', trodAll_mk1 (shut_bool Tryd.underlying4 _), trodAll_mk2 (Below.trod laidOut (by kernel_rfl) (of_decide_eq_true (by kernel_rfl)) h0 bel lt0) (Below.trod laidOut (by kernel_rfl) (of_decide_eq_true (by kernel_rfl)) h1 bel lt1), rfl, bel.frame _, fun h => by cases h⟩

theorem strongboxPieces_row : Rows.StrongboxPiecesSaid :=
  OpenClaim.holds_of_wide 3 Tryd.f3 rfl rfl rfl rfl rfl rfl rfl ⟨rfl, rfl, rfl, rfl, rfl⟩ rfl rfl rfl rfl rfl (by kernel_rfl) Tryd.func3 (by kernel_rfl)
    (of_decide_eq_true (by kernel_rfl)) (by unfold Func.isWrapper; first | (rw [if_pos (by decide +kernel)]; kernel_rfl) | (rw [if_neg (by decide +kernel)]; exact ⟨rfl, rfl⟩))
    (fun os started H enc _ => pieces_lifted os started H enc)

theorem strongboxPieces_holds : Rows.StrongboxPiecesCardSaid :=
  Claim7.holds_tied_plain_at .later [] [.data, .data] true _ true
    strongboxPieces_row (fun _ h => by cases h) (by kernel_rfl) (fun _ h => by cases h) strongboxPieces_row_tie rfl ⟨rfl, rfl⟩ (by kernel_rfl) rfl
    (fun f fn hf hfn => by
      obtain rfl : f = 3 := Option.some.inj ((show Tryd.prog.funcNamed "strongbox/strongboxtop.StrongboxPieces" = some 3 by kernel_rfl).symm.trans hf) |>.symm
      obtain rfl : fn = Tryd.f3 := (Option.some.inj (Tryd.func3.symm.trans hfn)).symm
      exact ⟨by kernel_rfl, fun j t ht => by
        rw [Tryd.params3] at ht
        have hm : t ∈ [22, 23] := by simpa using Array.mem_of_getElem? ht
        have hall : ([22, 23].all fun u => !Tryd.prog.wantsStandIn u) = true := by kernel_rfl
        exact (show Tryd.prog.wantsStandIn t = false by simpa using List.all_eq_true.1 hall t hm)⟩)
    (by kernel_rfl)
#print axioms strongboxPieces_holds
end Go.Proofs.YtjdicifickjggaaDoor
