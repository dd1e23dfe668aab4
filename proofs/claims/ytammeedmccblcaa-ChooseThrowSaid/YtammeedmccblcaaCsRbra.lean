/-
  The reference's Branch. Conditions: at most 19 coins.
-/
import Derived.Test.YtammeedmccblcaaCsFlg
namespace Go.Proofs.Ytammeedmccblcaa.Cs
open Go.RowKit

set_option maxRecDepth 100000 in
set_option maxHeartbeats 6400000 in
theorem rbranch_any (B : Nat) (v : Value) (l : List (Int × Int)) (need extra rate tries seed : Int) (w : World) (hX : CrR w B v l) (hB : B ≤ w.heap.size) (hl : l.length ≤ 19) (hc : CoinsOk l) :
    Calls Try.prog 17 #[v, .agg (tkC need extra rate tries seed).toArray] w fun e w' => ∃ p, e = .returned (.tuple #[p, .int .i64 (BranchF need extra rate tries l).1]) ∧ PlR w' w'.heap.size p (BranchF need extra rate tries l).2 ∧ Below w.heap.size w w' := by
  have hct := fun W => count_any need extra rate tries seed W
  have hord := fun W (hb : Below B w W) => order_any B v l rate W (hX.below hb) (Nat.le_trans hB hb.size) hl hc
  have hhl := handF_length rate l
  have hpos := handF_pos rate l
  obtain ⟨R, hR⟩ : ∃ z, z = BranchF need extra rate tries l := ⟨_, rfl⟩
  rw [← hR]
  unfold BranchF selF at hR
  obtain ⟨n1, hn1⟩ : ∃ z, z = lowF need := ⟨_, rfl⟩
  obtain ⟨n2, hn2⟩ : ∃ z, z = lowF extra := ⟨_, rfl⟩
  obtain ⟨n3, hn3⟩ : ∃ z, z = triesF tries := ⟨_, rfl⟩
  obtain ⟨AC, hAC⟩ : ∃ z, z = handF rate l := ⟨_, rfl⟩
  rw [← hn1, ← hn2, ← hn3] at hct
  simp only [← hAC] at hord hhl hpos
  simp only [← hn1, ← hn2, ← hn3, ← hAC] at hR
  have h30 := triesF_bd tries
  rw [← hn3] at h30
  obtain ⟨T, rfl⟩ : ∃ T : Nat, n3 = (T : Int) := ⟨n3.toNat, by omega⟩
  rw [Int.toNat_natCast, ← loop_branch] at hR
  have h10 : 0 ≤ n1 := by rw [hn1]; exact lowF_bd need
  have hl19 : AC.length ≤ 19 := by omega
  obtain ⟨A, c, rfl, _, _⟩ := hX.form
  have HB := Lib.hid hB
  have HP := Lib.hid hpos
  clear hX hB hl hc hn1 hn2 hn3 hAC hhl hpos
  have hbA : ∀ O, Below w.heap.size w (w.alloc O) := fun O => (Below.refl _ _).alloc (Nat.le_refl _) _
  have hrt1 := rtsk_one n1 n2 rate (T : Int) seed
  unfold tkC at hct ⊢
  have hvn : VRow (w.alloc (.cells [Value.int .i64 need, .int .i64 extra, .int .i64 rate, .int .i64 tries, .int .u64 seed].toArray 25)) w.heap.size 25 [.int .i64 need, .int .i64 extra, .int .i64 rate, .int .i64 tries, .int .u64 seed] := VRow.new w _ _
  obtain ⟨W1, hW1⟩ : ∃ z, z = w.alloc (.cells [Value.int .i64 need, .int .i64 extra, .int .i64 rate, .int .i64 tries, .int .u64 seed].toArray 25) := ⟨_, rfl⟩
  have hb0 := hbA (.cells [Value.int .i64 need, .int .i64 extra, .int .i64 rate, .int .i64 tries, .int .u64 seed].toArray 25)
  rw [← hW1] at hvn hb0
  have HVN := Lib.hid hvn
  have HB0 := Lib.hid hb0
  have hgw : w.heap.size < W1.heap.size := hvn.lt
  obtain ⟨GT, hGT⟩ : ∃ z, z = w.heap.size := ⟨_, rfl⟩
  go_enter Try.func17, Try.ntmps17
  go_upto_region 1 with fail
  change Code.wp _ _ _ _ (w.alloc (.cells [Value.int .i64 need, .int .i64 extra, .int .i64 rate, .int .i64 tries, .int .u64 seed].toArray 25))
  rw [← hW1, ← hGT]
  rw [← hGT] at hgw
  have HGT := Lib.hid hGT
  have hv2 : VRow W1 GT 25 [.int .i64 need, .int .i64 extra, .int .i64 rate, .int .i64 tries, .int .u64 seed] := by rw [hGT]; exact hvn
  have x2 : W1.cell? ⟨GT, 2, none⟩ = some (.int .i64 rate) := hv2.cell rfl
  have HV2 := Lib.hid hv2
  clear hvn hb0 hW1 hGT hv2
  go_upto_region 2 with (first
    | (refine wpList_load_vrow rfl 25 (.tmp 3) rfl rfl HV2.out Try.underlying25 rtsk5 ?_)
    | (go_at_call 29; refine (hct _).mono ?_; rintro e w2 ⟨rfl, hb2⟩; have HV3 := HV2.out.below hb2 HV2.out.lt)
    | (refine wpList_store_vrow rfl 25 (.tmp 3) (.tmp 17) rfl (us := [.int .i64 n1, .int .i64 n2, .int .i64 rate, .int .i64 (T : Int), .int .u64 seed]) rfl rfl HV3 rtsk5 rfl hrt1 ?_))
  try dsimp only [Act.put]
  obtain ⟨W3, hW3⟩ : ∃ z, z = w2.setRow GT [Value.int .i64 n1, .int .i64 n2, .int .i64 rate, .int .i64 (T : Int), .int .u64 seed].toArray := ⟨_, rfl⟩
  have hv4 : VRow W3 GT 25 [.int .i64 n1, .int .i64 n2, .int .i64 rate, .int .i64 (T : Int), .int .u64 seed] := by rw [hW3]; exact HV3.setRow _
  have b3 : Below w.heap.size w W3 := by rw [hW3]; exact below_setRow (HB0.out.trans (hb2.mono HB0.out.size)) (by have := HGT.out; omega) _
  change Code.wp _ _ _ _ (w2.setRow GT [Value.int .i64 n1, .int .i64 n2, .int .i64 rate, .int .i64 (T : Int), .int .u64 seed].toArray)
  rw [← hW3]
  have z2 : W3.cell? ⟨GT, 2, none⟩ = some (.int .i64 rate) := hv4.cell rfl
  have HO := Lib.hid (hord W3 (b3.mono HB.out))
  have V4 := Lib.hid hv4
  have B3 := Lib.hid b3
  clear hW3 hv4 b3 hb2 HV3 hct hord x2
  by_cases hsum : sumD AC ≤ 2100000000000000
  · have hok : decide (sumD AC ≤ 2100000000000000) = true := decide_eq_true hsum
    rw [hok] at HO
    rw [if_pos hsum] at hR
    have HR := Lib.hid hR
    have HSM := Lib.hid hsum
    clear hR hok hsum
    go_upto_region 5 with (first
      | (go_at_call 30; refine HO.out.mono ?_; rintro e w4 ⟨ua, uw, rfl, hau, hb4⟩))
    obtain ⟨hIa, hIw⟩ := hau HSM.out
    obtain ⟨Aa, ca, rfl, ha1, ha2⟩ := Ints.form hIa
    obtain ⟨Aw, cw, rfl, hw1, hw2⟩ := Ints.form hIw
    have hla : (atI AC).length = AC.length := List.length_map _
    have hlw : (woI AC).length = AC.length := List.length_map _
    rw [hla] at hIa ha1
    rw [hlw] at hIw hw1
    rw [hla, hlw]
    obtain ⟨n, hn⟩ : ∃ z, z = AC.length := ⟨_, rfl⟩
    rw [← hn] at hIa hIw ha1 hw1 hl19 ⊢
    have hmk := make_flags n (by omega) w4
    have hz4 : w4.cell? ⟨GT, 0, none⟩ = some (.int .i64 n1) := (hb4.cell (p := ⟨GT, 0, none⟩) V4.out.lt).trans (V4.out.cell rfl)
    have V5 := Lib.hid (V4.out.below hb4 V4.out.lt)
    have B4 := Lib.hid (B3.out.trans (hb4.mono B3.out.size))
    have HIA := Lib.hid hIa
    have HIW := Lib.hid hIw
    have HN := Lib.hid hn
    clear hau hIa hIw hn hla hlw hb4 z2 HO
    go_wp2_with fail
    obtain ⟨WM, hWM⟩ : ∃ z, z = w4.alloc (.cells ((flags 0 n).map Value.bool).toArray 4) := ⟨_, rfl⟩
    obtain ⟨GC, hGC⟩ : ∃ z, z = w4.heap.size := ⟨_, rfl⟩
    have hF0 : VRow WM GC 4 ((flg [] n).map Value.bool) := by rw [hWM, hGC, flg_start]; exact VRow.new _ _ _
    have hbM : Below w4.heap.size w4 WM := by rw [hWM]; exact (Below.refl _ _).alloc (Nat.le_refl _) _
    rw [← hWM, ← hGC]
    have HGC := Lib.hid hGC
    have HF0 := Lib.hid hF0
    have HBM := Lib.hid hbM
    have GTL := Lib.hid V5.out.lt
    have hz1 : w4.cell? ⟨GT, 1, none⟩ = some (.int .i64 n2) := V5.out.cell rfl
    have hz3 : w4.cell? ⟨GT, 3, none⟩ = some (.int .i64 (T : Int)) := V5.out.cell rfl
    have HZ := Lib.hid (And.intro hz4 (And.intro hz1 hz3))
    clear hWM hGC hF0 hbM hmk hz4 hz1 hz3
    go_loopw [11, 12, 13, 14, 15] (fun s11 s12 s13 s14 s15 wr => ∃ (k : Nat) (q : List Bool), k ≤ T ∧ s12 = .int .i64 (k : Int) ∧ q.length ≤ n ∧ s11 = .int .i64 (q.length : Int) ∧ Hid (R = (if (loopF n1 n2 AC (T - k) q).1 = 0 then ((loopF n1 n2 AC (T - k) q).1, placesF (loopF n1 n2 AC (T - k) q).2) else ((loopF n1 n2 AC (T - k) q).1, []))) ∧ Hid (VRow wr GC 4 ((flg q n).map Value.bool)) ∧ Hid (Below w4.heap.size w4 wr)) (fun _ s12 _ _ _ _ => T - (intOf s12).toNat)
    case atStart => exact ⟨0, [], Nat.zero_le _, rfl, Nat.zero_le _, rfl, Lib.hid (by rw [Nat.sub_zero]; have h := HR.out; rw [h]; split <;> simp_all), HF0, HBM⟩
    case round =>
      obtain ⟨k, q, hk, rfl, hq, rfl, hL, hF, hb5⟩ := hrel
      obtain ⟨w5, rfl⟩ : ∃ z : World, z = wr := ⟨_, rfl⟩
      have hpk : pick AC (flg q n) = tookF AC q := by rw [HN.out]; exact pick_flg
      have hqa : q.length ≤ AC.length := by rw [← HN.out]; exact hq
      have hIa5 : Ints .i64 w5 w5.heap.size (.slice Aa n ca) (atI AC) := Ints.keepB HIA.out hb5.out
      have hIw5 : Ints .i64 w5 w5.heap.size (.slice Aw n cw) (woI AC) := Ints.keepB HIW.out hb5.out
      have hflr : FlR w5 w5.heap.size (.slice (some ⟨GC, 0, none⟩) n n) (flg q n) := (flr_row hF.out (flg_length hq) (by omega)).more hF.out.lt
      have hsu := rsum_any w5.heap.size (.slice Aw n cw) (.slice (some ⟨GC, 0, none⟩) n n) AC (flg q n) w5 hIw5 hflr (by rw [flg_length hq]; exact HN.out.symm) (Nat.le_refl _) HP.out HSM.out (by rw [← HN.out]; exact hl19)
      have hpl := fun W (h : Below w5.heap.size w5 W) => places_any w5.heap.size (.slice Aa n ca) (.slice (some ⟨GC, 0, none⟩) n n) AC (flg q n) W (hIa5.below h) (RowR.below hflr h) (by rw [flg_length hq]; exact HN.out.symm) h.size (by rw [← HN.out]; exact hl19)
      rw [hpk] at hsu
      simp only [hpk] at hpl
      have hbd := pick_bd (AC.take q.length) q.reverse (fun c hc => HP.out c (List.mem_of_mem_take hc))
      have hbt := sum_take AC HP.out q.length
      have hrd : 0 ≤ sumD (AC.drop q.length) ∧ sumD (AC.drop q.length) ≤ sumD AC := by
        have h1 : sumD AC = sumD (AC.take q.length) + sumD (AC.drop q.length) := by rw [← sumD_append, List.take_append_drop]
        have h3 : 0 ≤ sumD (AC.drop q.length) := sumD_nonneg fun c hc => HP.out c (List.mem_of_mem_drop hc)
        omega
      have hSM := HSM.out
      have hbs : 0 ≤ sumD (tookF AC q) ∧ sumD (tookF AC q) ≤ 2100000000000000 := by unfold tookF; omega
      obtain ⟨s, hs⟩ : ∃ z, z = sumD (tookF AC q) := ⟨_, rfl⟩
      rw [← hs] at hsu hbs
      obtain ⟨RS, hRS⟩ : ∃ z, z = sumD (AC.drop q.length) := ⟨_, rfl⟩
      rw [← hRS] at hrd
      have hrd : 0 ≤ RS ∧ RS ≤ 2100000000000000 := by omega
      obtain ⟨d, hd⟩ : ∃ z, z = q.length := ⟨_, rfl⟩
      rw [← hd] at hq hqa hRS ⊢
      have y0 : w5.cell? ⟨GT, 0, none⟩ = some (.int .i64 n1) := (hb5.out.cell (p := ⟨GT, 0, none⟩) GTL.out).trans HZ.out.1
      have y1 : w5.cell? ⟨GT, 1, none⟩ = some (.int .i64 n2) := (hb5.out.cell (p := ⟨GT, 1, none⟩) GTL.out).trans HZ.out.2.1
      have y3 : w5.cell? ⟨GT, 3, none⟩ = some (.int .i64 (T : Int)) := (hb5.out.cell (p := ⟨GT, 3, none⟩) GTL.out).trans HZ.out.2.2
      have HS := Lib.hid hs
      have HRS := Lib.hid hRS
      have HD := Lib.hid hd
      have HSU := Lib.hid hsu
      have HPL := Lib.hid hpl
      have HIW5 := Lib.hid hIw5
      have BF := Lib.hid (B4.out.trans (hb5.out.mono B4.out.size))
      clear hpk hqa hIa5 hIw5 hflr hsu hpl hbd hbt hs hRS hd hSM
      by_cases hlt : k < T
      · have dk : decide ((k : Int) < (T : Int)) = true := decide_eq_true (by omega)
        go_wp2_with (first
          | (go_at_call 33; refine HSU.out.mono ?_; rintro e w6 ⟨rfl, hb6⟩))
        have HB6 := Lib.hid hb6
        have x0 := (hb6.cell (p := ⟨GT, 0, none⟩) (by have := GTL.out; have := hb5.out.size; show GT < _; omega)).trans y0
        have x1 := (hb6.cell (p := ⟨GT, 1, none⟩) (by have := GTL.out; have := hb5.out.size; show GT < _; omega)).trans y1
        have F6 := Lib.hid (hF.out.below hb6 hF.out.lt)
        have HX := Lib.hid (And.intro x0 x1)
        clear x0 x1 y0 y1 y3 hb6
        go_loopw [14, 15] (fun sr si wr => ∃ (i : Nat), d ≤ i ∧ i ≤ n ∧ si = .int .i64 (i : Int) ∧ sr = .int .i64 (RS - sumD (AC.drop i)) ∧ 0 ≤ RS - sumD (AC.drop i) ∧ Hid (Below w6.heap.size w6 wr)) (fun _ si _ => n - (intOf si).toNat)
        case atStart => exact ⟨d, Nat.le_refl _, hq, rfl, by rw [← HRS.out, Int.sub_self], by rw [← HRS.out, Int.sub_self]; exact Int.le_refl _, Lib.hid (Below.refl _ _)⟩
        case round =>
          obtain ⟨i, hdi, hin, rfl, rfl, hge, hb7⟩ := hrel
          obtain ⟨w7, rfl⟩ : ∃ z : World, z = wr := ⟨_, rfl⟩
          have hri : 0 ≤ sumD (AC.drop i) := sumD_nonneg fun c hc => HP.out c (List.mem_of_mem_drop hc)
          by_cases hil : i < n
          · as_aux_lemma =>
            have di : decide ((i : Int) < (n : Int)) = true := decide_eq_true (by omega)
            obtain ⟨x, hx⟩ : ∃ x, AC[i]? = some x := ⟨_, List.getElem?_eq_getElem (by rw [← HN.out]; exact hil)⟩
            have hIw7 : Ints .i64 w7 w5.heap.size (.slice Aw n cw) (woI AC) := (HIW5.out.below HB6.out).below (hb7.out.mono HB6.out.size)
            obtain ⟨b', o', c', ef, _, hcw⟩ := Ints.at hIw7 (i := i) (x := x.1) (by unfold woI; rw [List.getElem?_map, hx]; rfl)
            injection ef with ef1 ef2 ef3
            subst ef1
            clear ef2 ef3
            have hdr : sumD (AC.drop i) = x.1 + sumD (AC.drop (i + 1)) := by rw [drop_at AC hx]; rfl
            have hr1 : 0 ≤ sumD (AC.drop (i + 1)) := sumD_nonneg fun c hc => HP.out c (List.mem_of_mem_drop hc)
            have hxp := HP.out x (List.mem_of_getElem? hx)
            obtain ⟨r0, hr0⟩ : ∃ z, z = RS - sumD (AC.drop i) := ⟨_, rfl⟩
            have hne : RS - sumD (AC.drop (i + 1)) = r0 + x.1 := by omega
            have hr2 : r0 ≤ 2100000000000000 ∧ 0 ≤ r0 + x.1 ∧ r0 + x.1 ≤ 2100000000000000 := by omega
            rw [← hr0]
            have HNE := Lib.hid hne
            clear hne hdr hr1 hr0 hri hx hIw7 hge
            go_wp2_with fail
            exact ⟨⟨i + 1, by omega, hil, by first | rfl | exact next (by omega), by rw [HNE.out], by rw [HNE.out]; exact hr2.2.1, hb7⟩, by first | exact meas hil (by omega) | (show n - ((i : Int) + 1).toNat < n - (i : Int).toNat; omega)⟩
          · as_aux_lemma =>
            have di : decide ((i : Int) < (n : Int)) = false := decide_eq_false (by omega)
            have hin' : i = AC.length := by rw [← HN.out]; omega
            have hz0 : RS - sumD (AC.drop i) = RS := by rw [hin', List.drop_length]; show RS - 0 = RS; omega
            rw [hz0]
            clear hin' hz0 hri hge
            have F7 := Lib.hid (F6.out.below hb7.out F6.out.lt)
            have B57 := Lib.hid (HB6.out.trans (hb7.out.mono HB6.out.size))
            have z0 : w7.cell? ⟨GT, 0, none⟩ = some (.int .i64 n1) := (hb7.out.cell (p := ⟨GT, 0, none⟩) (by have := GTL.out; have := hb5.out.size; have := HB6.out.size; show GT < _; omega)).trans HX.out.1
            have z1 : w7.cell? ⟨GT, 1, none⟩ = some (.int .i64 n2) := (hb7.out.cell (p := ⟨GT, 1, none⟩) (by have := GTL.out; have := hb5.out.size; have := HB6.out.size; show GT < _; omega)).trans HX.out.2
            obtain ⟨t', ht'⟩ : ∃ z, T - k = z + 1 := ⟨T - k - 1, by omega⟩
            have htk : T - (k + 1) = t' := by omega
            rw [ht'] at hL
            by_cases hg1 : n1 ≤ s
            · have dg : decide (n1 ≤ s) = true := decide_eq_true hg1
              have dl : decide (s < n1) = false := decide_eq_false (by omega)
              by_cases hg2 : s - n1 ≤ n2
              · as_aux_lemma =>
                have de : decide (s - n1 ≤ n2) = true := decide_eq_true hg2
                have hRe : R = (0, placesF (tookF AC q)) := by
                  have h := hL.out
                  rw [loopF_found (by rw [← HS.out]; exact hg1) (by rw [← HS.out]; exact hg2)] at h
                  exact h
                subst hRe
                clear hL HR
                go_wp2_with (first
                  | (go_at_call 31; refine (HPL.out _ B57.out).mono ?_; rintro e w8 ⟨u, rfl, hu, hb8⟩))
                go_ret2
                exact ⟨u, rfl, hu, BF.out.trans ((B57.out.trans (hb8.mono B57.out.size)).mono BF.out.size)⟩
              · have de : decide (s - n1 ≤ n2) = false := decide_eq_false hg2
                have hRc : loopF n1 n2 AC (t' + 1) q = contF n1 n2 AC t' q := loopF_back (by rw [← HS.out]; exact fun h => hg2 h.2) (by rw [← HS.out]; exact fun h => absurd h.1 (by omega))
                rw [hRc] at hL
                rw [← htk] at hL
                have HLC := Lib.hid hL
                have Q0 := Lib.hid (show flg q n = flg q n from rfl)
                clear hL
                go_wp2_with fail
                go_loopw [11] (fun s11 wr => ∃ p : List Bool, p.length ≤ n ∧ s11 = .int .i64 (p.length : Int) ∧ Hid (backQ p = backQ q) ∧ Hid (VRow wr GC 4 ((flg p n).map Value.bool)) ∧ Hid (Below w7.heap.size w7 wr)) (fun s11 _ => (intOf s11).toNat)
                case atStart => exact ⟨q, by rw [← HD.out]; exact hq, by rw [HD.out], Lib.hid rfl, F7, Lib.hid (Below.refl _ _)⟩
                case round =>
                  obtain ⟨p, hpn, rfl, hbq, hFp, hb9⟩ := hrel
                  obtain ⟨w9, rfl⟩ : ∃ z : World, z = wr := ⟨_, rfl⟩
                  have B9 := Lib.hid ((hb5.out.trans (B57.out.mono hb5.out.size)).trans (hb9.out.mono (Nat.le_trans hb5.out.size B57.out.size)))
                  rcases p with _ | ⟨b, p⟩
                  · have hRe : R = (7, []) := by
                      have h := HLC.out
                      unfold contF at h
                      rw [← hbq.out] at h
                      exact h
                    subst hRe
                    simp only [List.length_nil, Int.natCast_zero]
                    clear HLC HR
                    go_wp2_with fail
                    go_ret2
                    exact ⟨_, rfl, Ints.nil _ _ _, BF.out.trans ((B57.out.trans (hb9.out.mono B57.out.size)).mono BF.out.size)⟩
                  · obtain ⟨m, hm⟩ : ∃ z, z = p.length := ⟨_, rfl⟩
                    have hmn : m < n := by rw [hm]; exact hpn
                    have hm1 : ((b :: p).length : Int) = (m : Int) + 1 := by rw [List.length_cons, hm]; rfl
                    rw [hm1]
                    have dm : decide ((0 : Int) < (m : Int) + 1) = true := decide_eq_true (by omega)
                    have hat : ((flg (b :: p) n).map Value.bool)[m]? = some (.bool b) := by rw [List.getElem?_map, hm, flg_at b (by rw [← hm]; exact hmn)]; rfl
                    have cb := hFp.out.cell hat
                    have ff := hFp.out.free m
                    have hms : (m : Int) + 1 - 1 = (m : Int) := by omega
                    have HM := Lib.hid hm
                    clear hat hm hm1
                    cases b
                    · go_wp2_with fail
                      exact ⟨⟨p, by rw [← HM.out]; omega, by rw [HM.out], Lib.hid hbq.out, Lib.hid (by rw [← flg_pop (show p.length < n by rw [← HM.out]; exact hmn)]; exact hFp.out), hb9⟩, by show (m : Int).toNat < ((m : Int) + 1).toNat; omega⟩
                    · go_wp2_with fail
                      have hcf : contF n1 n2 AC (T - (k + 1)) q = loopF n1 n2 AC (T - (k + 1)) (false :: p) := by unfold contF; rw [← hbq.out]; exact if_neg (by simp [backQ])
                      have hL2 := HLC.out
                      rw [hcf] at hL2
                      have hF2 : VRow (w9.setCell ⟨GC, m, none⟩ (.bool false)) GC 4 ((flg (false :: p) n).map Value.bool) := by
                        have h := hFp.out.set m (.bool false)
                        rw [← flg_set true false (show p.length < n by rw [← HM.out]; exact hmn), List.map_set, ← HM.out]
                        exact h
                      have hB2 : Below w4.heap.size w4 (w9.setCell ⟨GC, m, none⟩ (.bool false)) := B9.out.setCell (p := ⟨GC, m, none⟩) (by have := HGC.out; show w4.heap.size ≤ GC; omega) _
                      exact ⟨⟨k + 1, false :: p, hlt, by first | rfl | exact next (by omega), by rw [List.length_cons, ← HM.out]; exact hmn, by rw [List.length_cons, ← HM.out]; first | rfl | exact next (by omega), Lib.hid hL2, Lib.hid hF2, Lib.hid hB2⟩, by first | exact meas hlt (by omega) | (show T - ((k : Int) + 1).toNat < T - (k : Int).toNat; omega)⟩
            · have dg : decide (n1 ≤ s) = false := decide_eq_false hg1
              have dl : decide (s < n1) = true := decide_eq_true (by omega)
              by_cases hp1 : n1 ≤ s + RS
              · have dp : decide (n1 ≤ s + RS) = true := decide_eq_true hp1
                by_cases hp2 : d < n
                · have dd : decide ((d : Int) < (n : Int)) = true := decide_eq_true (by omega)
                  have hRc : loopF n1 n2 AC (t' + 1) q = loopF n1 n2 AC t' (true :: q) := loopF_push (by rw [← HS.out]; omega) (by rw [← HS.out, ← HD.out, ← HRS.out]; exact hp1) (by rw [← HD.out, ← HN.out]; exact hp2)
                  rw [hRc] at hL
                  obtain ⟨fv, hfv⟩ : ∃ v, ((flg q n).map Value.bool)[d]? = some v := ⟨_, List.getElem?_eq_getElem (by rw [List.length_map, flg_length (by rw [← HD.out]; exact hq)]; exact hp2)⟩
                  have cf := F7.out.cell hfv
                  have ff := F7.out.free d
                  have F8 := Lib.hid (show VRow (w7.setCell ⟨GC, d, none⟩ (.bool true)) GC 4 ((flg (true :: q) n).map Value.bool) by
                    have h := F7.out.set d (.bool true)
                    rw [← flg_push (by rw [← HD.out]; exact hp2), List.map_set, ← HD.out]
                    exact h)
                  have B8 := Lib.hid (show Below w4.heap.size w4 (w7.setCell ⟨GC, d, none⟩ (.bool true)) from (hb5.out.trans (B57.out.mono hb5.out.size)).setCell (p := ⟨GC, d, none⟩) (by have := HGC.out; show w4.heap.size ≤ GC; omega) _)
                  rw [← htk] at hL
                  have HL2 := Lib.hid hL
                  clear hfv hL
                  go_wp2_with fail
                  exact ⟨⟨k + 1, true :: q, hlt, by first | rfl | exact next (by omega), by rw [List.length_cons, ← HD.out]; exact hp2, by rw [List.length_cons, ← HD.out]; first | rfl | exact next (by omega), HL2, F8, B8⟩, by first | exact meas hlt (by omega) | (show T - ((k : Int) + 1).toNat < T - (k : Int).toNat; omega)⟩
                · have dd : decide ((d : Int) < (n : Int)) = false := decide_eq_false (by omega)
                  have hRc : loopF n1 n2 AC (t' + 1) q = contF n1 n2 AC t' q := loopF_back (by rw [← HS.out]; exact fun h => hg1 h.1) (by rw [← HD.out, ← HN.out]; exact fun h => hp2 h.2.2)
                  rw [hRc] at hL
                  rw [← htk] at hL
                  have HLC := Lib.hid hL
                  have Q0 := Lib.hid (show flg q n = flg q n from rfl)
                  clear hL
                  go_wp2_with fail
                  go_loopw [11] (fun s11 wr => ∃ p : List Bool, p.length ≤ n ∧ s11 = .int .i64 (p.length : Int) ∧ Hid (backQ p = backQ q) ∧ Hid (VRow wr GC 4 ((flg p n).map Value.bool)) ∧ Hid (Below w7.heap.size w7 wr)) (fun s11 _ => (intOf s11).toNat)
                  case atStart => exact ⟨q, by rw [← HD.out]; exact hq, by rw [HD.out], Lib.hid rfl, F7, Lib.hid (Below.refl _ _)⟩
                  case round =>
                    obtain ⟨p, hpn, rfl, hbq, hFp, hb9⟩ := hrel
                    obtain ⟨w9, rfl⟩ : ∃ z : World, z = wr := ⟨_, rfl⟩
                    have B9 := Lib.hid ((hb5.out.trans (B57.out.mono hb5.out.size)).trans (hb9.out.mono (Nat.le_trans hb5.out.size B57.out.size)))
                    rcases p with _ | ⟨b, p⟩
                    · have hRe : R = (7, []) := by
                        have h := HLC.out
                        unfold contF at h
                        rw [← hbq.out] at h
                        exact h
                      subst hRe
                      simp only [List.length_nil, Int.natCast_zero]
                      clear HLC HR
                      go_wp2_with fail
                      go_ret2
                      exact ⟨_, rfl, Ints.nil _ _ _, BF.out.trans ((B57.out.trans (hb9.out.mono B57.out.size)).mono BF.out.size)⟩
                    · obtain ⟨m, hm⟩ : ∃ z, z = p.length := ⟨_, rfl⟩
                      have hmn : m < n := by rw [hm]; exact hpn
                      have hm1 : ((b :: p).length : Int) = (m : Int) + 1 := by rw [List.length_cons, hm]; rfl
                      rw [hm1]
                      have dm : decide ((0 : Int) < (m : Int) + 1) = true := decide_eq_true (by omega)
                      have hat : ((flg (b :: p) n).map Value.bool)[m]? = some (.bool b) := by rw [List.getElem?_map, hm, flg_at b (by rw [← hm]; exact hmn)]; rfl
                      have cb := hFp.out.cell hat
                      have ff := hFp.out.free m
                      have hms : (m : Int) + 1 - 1 = (m : Int) := by omega
                      have HM := Lib.hid hm
                      clear hat hm hm1
                      cases b
                      · go_wp2_with fail
                        exact ⟨⟨p, by rw [← HM.out]; omega, by rw [HM.out], Lib.hid hbq.out, Lib.hid (by rw [← flg_pop (show p.length < n by rw [← HM.out]; exact hmn)]; exact hFp.out), hb9⟩, by show (m : Int).toNat < ((m : Int) + 1).toNat; omega⟩
                      · go_wp2_with fail
                        have hcf : contF n1 n2 AC (T - (k + 1)) q = loopF n1 n2 AC (T - (k + 1)) (false :: p) := by unfold contF; rw [← hbq.out]; exact if_neg (by simp [backQ])
                        have hL2 := HLC.out
                        rw [hcf] at hL2
                        have hF2 : VRow (w9.setCell ⟨GC, m, none⟩ (.bool false)) GC 4 ((flg (false :: p) n).map Value.bool) := by
                          have h := hFp.out.set m (.bool false)
                          rw [← flg_set true false (show p.length < n by rw [← HM.out]; exact hmn), List.map_set, ← HM.out]
                          exact h
                        have hB2 : Below w4.heap.size w4 (w9.setCell ⟨GC, m, none⟩ (.bool false)) := B9.out.setCell (p := ⟨GC, m, none⟩) (by have := HGC.out; show w4.heap.size ≤ GC; omega) _
                        exact ⟨⟨k + 1, false :: p, hlt, by first | rfl | exact next (by omega), by rw [List.length_cons, ← HM.out]; exact hmn, by rw [List.length_cons, ← HM.out]; first | rfl | exact next (by omega), Lib.hid hL2, Lib.hid hF2, Lib.hid hB2⟩, by first | exact meas hlt (by omega) | (show T - ((k : Int) + 1).toNat < T - (k : Int).toNat; omega)⟩
              · have dp : decide (n1 ≤ s + RS) = false := decide_eq_false hp1
                have hRc : loopF n1 n2 AC (t' + 1) q = contF n1 n2 AC t' q := loopF_back (by rw [← HS.out]; exact fun h => hg1 h.1) (by rw [← HS.out, ← HD.out, ← HRS.out]; exact fun h => hp1 h.2.1)
                rw [hRc] at hL
                rw [← htk] at hL
                have HLC := Lib.hid hL
                have Q0 := Lib.hid (show flg q n = flg q n from rfl)
                clear hL
                go_wp2_with fail
                go_loopw [11] (fun s11 wr => ∃ p : List Bool, p.length ≤ n ∧ s11 = .int .i64 (p.length : Int) ∧ Hid (backQ p = backQ q) ∧ Hid (VRow wr GC 4 ((flg p n).map Value.bool)) ∧ Hid (Below w7.heap.size w7 wr)) (fun s11 _ => (intOf s11).toNat)
                case atStart => exact ⟨q, by rw [← HD.out]; exact hq, by rw [HD.out], Lib.hid rfl, F7, Lib.hid (Below.refl _ _)⟩
                case round =>
                  obtain ⟨p, hpn, rfl, hbq, hFp, hb9⟩ := hrel
                  obtain ⟨w9, rfl⟩ : ∃ z : World, z = wr := ⟨_, rfl⟩
                  have B9 := Lib.hid ((hb5.out.trans (B57.out.mono hb5.out.size)).trans (hb9.out.mono (Nat.le_trans hb5.out.size B57.out.size)))
                  rcases p with _ | ⟨b, p⟩
                  · have hRe : R = (7, []) := by
                      have h := HLC.out
                      unfold contF at h
                      rw [← hbq.out] at h
                      exact h
                    subst hRe
                    simp only [List.length_nil, Int.natCast_zero]
                    clear HLC HR
                    go_wp2_with fail
                    go_ret2
                    exact ⟨_, rfl, Ints.nil _ _ _, BF.out.trans ((B57.out.trans (hb9.out.mono B57.out.size)).mono BF.out.size)⟩
                  · obtain ⟨m, hm⟩ : ∃ z, z = p.length := ⟨_, rfl⟩
                    have hmn : m < n := by rw [hm]; exact hpn
                    have hm1 : ((b :: p).length : Int) = (m : Int) + 1 := by rw [List.length_cons, hm]; rfl
                    rw [hm1]
                    have dm : decide ((0 : Int) < (m : Int) + 1) = true := decide_eq_true (by omega)
                    have hat : ((flg (b :: p) n).map Value.bool)[m]? = some (.bool b) := by rw [List.getElem?_map, hm, flg_at b (by rw [← hm]; exact hmn)]; rfl
                    have cb := hFp.out.cell hat
                    have ff := hFp.out.free m
                    have hms : (m : Int) + 1 - 1 = (m : Int) := by omega
                    have HM := Lib.hid hm
                    clear hat hm hm1
                    cases b
                    · go_wp2_with fail
                      exact ⟨⟨p, by rw [← HM.out]; omega, by rw [HM.out], Lib.hid hbq.out, Lib.hid (by rw [← flg_pop (show p.length < n by rw [← HM.out]; exact hmn)]; exact hFp.out), hb9⟩, by show (m : Int).toNat < ((m : Int) + 1).toNat; omega⟩
                    · go_wp2_with fail
                      have hcf : contF n1 n2 AC (T - (k + 1)) q = loopF n1 n2 AC (T - (k + 1)) (false :: p) := by unfold contF; rw [← hbq.out]; exact if_neg (by simp [backQ])
                      have hL2 := HLC.out
                      rw [hcf] at hL2
                      have hF2 : VRow (w9.setCell ⟨GC, m, none⟩ (.bool false)) GC 4 ((flg (false :: p) n).map Value.bool) := by
                        have h := hFp.out.set m (.bool false)
                        rw [← flg_set true false (show p.length < n by rw [← HM.out]; exact hmn), List.map_set, ← HM.out]
                        exact h
                      have hB2 : Below w4.heap.size w4 (w9.setCell ⟨GC, m, none⟩ (.bool false)) := B9.out.setCell (p := ⟨GC, m, none⟩) (by have := HGC.out; show w4.heap.size ≤ GC; omega) _
                      exact ⟨⟨k + 1, false :: p, hlt, by first | rfl | exact next (by omega), by rw [List.length_cons, ← HM.out]; exact hmn, by rw [List.length_cons, ← HM.out]; first | rfl | exact next (by omega), Lib.hid hL2, Lib.hid hF2, Lib.hid hB2⟩, by first | exact meas hlt (by omega) | (show T - ((k : Int) + 1).toNat < T - (k : Int).toNat; omega)⟩
      · as_aux_lemma =>
        have dk : decide ((k : Int) < (T : Int)) = false := decide_eq_false (by omega)
        have hRe : R = (7, []) := by
          have h := hL.out
          rw [show T - k = 0 by omega, loopF_zero] at h
          exact h
        subst hRe
        clear hL
        go_wp2_with fail
        go_ret2
        exact ⟨_, rfl, Ints.nil _ _ _, BF.out⟩
  · have hok : decide (sumD AC ≤ 2100000000000000) = false := decide_eq_false hsum
    rw [hok] at HO
    rw [if_neg hsum] at hR
    subst hR
    clear hok hsum
    go_wp2_with (first
      | (go_at_call 30; refine HO.out.mono ?_; rintro e w4 ⟨ua, uw, rfl, hau, hb4⟩))
    go_ret2
    exact ⟨_, rfl, Ints.nil _ _ _, B3.out.trans (hb4.mono B3.out.size)⟩
end Go.Proofs.Ytammeedmccblcaa.Cs
