/-
  The greatest coins, as the document has them. Conditions: at most nineteen coins.
-/
import Derived.Test.YtammeedmccblcaaCsPlac
import Derived.Laws.MakeOwn
namespace Go.Proofs.Ytammeedmccblcaa.Cs
open Go.RowKit

def flags (k n : Nat) : List Bool := List.replicate k true ++ List.replicate (n - k) false
theorem flags_length {k n : Nat} (h : k ≤ n) : (flags k n).length = n := by unfold flags; rw [List.length_append, List.length_replicate, List.length_replicate]; omega
theorem flags_set {k n : Nat} (h : k < n) : (flags k n).set k true = flags (k + 1) n := by
  unfold flags
  rw [List.set_append_right _ _ (by rw [List.length_replicate]; exact Nat.le_refl _), List.length_replicate, Nat.sub_self, show n - k = (n - (k + 1)) + 1 by omega, List.replicate_succ, List.set_cons_zero, List.replicate_succ', List.append_assoc]
  rfl
theorem pick_flags : ∀ (l : List Cn) (k : Nat), k ≤ l.length → pick l (flags k l.length) = l.take k
  | [], k, h => by
    obtain rfl : k = 0 := by simpa using h
    rfl
  | c :: l, 0, _ => by
    have ih := pick_flags l 0 (Nat.zero_le _)
    unfold flags at ih ⊢
    rw [List.length_cons, Nat.sub_zero, List.replicate_succ]
    rw [Nat.sub_zero] at ih
    show pick l (List.replicate 0 true ++ List.replicate l.length false) = []
    rw [ih, List.take_zero]
  | c :: l, k + 1, h => by
    have ih := pick_flags l k (by simpa using h)
    unfold flags at ih ⊢
    rw [List.length_cons, show l.length + 1 - (k + 1) = l.length - k by omega, List.replicate_succ, List.take_succ_cons, ← ih]
    rfl
theorem made_flags (n : Nat) : (madeCells (Value.bool false).cells (n * 1)) = ((List.replicate n false).map Value.bool).toArray := by
  apply Array.ext
  · simp [madeCells]
  · intro i h1 h2
    simp [madeCells, Value.cells, Nat.mod_one]
theorem info_bool : (Try.prog.info? 4).map (fun i => (i.zero, i.size, i.bytes)) = some (some (.bool false), 1, 1) := by kernel_rfl
theorem make_flags (n : Nat) (hn : n ≤ 1000) (W : World) : (Instr.makeSlice 64 (.int .i64 (n : Int)) (.int .i64 (n : Int))).run Try.prog W = .ok (.slice (some ⟨W.heap.size, 0, none⟩) n n) (W.alloc (.cells ((flags 0 n).map Value.bool).toArray 4)) := by
  have h := info_bool
  cases hi : Try.prog.info? 4 with
  | none => rw [hi] at h; cases h
  | some i =>
    rw [hi] at h
    simp only [Option.map_some, Option.some.injEq, Prod.mk.injEq] at h
    obtain ⟨hz, hs, hb⟩ := h
    have hr := run_make (P := Try.prog) W 64 4 i (.bool false) Try.underlying64 hi hz .i64 .i64 (n : Int) (n : Int) (by omega) (by omega) (by rw [hb]; omega) (by omega)
    rw [hr, hs, Int.toNat_natCast, made_flags]
    rfl
theorem flr_row {W : World} {G n : Nat} {f : List Bool} (h : VRow W G 4 (f.map Value.bool)) (hl : f.length = n) (hn : n ≤ 1000) : FlR W (G + 1) (.slice (some ⟨G, 0, none⟩) n n) f := by
  subst hl
  exact ⟨_, _, rfl, Nat.le_refl _, by unfold maxLen; omega, fun _ => ⟨G, 0, rfl, by omega, h.range (fun j v hv => by rw [Nat.zero_add]; exact hv)⟩⟩
theorem rtsk_one (a b c d e : Int) : [Value.int .i64 a, .int .i64 b, .int .i64 c, .int .i64 d, .int .u64 e].toArray.all (·.oneCell') = true := by simp only [List.all_toArray, List.all_cons, List.all_nil]; rfl
set_option maxRecDepth 100000 in
set_option maxHeartbeats 6400000 in
theorem rlargest_any (B : Nat) (v : Value) (l : List (Int × Int)) (need extra rate tries seed : Int) (w : World) (hX : CrR w B v l) (hB : B ≤ w.heap.size) (hl : l.length ≤ 19) (hc : CoinsOk l) :
    Calls Try.prog 13 #[v, .agg (tkC need extra rate tries seed).toArray] w fun e w' => ∃ p, e = .returned (.tuple #[p, .int .i64 (LargestF need rate l).1]) ∧ PlR w' w'.heap.size p (LargestF need rate l).2 ∧ Below w.heap.size w w' := by
  have hct := fun W => count_any need extra rate tries seed W
  have hord := fun W (hb : Below B w W) => order_any B v l rate W (hX.below hb) (Nat.le_trans hB hb.size) hl hc
  have hhl := handF_length rate l
  have hpos := handF_pos rate l
  obtain ⟨R, hR⟩ : ∃ z, z = LargestF need rate l := ⟨_, rfl⟩
  rw [← hR]
  unfold LargestF selF at hR
  obtain ⟨n1, hn1⟩ : ∃ z, z = lowF need := ⟨_, rfl⟩
  obtain ⟨n2, hn2⟩ : ∃ z, z = lowF extra := ⟨_, rfl⟩
  obtain ⟨n3, hn3⟩ : ∃ z, z = triesF tries := ⟨_, rfl⟩
  obtain ⟨AC, hAC⟩ : ∃ z, z = handF rate l := ⟨_, rfl⟩
  rw [← hn1, ← hn2, ← hn3] at hct
  simp only [← hn1, ← hAC] at hord hR hhl hpos
  have h10 : 0 ≤ n1 := by rw [hn1]; exact lowF_bd need
  have hl19 : AC.length ≤ 19 := by omega
  obtain ⟨A, c, rfl, _, _⟩ := hX.form
  have HB := Lib.hid hB
  have HP := Lib.hid hpos
  clear hX hB hl hc hn1 hn2 hn3 hAC hhl hpos
  have hbA : ∀ O, Below w.heap.size w (w.alloc O) := fun O => (Below.refl _ _).alloc (Nat.le_refl _) _
  have hrt1 := rtsk_one n1 n2 rate n3 seed
  unfold tkC at hct ⊢
  have hvn : VRow (w.alloc (.cells [Value.int .i64 need, .int .i64 extra, .int .i64 rate, .int .i64 tries, .int .u64 seed].toArray 25)) w.heap.size 25 [.int .i64 need, .int .i64 extra, .int .i64 rate, .int .i64 tries, .int .u64 seed] := VRow.new w _ _
  obtain ⟨W1, hW1⟩ : ∃ z, z = w.alloc (.cells [Value.int .i64 need, .int .i64 extra, .int .i64 rate, .int .i64 tries, .int .u64 seed].toArray 25) := ⟨_, rfl⟩
  have hb0 := hbA (.cells [Value.int .i64 need, .int .i64 extra, .int .i64 rate, .int .i64 tries, .int .u64 seed].toArray 25)
  rw [← hW1] at hvn hb0
  have HVN := Lib.hid hvn
  have HB0 := Lib.hid hb0
  have hgw : w.heap.size < W1.heap.size := hvn.lt
  obtain ⟨GT, hGT⟩ : ∃ z, z = w.heap.size := ⟨_, rfl⟩
  go_enter Try.func13, Try.ntmps13
  go_upto_region 1 with fail
  change Code.wp _ _ _ _ (w.alloc (.cells [Value.int .i64 need, .int .i64 extra, .int .i64 rate, .int .i64 tries, .int .u64 seed].toArray 25))
  rw [← hW1, ← hGT]
  rw [← hGT] at hgw
  have HGT := Lib.hid hGT
  have hv2 : VRow W1 GT 25 [.int .i64 need, .int .i64 extra, .int .i64 rate, .int .i64 tries, .int .u64 seed] := by rw [hGT]; exact hvn
  have x2 : W1.cell? ⟨GT, 2, none⟩ = some (.int .i64 rate) := hv2.cell rfl
  have HV2 := Lib.hid hv2
  clear hvn hb0 hW1 hGT hv2
  go_upto_region 2 with (first
    | (refine wpList_load_vrow rfl 25 (.tmp 3) rfl rfl HV2.out Try.underlying25 rtsk5 ?_)
    | (go_at_call 29; refine (hct _).mono ?_; rintro e w2 ⟨rfl, hb2⟩; have HV3 := HV2.out.below hb2 HV2.out.lt)
    | (refine wpList_store_vrow rfl 25 (.tmp 3) (.tmp 13) rfl (us := [.int .i64 n1, .int .i64 n2, .int .i64 rate, .int .i64 n3, .int .u64 seed]) rfl rfl HV3 rtsk5 rfl hrt1 ?_))
  try dsimp only [Act.put]
  obtain ⟨W3, hW3⟩ : ∃ z, z = w2.setRow GT [Value.int .i64 n1, .int .i64 n2, .int .i64 rate, .int .i64 n3, .int .u64 seed].toArray := ⟨_, rfl⟩
  have hv4 : VRow W3 GT 25 [.int .i64 n1, .int .i64 n2, .int .i64 rate, .int .i64 n3, .int .u64 seed] := by rw [hW3]; exact HV3.setRow _
  have b3 : Below w.heap.size w W3 := by rw [hW3]; exact below_setRow (HB0.out.trans (hb2.mono HB0.out.size)) (by have := HGT.out; omega) _
  change Code.wp _ _ _ _ (w2.setRow GT [Value.int .i64 n1, .int .i64 n2, .int .i64 rate, .int .i64 n3, .int .u64 seed].toArray)
  rw [← hW3]
  have z2 : W3.cell? ⟨GT, 2, none⟩ = some (.int .i64 rate) := hv4.cell rfl
  have HO := Lib.hid (hord W3 (b3.mono HB.out))
  have V4 := Lib.hid hv4
  have B3 := Lib.hid b3
  clear hW3 hv4 b3 hb2 HV3 hct hord x2
  by_cases hsum : sumD AC ≤ 2100000000000000
  · have hok : decide (sumD AC ≤ 2100000000000000) = true := decide_eq_true hsum
    rw [hok] at HO
    rw [if_pos hsum] at hR
    have HR := Lib.hid hR
    have HSM := Lib.hid hsum
    clear hR hok hsum
    go_upto_region 5 with (first
      | (go_at_call 30; refine HO.out.mono ?_; rintro e w4 ⟨ua, uw, rfl, hau, hb4⟩))
    obtain ⟨hIa, hIw⟩ := hau HSM.out
    obtain ⟨Aa, ca, rfl, ha1, ha2⟩ := Ints.form hIa
    obtain ⟨Aw, cw, rfl, hw1, hw2⟩ := Ints.form hIw
    have hla : (atI AC).length = AC.length := List.length_map _
    have hlw : (woI AC).length = AC.length := List.length_map _
    rw [hla] at hIa ha1
    rw [hlw] at hIw hw1
    rw [hla, hlw]
    obtain ⟨n, hn⟩ : ∃ z, z = AC.length := ⟨_, rfl⟩
    rw [← hn] at hIa hIw ha1 hw1 hl19 ⊢
    have hmk := make_flags n (by omega) w4
    have hz4 : w4.cell? ⟨GT, 0, none⟩ = some (.int .i64 n1) := (hb4.cell (p := ⟨GT, 0, none⟩) V4.out.lt).trans (V4.out.cell rfl)
    have V5 := Lib.hid (V4.out.below hb4 V4.out.lt)
    have B4 := Lib.hid (B3.out.trans (hb4.mono B3.out.size))
    have HIA := Lib.hid hIa
    have HIW := Lib.hid hIw
    have HN := Lib.hid hn
    clear hau hIa hIw hn hla hlw hb4 z2 HO
    go_wp2_with fail
    obtain ⟨WM, hWM⟩ : ∃ z, z = w4.alloc (.cells ((flags 0 n).map Value.bool).toArray 4) := ⟨_, rfl⟩
    obtain ⟨GC, hGC⟩ : ∃ z, z = w4.heap.size := ⟨_, rfl⟩
    have hF0 : VRow WM GC 4 ((flags 0 n).map Value.bool) := by rw [hWM, hGC]; exact VRow.new _ _ _
    have hbM : Below w4.heap.size w4 WM := by rw [hWM]; exact (Below.refl _ _).alloc (Nat.le_refl _) _
    rw [← hWM, ← hGC]
    have HGC := Lib.hid hGC
    have HF0 := Lib.hid hF0
    have HBM := Lib.hid hbM
    have GTL := Lib.hid V5.out.lt
    clear hWM hGC hF0 hbM hmk
    go_loopw [10, 11] (fun sg si wr => ∃ k : Nat, k ≤ n ∧ si = .int .i64 (k : Int) ∧ sg = .int .i64 (sumD (AC.take k)) ∧ Hid (cutF n1 0 AC = (cutF n1 (sumD (AC.take k)) (AC.drop k)).map (· + k)) ∧ Hid (VRow wr GC 4 ((flags k n).map Value.bool)) ∧ Hid (Below w4.heap.size w4 wr)) (fun _ si _ => n - (intOf si).toNat)
    case atStart => exact ⟨0, Nat.zero_le _, rfl, rfl, Lib.hid (by rw [List.take_zero, List.drop_zero]; show cutF n1 0 AC = (cutF n1 0 AC).map (· + 0); cases cutF n1 0 AC <;> rfl), HF0, HBM⟩
    case round =>
      obtain ⟨k, hk, rfl, rfl, hcut, hF, hb5⟩ := hrel
      obtain ⟨w5, rfl⟩ : ∃ z : World, z = wr := ⟨_, rfl⟩
      have hbd := sum_take AC HP.out k
      have hSM := HSM.out
      obtain ⟨s, hs⟩ : ∃ z, z = sumD (AC.take k) := ⟨_, rfl⟩
      rw [← hs] at hcut hbd ⊢
      have HSK := Lib.hid hs
      have y0 : w5.cell? ⟨GT, 0, none⟩ = some (.int .i64 n1) := (hb5.out.cell (p := ⟨GT, 0, none⟩) GTL.out).trans hz4
      have hIa5 : Ints .i64 w5 w5.heap.size (.slice Aa n ca) (atI AC) := Ints.keepB HIA.out hb5.out
      have hIw5 : Ints .i64 w5 w5.heap.size (.slice Aw n cw) (woI AC) := Ints.keepB HIW.out hb5.out
      have hkl : k ≤ AC.length := by rw [← HN.out]; exact hk
      have hpl := places_any w5.heap.size (.slice Aa n ca) (.slice (some ⟨GC, 0, none⟩) n n) AC (flags k n) w5 hIa5 ((flr_row hF.out (flags_length hk) (by omega)).more hF.out.lt) (by rw [flags_length hk]; exact HN.out.symm) (Nat.le_refl _) (by rw [← HN.out]; exact hl19)
      rw [show flags k n = flags k AC.length by rw [HN.out], pick_flags AC k hkl] at hpl
      have HPL := Lib.hid hpl
      have BF := Lib.hid (B4.out.trans (hb5.out.mono B4.out.size))
      clear hs hIa5 hpl hkl
      by_cases hlt : k < n
      · have dk : decide ((k : Int) < (n : Int)) = true := decide_eq_true (by omega)
        by_cases hsn : s < n1
        · as_aux_lemma =>
          have ds : decide (s < n1) = true := decide_eq_true hsn
          obtain ⟨x, hx⟩ : ∃ x, AC[k]? = some x := ⟨_, List.getElem?_eq_getElem (by rw [← HN.out]; exact hlt)⟩
          obtain ⟨b', o', c', ef, _, hcw⟩ := Ints.at hIw5 (i := k) (x := x.1) (by unfold woI; rw [List.getElem?_map, hx]; rfl)
          injection ef with ef1 ef2 ef3
          subst ef1
          clear ef2 ef3
          have hbl : b' < w4.heap.size := by
            obtain ⟨A', c'', hv, _, _, _, h6⟩ := HIW.out
            obtain ⟨b2, o2, e2, hl2, _⟩ := h6 (by intro h; have := HN.out; unfold woI at h; have h2 := congrArg List.length h; rw [List.length_map] at h2; simp at h2; subst h2; simp at hx)
            injection hv with hv
            rw [e2] at hv
            injection hv with hv
            injection hv with hv
            omega
          have hcw2 : (w5.setCell ⟨GC, k, none⟩ (.bool true)).cell? ⟨b', o' + k, none⟩ = some (.int .i64 x.1) := by
            have ht : Turns (fun q => q = GC) w5 (w5.setCell ⟨GC, k, none⟩ (.bool true)) := Turns.setCell (S := fun q => q = GC) (Turns.refl _ _) (p := ⟨GC, k, none⟩) (fun _ => rfl) _
            rw [ht.cell (p := ⟨b', o' + k, none⟩) (by have := hb5.out.size; show b' < _; omega) (fun e => by have := HGC.out; have e2 : b' = GC := e; omega)]
            exact hcw
          have hn := sum_next AC hx
          have hn2 := sum_take AC HP.out (k + 1)
          rw [← HSK.out] at hn
          rw [hn] at hn2
          have hd := drop_at AC hx
          have HNX := Lib.hid hn
          have HD := Lib.hid hd
          have hF2 : VRow (w5.setCell ⟨GC, k, none⟩ (.bool true)) GC 4 ((flags (k + 1) n).map Value.bool) := by
            have q := hF.out.set k (.bool true)
            rw [← flags_set hlt, List.map_set]
            exact q
          have HF2 := Lib.hid hF2
          have HB2 := Lib.hid (show Below w4.heap.size w4 (w5.setCell ⟨GC, k, none⟩ (.bool true)) from hb5.out.setCell (p := ⟨GC, k, none⟩) (by have := HGC.out; show w4.heap.size ≤ GC; omega) _)
          have ff := hF.out.free k
          obtain ⟨fv, hfv⟩ : ∃ v, ((flags k n).map Value.bool)[k]? = some v := ⟨_, List.getElem?_eq_getElem (by rw [List.length_map, flags_length hk]; exact hlt)⟩
          have cf := hF.out.cell hfv
          clear hn hd hx hF2 hfv hIw5 hF
          go_wp2_with fail
          refine ⟨⟨k + 1, by omega, by first | rfl | exact next (by omega), by rw [HNX.out], Lib.hid ?_, HF2, HB2⟩, by first | (show n - ((k : Int) + 1).toNat < n - (k : Int).toNat; omega) | exact meas hlt (by omega)⟩
          rw [hcut.out, HD.out, cutF_go hsn, HNX.out, Option.map_map]
          congr 1
          funext q
          show q + 1 + k = q + (k + 1)
          omega
        · as_aux_lemma =>
          have ds : decide (s < n1) = false := decide_eq_false hsn
          have hL : largeR n1 AC = (0, AC.take k) := by
            unfold largeR
            rw [hcut.out, cutF_end hsn]
            show (0, AC.take (0 + k)) = _
            rw [Nat.zero_add]
          have hRe : R = (0, placesF (AC.take k)) := by rw [HR.out, hL]; rfl
          subst hRe
          clear HR hL hIw5
          go_wp2_with (first
            | (go_at_call 31; refine HPL.out.mono ?_; rintro e w6 ⟨u, rfl, hu, hb6⟩))
          go_ret2
          exact ⟨u, rfl, hu, BF.out.trans (hb6.mono BF.out.size)⟩
      · have dk : decide ((k : Int) < (n : Int)) = false := decide_eq_false (by omega)
        have hkn : k = AC.length := by rw [← HN.out]; omega
        by_cases hsn : s < n1
        · as_aux_lemma =>
          have ds : decide (s < n1) = true := decide_eq_true hsn
          have hL : largeR n1 AC = (16, []) := by
            unfold largeR
            rw [hcut.out, hkn, List.drop_length, cutF_no hsn]
            rfl
          have hRe : R = (16, []) := by rw [HR.out, hL]; rfl
          subst hRe
          clear HR hL hIw5 hkn
          go_wp2_with fail
          go_ret2
          exact ⟨_, rfl, Ints.nil _ _ _, BF.out⟩
        · as_aux_lemma =>
          have ds : decide (s < n1) = false := decide_eq_false hsn
          have hL : largeR n1 AC = (0, AC.take k) := by
            unfold largeR
            rw [hcut.out, cutF_end hsn]
            show (0, AC.take (0 + k)) = _
            rw [Nat.zero_add]
          have hRe : R = (0, placesF (AC.take k)) := by rw [HR.out, hL]; rfl
          subst hRe
          clear HR hL hIw5 hkn
          go_wp2_with (first
            | (go_at_call 31; refine HPL.out.mono ?_; rintro e w6 ⟨u, rfl, hu, hb6⟩))
          go_ret2
          exact ⟨u, rfl, hu, BF.out.trans (hb6.mono BF.out.size)⟩
  · have hok : decide (sumD AC ≤ 2100000000000000) = false := decide_eq_false hsum
    rw [hok] at HO
    rw [if_neg hsum] at hR
    subst hR
    clear hok hsum
    go_wp2_with (first
      | (go_at_call 30; refine HO.out.mono ?_; rintro e w4 ⟨ua, uw, rfl, hau, hb4⟩))
    go_ret2
    exact ⟨_, rfl, Ints.nil _ _ _, B3.out.trans (hb4.mono B3.out.size)⟩
end Go.Proofs.Ytammeedmccblcaa.Cs
