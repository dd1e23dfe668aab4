/-
  The places of what is selected, whatever way selects. Conditions: at most nineteen coins.
-/
import Derived.Test.YtammeedmccblcaaCsBranch
namespace Go.Proofs.Ytammeedmccblcaa.Cs
open Go.RowKit

def natI (n : Nat) : Int := (n : Int)
def PlR (w : World) (B : Nat) (v : Value) (ps : List Nat) : Prop := Ints .i64 w B v (ps.map natI)
def selF (rate : Int) (l : List (Int × Int)) (way : Int × List Cn) : Int × List Nat := if sumD (handF rate l) ≤ 2100000000000000 then (way.1, if way.1 = 0 then placesF way.2 else []) else (6, [])
theorem hand_add (rate : Int) (l : List (Int × Int)) : addF 0 ((handF rate l).map (·.1)) = if sumD (handF rate l) ≤ 2100000000000000 then (sumD (handF rate l), 0) else (0, 6) := by
  rw [addF_sum (handF_pos rate l) 0 (Int.le_refl _) (by omega), Int.zero_add]
set_option maxRecDepth 100000 in
set_option maxHeartbeats 6400000 in
theorem selected_any (g : FuncId) (eg : ∀ args W, (callFunc g args).run Try.prog W = .ok (.enter g args) W) (way : Int × List Cn) (hwl : way.2.length ≤ 1000) (B : Nat) (v : Value) (l : List (Int × Int)) (need extra rate tries seed : Int) (w : World) (hX : CrR w B v l) (hB : B ≤ w.heap.size) (hl : l.length ≤ 19)
    (hc : ∀ c ∈ l, -9223372036854775808 ≤ c.1 ∧ c.1 ≤ 9223372036854775807 ∧ -9223372036854775808 ≤ c.2 ∧ c.2 ≤ 9223372036854775807)
    (hway : ∀ u W, CnR W W.heap.size u (handF rate l) → sumD (handF rate l) ≤ 2100000000000000 → Calls Try.prog g #[.agg (hnC (tkC (lowF need) (lowF extra) rate (triesF tries) seed) u (sumD (handF rate l))).toArray] W fun e w' => ∃ v, e = .returned (.tuple #[v, .int .i64 way.1]) ∧ CnR w' w'.heap.size v way.2 ∧ Below W.heap.size W w') :
    Calls Try.prog 27 #[v, .agg (tkC need extra rate tries seed).toArray, fnV g] w fun e w' => ∃ p, e = .returned (.tuple #[p, .int .i64 (selF rate l way).1]) ∧ PlR w' w'.heap.size p (selF rate l way).2 ∧ Below w.heap.size w w' := by
  obtain ⟨R, hR⟩ : ∃ z, z = selF rate l way := ⟨_, rfl⟩
  rw [← hR]
  have hdl := fun (W : World) (hb : Below B w W) => deal_any B v l need extra rate tries seed W (hX.below hb) (Nat.le_trans hB hb.size) hl hc
  rw [hand_add rate l] at hdl
  have hz := zero_hand
  have hbA : ∀ O, Below w.heap.size w (w.alloc O) := fun O => (Below.refl _ _).alloc (Nat.le_refl _) _
  unfold selF at hR
  obtain ⟨n1, hn1⟩ : ∃ z, z = lowF need := ⟨_, rfl⟩
  obtain ⟨n2, hn2⟩ : ∃ z, z = lowF extra := ⟨_, rfl⟩
  obtain ⟨n3, hn3⟩ : ∃ z, z = triesF tries := ⟨_, rfl⟩
  obtain ⟨HD, hHD⟩ : ∃ z, z = handF rate l := ⟨_, rfl⟩
  simp only [← hn1, ← hn2, ← hn3, ← hHD] at hdl hway hR
  obtain ⟨A, c, rfl, _, _⟩ := hX.form
  have HB := Lib.hid hB
  clear hX hB hl hc hn1 hn2 hn3 hHD
  unfold fnV
  by_cases hsum : sumD HD ≤ 2100000000000000
  · rw [if_pos hsum] at hdl hR
    obtain ⟨tot, htot⟩ : ∃ z, z = sumD HD := ⟨_, rfl⟩
    simp only [← htot] at hdl hway
    have hway2 := fun u W h => hway u W h (by omega)
    have HW := Lib.hid hway2
    have HDL := Lib.hid hdl
    have HR := Lib.hid hR
    clear hway hway2 hdl hR htot hsum
    unfold tkC hnC at HDL HW
    unfold tkC
    go_enter Try.func27, Try.ntmps27
    go_wp2_with (first
      | (go_at_call 39; refine (HDL.out _ ((hbA _).mono HB.out)).mono ?_; rintro e w1 ⟨u, rfl, hu, hb1⟩; obtain ⟨Au, cu, rfl, hcu1, hcu2⟩ := hu.form))
    have hwa : ∀ O, CnR (w1.alloc O) (w1.alloc O).heap.size (.slice Au HD.length cu) HD := fun O => (hu.below ((Below.refl _ _).alloc (Nat.le_refl _) O)).more (by simp)
    have b1a : ∀ O, Below w.heap.size w (w1.alloc O) := fun O => ((hbA _).trans (hb1.mono (by simp))).alloc (Nat.le_trans (by simp) hb1.size) O
    refine (HW.out _ _ (hwa _)).mono ?_
    rintro e w4 ⟨vc, rfl, hvc, hb4⟩
    have B4 := Lib.hid ((b1a _).trans (hb4.mono (b1a _).size))
    obtain ⟨X, hX⟩ : ∃ z, z = way.2 := ⟨_, rfl⟩
    rw [← hX] at hvc hwl
    obtain ⟨A, c, rfl, _, _⟩ := hvc.form
    obtain ⟨nV, hnV⟩ : ∃ z, z = X.length := ⟨_, rfl⟩
    rw [← hnV] at hvc hwl
    have HXV := Lib.hid hvc
    have HNV := Lib.hid hnV
    have HXW := Lib.hid hX
    clear hwa b1a hu hb1 hb4 hbA hvc hX hz HW HDL hcu1 hcu2
    by_cases he : way.1 = 0
    · have hwl2 := hwl
      have de : decide (way.1 = 0) = true := decide_eq_true he
      have hRe : R = (0, placesF X) := by rw [HR.out, if_pos he, he, ← HXW.out]
      clear HR
      subst hRe
      go_wp2_with fail
      go_loopw [11, 13, 34] (fun s q i wr => ∃ (j : Nat) (u : Value), u = s ∧ j ≤ nV ∧ i = .int .i64 (j : Int) ∧ Hid (wr.ownsRow w4.heap.size 3 1 u j ((X.take j).map fun c => Value.int .i64 (c.2 : Int))) ∧ Hid (Below w4.heap.size w4 wr)) (fun _ _ i _ => nV - (intOf i).toNat)
      case atStart => exact ⟨0, _, rfl, Nat.zero_le _, rfl, Lib.hid (World.ownsRow_nil _ _ _ _), Lib.hid (Below.refl _ _)⟩
      case round =>
        obtain ⟨j, u, hu, hj, rfl, hO, hBW⟩ := hrel
        subst hu
        obtain ⟨w3, rfl⟩ : ∃ z : World, z = wr := ⟨_, rfl⟩
        by_cases hlt : j < nV
        · as_aux_lemma =>
          have dj : decide ((j : Int) < (nV : Int)) = true := decide_eq_true (by omega)
          obtain ⟨x, hx⟩ : ∃ x, X[j]? = some x := ⟨_, List.getElem?_eq_getElem (by rw [← HNV.out]; exact hlt)⟩
          have hXw : CnR w3 w4.heap.size (.slice A nV c) X := by have := HXV.out; exact this.below hBW.out
          obtain ⟨b', o', c', ef, _, _, hbl, hc0, hc1⟩ := hXw.at hx
          injection ef with ef1 ef2 ef3
          subst ef1
          clear ef2 ef3
          have hnx : (X.take (j + 1)).map (fun c => Value.int .i64 (c.2 : Int)) = (X.take j).map (fun c => Value.int .i64 (c.2 : Int)) ++ [Value.int .i64 (x.2 : Int)] := by rw [List.take_add_one, hx, List.map_append]; rfl
          obtain ⟨ZT, hZT⟩ : ∃ z, z = (X.take j).map (fun c => Value.int .i64 (c.2 : Int)) := ⟨_, rfl⟩
          rw [← hZT] at hO hnx
          have HNVT := Lib.hid hnx
          have hl := hwl2
          obtain ⟨Au, cu, hform⟩ := own_form hO.out
          subst hform
          have b7 : Below w3.heap.size w3 ((w3.alloc (.cells #[Value.int .i64 x.1, .int .i64 (x.2 : Int)] 75)).alloc (.cells #[Value.int .i64 (x.2 : Int)] 3)) := ((Below.refl _ _).alloc (Nat.le_refl _) _).alloc (by simp) _
          have O7 := Lib.hid ((hO.out.alloc (.cells #[Value.int .i64 x.1, .int .i64 (x.2 : Int)] 75)).alloc (.cells #[Value.int .i64 (x.2 : Int)] 3))
          have R7 := Lib.hid (show ((w3.alloc (.cells #[Value.int .i64 x.1, .int .i64 (x.2 : Int)] 75)).alloc (.cells #[Value.int .i64 (x.2 : Int)] 3)).rangeAt (w3.heap.size + 1) 0 [Value.int .i64 (x.2 : Int)] by
            have q := one_cell (VRow.new (w3.alloc (.cells #[Value.int .i64 x.1, .int .i64 (x.2 : Int)] 75)) 3 [Value.int .i64 (x.2 : Int)])
            rw [show (w3.alloc (.cells #[Value.int .i64 x.1, .int .i64 (x.2 : Int)] 75)).heap.size = w3.heap.size + 1 by simp] at q
            exact q)
          have B7 := Lib.hid (hBW.out.trans (b7.mono hBW.out.size))
          have G7 := Lib.hid (show w4.heap.size ≤ ((w3.alloc (.cells #[Value.int .i64 x.1, .int .i64 (x.2 : Int)] 75)).alloc (.cells #[Value.int .i64 (x.2 : Int)] 3)).heap.size from B7.out.size)
          have K7 := Lib.hid (show ∀ v ∈ [Value.int .i64 (x.2 : Int)], v.oneCell' = true from fun v hv => by rw [List.mem_singleton.1 hv]; rfl)
          have M7 := Lib.hid (show (j + 1) * 8 ≤ 140737488355328 by omega)
          have N7 := Lib.hid (show j + 1 ≤ maxLen by unfold maxLen; omega)
          clear hx hZT hnx hXw b7 hl hO hBW
          go_upto_region 11 with fail
          go_wp2_with (first
            | (at_builtin; refine wpList_append_row slt_int rfl (.tmp 38) (.tmp 41) rfl w4.heap.size _ _ _ rfl O7.out _ 1 [.int .i64 (x.2 : Int)] rfl rfl R7.out K7.out M7.out N7.out G7.out ?_; intro v1 w8 hown1 hg1 ho1; obtain ⟨A1, c1, rfl⟩ := own_form hown1))
          have hl := hwl2
          refine ⟨⟨j + 1, _, rfl, hlt, by first | rfl | exact next (by omega), Lib.hid ?_, Lib.hid (B7.out.grown hg1 B7.out.size (fun q hq => (O7.out.lt q hq).1))⟩, by first | exact meas hlt (by omega) | (show nV - ((j : Int) + 1).toNat < nV - (j : Int).toNat; omega)⟩
          rw [HNVT.out]
          exact hown1
        · as_aux_lemma =>
          have dj : decide ((j : Int) < (nV : Int)) = false := decide_eq_false (by omega)
          have hjn : j = X.length := by rw [← HNV.out]; omega
          obtain ⟨Au, cu, hform⟩ := own_form hO.out
          subst hform
          have hO2 : w3.ownsRow w4.heap.size 3 1 (.slice Au j cu) (X.map fun c => (c.2 : Int)).length ((X.map fun c => (c.2 : Int)).map (Value.int .i64)) := by
            have q := hO.out
            rw [hjn, List.take_length] at q
            rw [List.length_map, List.map_map, hjn]
            exact q
          have hsrt := sort_any _ _ _ _ w3 hO2 (by rw [List.length_map, ← HNV.out]; omega)
          rw [places_sorted] at hsrt
          have HSR := Lib.hid hsrt
          have HO2 := Lib.hid hO2
          have BB := Lib.hid (B4.out.trans (hBW.out.mono B4.out.size))
          have B4s := Lib.hid B4.out.size
          clear hsrt hO2 hjn hO hBW B4
          go_wp2_with (first
            | (go_at_call 40; refine HSR.out.mono ?_; rintro e w9 ⟨rfl, ho9, hg9⟩))
          go_ret2
          refine ⟨_, rfl, ?_, BB.out.grown hg9 BB.out.size (fun k hk => by have := (HO2.out.lt k hk).1; have := B4s.out; omega)⟩
          refine Ints.of_own (base := w4.heap.size) (e := 3) ?_
          have q := ho9
          rw [List.length_map, ← placesF_length X] at q
          rw [List.length_map]
          exact q
    · as_aux_lemma =>
      have de : decide (way.1 = 0) = false := decide_eq_false he
      have hRe : R = (way.1, []) := by rw [HR.out, if_neg he]
      clear HR
      subst hRe
      go_wp2_with fail
      go_ret2
      exact ⟨.slice none 0 0, rfl, Ints.nil _ _ _, B4.out⟩
  · rw [if_neg hsum] at hdl hR
    have HDL := Lib.hid hdl
    clear hway hdl hsum
    subst hR
    unfold tkC hnC at HDL
    unfold tkC
    go_enter Try.func27, Try.ntmps27
    go_wp2_with (first
      | (go_at_call 39; refine (HDL.out _ ((hbA _).mono HB.out)).mono ?_; rintro e w1 ⟨u, rfl, hu, hb1⟩; obtain ⟨Au, cu, rfl, hcu1, hcu2⟩ := hu.form))
    go_ret2
    exact ⟨.slice none 0 0, rfl, Ints.nil _ _ _, ((hbA _).trans (hb1.mono (by simp))).alloc (Nat.le_trans (by simp) hb1.size) _⟩
theorem largest_len (need : Int) (H : List Cn) : (largeR need H).2.length ≤ H.length := by
  unfold largeR
  split
  · exact Nat.zero_le _
  · rw [List.length_take]; omega
theorem stepF_len (need extra : Int) : ∀ (l : List Cn) (t : Nat) (s r : Int), (stepF need extra l t s r).2.1.length ≤ l.length
  | [], t, s, r => by
    unfold stepF
    split <;> exact Nat.le_refl _
  | c :: l, t, s, r => by
    unfold stepF
    split
    · exact Nat.zero_le _
    · split
      · exact Nat.zero_le _
      · split
        · exact Nat.zero_le _
        · have h1 := stepF_len need extra l (t - 1) (s + c.1) (r - c.1)
          split
          · next p t' h =>
            rw [h] at h1
            exact Nat.succ_le_succ h1
          · next p t' h =>
            exact Nat.le_trans (stepF_len need extra l t' s (r - c.1)) (Nat.le_succ _)
theorem branch_len (need extra : Int) (t : Nat) (H : List Cn) (tot : Int) : (branchR need extra t H tot).2.length ≤ H.length := by
  unfold branchR
  split
  · exact stepF_len _ _ _ _ _ _
  · exact Nat.zero_le _
theorem low_max {n : Int} (h : n ≤ 9223372036854775807) : lowF n ≤ 9223372036854775807 := by unfold lowF; split <;> omega
def LargestF (need rate : Int) (l : List (Int × Int)) : Int × List Nat := selF rate l (largeR (lowF need) (handF rate l))
def BranchF (need extra rate tries : Int) (l : List (Int × Int)) : Int × List Nat := selF rate l (branchR (lowF need) (lowF extra) (triesF tries).toNat (handF rate l) (sumD (handF rate l)))
def CoinsOk (l : List (Int × Int)) : Prop := ∀ c ∈ l, -9223372036854775808 ≤ c.1 ∧ c.1 ≤ 9223372036854775807 ∧ -9223372036854775808 ≤ c.2 ∧ c.2 ≤ 9223372036854775807
set_option maxRecDepth 100000 in
set_option maxHeartbeats 1600000 in
theorem Largest_any (B : Nat) (v : Value) (l : List (Int × Int)) (need extra rate tries seed : Int) (w : World) (hX : CrR w B v l) (hB : B ≤ w.heap.size) (hl : l.length ≤ 19) (hc : CoinsOk l) :
    Calls Try.prog 12 #[v, .agg (tkC need extra rate tries seed).toArray] w fun e w' => ∃ p, e = .returned (.tuple #[p, .int .i64 (LargestF need rate l).1]) ∧ PlR w' w'.heap.size p (LargestF need rate l).2 ∧ Below w.heap.size w w' := by
  have hh := handF_length rate l
  have hsel := fun W (hb : Below B w W) => selected_any 28 (enters_of Try.func28 (by kernel_rfl) rfl) (largeR (lowF need) (handF rate l)) (Nat.le_trans (largest_len _ _) (by omega)) B v l need extra rate tries seed W (hX.below hb) (Nat.le_trans hB hb.size) hl hc (fun u W hu hs => largest_any _ _ _ _ _ _ _ _ u W hu (Nat.le_refl _) (handF_pos rate l) hs (by omega))
  have hbA : ∀ O, Below w.heap.size w (w.alloc O) := fun O => (Below.refl _ _).alloc (Nat.le_refl _) _
  unfold LargestF
  obtain ⟨R, hR⟩ : ∃ z, z = selF rate l (largeR (lowF need) (handF rate l)) := ⟨_, rfl⟩
  simp only [← hR] at hsel ⊢
  obtain ⟨A, c, rfl, _, _⟩ := hX.form
  have HS := Lib.hid hsel
  have HB := Lib.hid hB
  clear hsel hX hB hl hc hh hR
  unfold fnV tkC at HS
  unfold tkC
  go_enter Try.func12, Try.ntmps12
  go_wp2_with (first
    | (go_at_call 27; refine (HS.out _ ((hbA _).mono HB.out)).mono ?_; rintro e w1 ⟨p, rfl, hp, hb1⟩))
  go_ret2
  exact ⟨p, rfl, hp, (hbA _).trans (hb1.mono (by simp))⟩
set_option maxRecDepth 100000 in
set_option maxHeartbeats 1600000 in
theorem Branch_any (B : Nat) (v : Value) (l : List (Int × Int)) (need extra rate tries seed : Int) (w : World) (hX : CrR w B v l) (hB : B ≤ w.heap.size) (hl : l.length ≤ 19) (hc : CoinsOk l) (hn : need ≤ 9223372036854775807) :
    Calls Try.prog 16 #[v, .agg (tkC need extra rate tries seed).toArray] w fun e w' => ∃ p, e = .returned (.tuple #[p, .int .i64 (BranchF need extra rate tries l).1]) ∧ PlR w' w'.heap.size p (BranchF need extra rate tries l).2 ∧ Below w.heap.size w w' := by
  have hh := handF_length rate l
  have ht := triesF_bd tries
  have htn : ((triesF tries).toNat : Int) = triesF tries := Int.toNat_of_nonneg ht.1
  have hsel := fun W (hb : Below B w W) => selected_any 32 (enters_of Try.func32 (by kernel_rfl) rfl) (branchR (lowF need) (lowF extra) (triesF tries).toNat (handF rate l) (sumD (handF rate l))) (Nat.le_trans (branch_len _ _ _ _ _) (by omega)) B v l need extra rate tries seed W (hX.below hb) (Nat.le_trans hB hb.size) hl hc (fun u W hu hs => by
    have q := branch_any W.heap.size (lowF need) (lowF extra) rate seed (sumD (handF rate l)) (triesF tries).toNat (handF rate l) u W hu (Nat.le_refl _) (handF_pos rate l) hs (by omega) (lowF_bd need) (low_max hn) (by omega) rfl
    rw [htn] at q
    exact q)
  have hbA : ∀ O, Below w.heap.size w (w.alloc O) := fun O => (Below.refl _ _).alloc (Nat.le_refl _) _
  unfold BranchF
  obtain ⟨R, hR⟩ : ∃ z, z = selF rate l (branchR (lowF need) (lowF extra) (triesF tries).toNat (handF rate l) (sumD (handF rate l))) := ⟨_, rfl⟩
  simp only [← hR] at hsel ⊢
  obtain ⟨A, c, rfl, _, _⟩ := hX.form
  have HS := Lib.hid hsel
  have HB := Lib.hid hB
  clear hsel hX hB hl hc hh hR htn ht
  unfold fnV tkC at HS
  unfold tkC
  go_enter Try.func16, Try.ntmps16
  go_wp2_with (first
    | (go_at_call 27; refine (HS.out _ ((hbA _).mono HB.out)).mono ?_; rintro e w1 ⟨p, rfl, hp, hb1⟩))
  go_ret2
  exact ⟨p, rfl, hp, (hbA _).trans (hb1.mono (by simp))⟩
end Go.Proofs.Ytammeedmccblcaa.Cs
