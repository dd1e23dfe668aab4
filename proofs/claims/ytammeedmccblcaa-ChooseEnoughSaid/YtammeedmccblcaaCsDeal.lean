/-
  A hand is dealt: its coins in their order, and their total. Conditions: at most nineteen coins.
-/
import Derived.Test.YtammeedmccblcaaCsStab
import Derived.Test.YtammeedmccblcaaAmtAdd
namespace Go.Proofs.Ytammeedmccblcaa.Cs
open Go.RowKit

theorem slt_i64 : SlT 49 2 1 8 := slt_of (z := .int .i64 0) Try.underlying49 (by kernel_rfl) rfl (by decide)
theorem slt_int : SlT 38 3 1 8 := slt_of (z := .int .i64 0) Try.underlying38 (by kernel_rfl) rfl (by decide)
theorem one_cell {w : World} {g : Nat} {t : TypeId} {v : Value} (h : VRow w g t [v]) : w.rangeAt g 0 [v] := fun j u hu => by rw [Nat.zero_add]; exact h.cell hu
theorem meas {n j : Nat} (h : j < n) (hn : n ≤ 100000) : n - (intOf (.int .i64 (wrap64 ((j : Int) + 1)))).toNat < n - (intOf (.int .i64 (j : Int))).toNat := by
  rw [wrap_small2 (by omega) (by omega)]
  show n - ((j : Int) + 1).toNat < n - (j : Int).toNat
  omega
theorem next {j : Nat} (h : j ≤ 100000) : Value.int .i64 (wrap64 ((j : Int) + 1)) = .int .i64 ((j + 1 : Nat) : Int) := by
  rw [wrap_small2 (by omega) (by omega)]
  rfl
set_option maxRecDepth 100000 in
set_option maxHeartbeats 3200000 in
theorem total_any (B : Nat) (v : Value) (X : List Cn) (w : World) (hX : CnR w B v X) (hB : B ≤ w.heap.size) (hl : X.length ≤ 1000) :
    Calls Try.prog 43 #[v] w fun e w' => e = .returned (.tuple #[.int .i64 (addF 0 (X.map (·.1))).1, .int .i64 (addF 0 (X.map (·.1))).2]) ∧ Below w.heap.size w w' := by
  obtain ⟨A, c, rfl, _, _⟩ := hX.form
  obtain ⟨nX, hnX⟩ : ∃ z, z = X.length := ⟨_, rfl⟩
  rw [← hnX] at hX hl ⊢
  obtain ⟨S, hS⟩ : ∃ S, S = addF 0 (X.map (·.1)) := ⟨_, rfl⟩
  rw [← hS]
  have HS := Lib.hid hS
  have HX := Lib.hid hX
  have HB := Lib.hid hB
  have HNX := Lib.hid hnX
  have HL := Lib.hid hl
  clear hS hX hB hnX hl
  go_enter Try.func43, Try.ntmps43
  go_wp2
  go_loopw [4, 6, 9] (fun s q i wr => ∃ (j : Nat) (u : Value), u = s ∧ j ≤ nX ∧ i = .int .i64 (j : Int) ∧ Hid (wr.ownsRow w.heap.size 2 1 u j ((X.take j).map fun c => Value.int .i64 c.1)) ∧ Hid (Below w.heap.size w wr)) (fun _ _ i _ => nX - (intOf i).toNat)
  case atStart => exact ⟨0, _, rfl, Nat.zero_le _, rfl, Lib.hid (World.ownsRow_nil _ _ _ _), Lib.hid (Below.refl _ _)⟩
  case round =>
    obtain ⟨j, u, hu, hj, rfl, hO, hBW⟩ := hrel
    subst hu
    obtain ⟨w3, rfl⟩ : ∃ z : World, z = wr := ⟨_, rfl⟩
    by_cases hlt : j < nX
    · as_aux_lemma =>
      have dj : decide ((j : Int) < (nX : Int)) = true := decide_eq_true (by omega)
      obtain ⟨x, hx⟩ : ∃ x, X[j]? = some x := ⟨_, List.getElem?_eq_getElem (by rw [← HNX.out]; exact hlt)⟩
      have hXw : CnR w3 B (.slice A nX c) X := by have := HX.out; exact this.below (hBW.out.mono HB.out)
      obtain ⟨b', o', c', ef, _, _, hbl, hc0, hc1⟩ := hXw.at hx
      injection ef with ef1 ef2 ef3
      subst ef1
      clear ef2 ef3
      have hnx : (X.take (j + 1)).map (fun c => Value.int .i64 c.1) = (X.take j).map (fun c => Value.int .i64 c.1) ++ [Value.int .i64 x.1] := by rw [List.take_add_one, hx, List.map_append]; rfl
      obtain ⟨ZT, hZT⟩ : ∃ z, z = (X.take j).map (fun c => Value.int .i64 c.1) := ⟨_, rfl⟩
      rw [← hZT] at hO hnx
      have HNXT := Lib.hid hnx
      have hl := HL.out
      obtain ⟨Au, cu, hform⟩ := own_form hO.out
      subst hform
      have b7 : Below w3.heap.size w3 ((w3.alloc (.cells #[Value.int .i64 x.1, .int .i64 (x.2 : Int)] 75)).alloc (.cells #[Value.int .i64 x.1] 2)) := ((Below.refl _ _).alloc (Nat.le_refl _) _).alloc (by simp) _
      have O7 := Lib.hid ((hO.out.alloc (.cells #[Value.int .i64 x.1, .int .i64 (x.2 : Int)] 75)).alloc (.cells #[Value.int .i64 x.1] 2))
      have R7 := Lib.hid (show ((w3.alloc (.cells #[Value.int .i64 x.1, .int .i64 (x.2 : Int)] 75)).alloc (.cells #[Value.int .i64 x.1] 2)).rangeAt (w3.heap.size + 1) 0 [Value.int .i64 x.1] by
        have q := one_cell (VRow.new (w3.alloc (.cells #[Value.int .i64 x.1, .int .i64 (x.2 : Int)] 75)) 2 [Value.int .i64 x.1])
        rw [show (w3.alloc (.cells #[Value.int .i64 x.1, .int .i64 (x.2 : Int)] 75)).heap.size = w3.heap.size + 1 by simp] at q
        exact q)
      have B7 := Lib.hid (hBW.out.trans (b7.mono hBW.out.size))
      have G7 := Lib.hid (show w.heap.size ≤ ((w3.alloc (.cells #[Value.int .i64 x.1, .int .i64 (x.2 : Int)] 75)).alloc (.cells #[Value.int .i64 x.1] 2)).heap.size from B7.out.size)
      have K7 := Lib.hid (show ∀ v ∈ [Value.int .i64 x.1], v.oneCell' = true from fun v hv => by rw [List.mem_singleton.1 hv]; rfl)
      have M7 := Lib.hid (show (j + 1) * 8 ≤ 140737488355328 by omega)
      have N7 := Lib.hid (show j + 1 ≤ maxLen by unfold maxLen; omega)
      clear hx hZT hnx hXw b7 hl hO hBW
      go_upto_region 5 with fail
      go_wp2_with (first
        | (at_builtin; refine wpList_append_row slt_i64 rfl (.tmp 13) (.tmp 16) rfl w.heap.size _ _ _ rfl O7.out _ 1 [.int .i64 x.1] rfl rfl R7.out K7.out M7.out N7.out G7.out ?_; intro v1 w8 hown1 hg1 ho1; obtain ⟨A1, c1, rfl⟩ := own_form hown1))
      have hl := HL.out
      refine ⟨⟨j + 1, _, rfl, hlt, next (by omega), Lib.hid ?_, Lib.hid (B7.out.grown hg1 B7.out.size (fun q hq => (O7.out.lt q hq).1))⟩, meas hlt (by omega)⟩
      rw [HNXT.out]
      exact hown1
    · as_aux_lemma =>
      have dj : decide ((j : Int) < (nX : Int)) = false := decide_eq_false (by omega)
      have hjn : j = X.length := by rw [← HNX.out]; omega
      obtain ⟨Au, cu, hform⟩ := own_form hO.out
      subst hform
      have hI : Ints .i64 w3 w3.heap.size (.slice Au j cu) (X.map (·.1)) := by
        have q := hO.out
        rw [hjn, List.take_length] at q
        refine Ints.of_own (base := w.heap.size) (e := 2) ?_
        rw [List.length_map, List.map_map, hjn]
        exact q
      have hadd := add_any _ _ _ w3 hI
      rw [← HS.out] at hadd
      have HAD := Lib.hid hadd
      clear hI hadd hjn hO
      go_wp2_with (first
        | (go_at_call 55; refine HAD.out.mono ?_; rintro e w' ⟨rfl, rfl⟩))
      go_ret2
      exact ⟨rfl, hBW.out⟩
theorem results_row_tmp {P : Program} {fn : Func} {p u : Tmp} {ty : TypeId} (h : fn.results = #[.cell p ty, .tmp u]) (tmps : Array Value) (w : World) (g : Nat) (t : TypeId) (cs : Array Value) (fr : Nat × Nat) (d : TypeDesc) (x : Value)
    (hp : tmps.getD p undef = .pointer (some ⟨g, 0, none⟩)) (hx : tmps.getD u undef = x) (hg : w.heap[g]? = some (.cells cs t fr))
    (hu : P.underlying ty = some d) (hd : (match d with | .struct _ | .array _ _ => true | _ => false) = true) (hi : (P.info? ty).map (·.size) = some cs.size) :
    (results fn tmps).run P w = .ok (.tuple #[.agg cs, x]) w := by
  have hp' : tmps[p]?.getD undef = .pointer (some ⟨g, 0, none⟩) := by simpa using hp
  have hx' : tmps[u]?.getD undef = x := by simpa using hx
  simp [results, h, hp', hx', asAddr, run_loadVar_row w g t ty cs fr d hg hu hd hi]
/-- A hand's seven cells. -/
def hnC (tk : List Value) (u : Value) (tot : Int) : List Value := tk ++ [u, .int .i64 tot]
theorem zero_hand (W : World) : (zeroValue 60).run Try.prog W = .ok (.agg #[.int .i64 0, .int .i64 0, .int .i64 0, .int .i64 0, .int .u64 0, .slice none 0 0, .int .i64 0]) W := by kernel_rfl
theorem size_hand : (Try.prog.info? 60).map (·.size) = some 7 := by kernel_rfl
theorem zero_Coin (W : World) : (zeroValue 35).run Try.prog W = .ok (.agg #[.int .i64 0, .int .i64 0]) W := by kernel_rfl
theorem build_hand (a b c d e : Int) (W : World) : (Instr.build 60 #[(0, .agg #[.int .i64 a, .int .i64 b, .int .i64 c, .int .i64 d, .int .u64 e])]).run Try.prog W = .ok (.agg #[.int .i64 a, .int .i64 b, .int .i64 c, .int .i64 d, .int .u64 e, .slice none 0 0, .int .i64 0]) W := by kernel_rfl
set_option maxRecDepth 100000 in
set_option maxHeartbeats 6400000 in
theorem deal_any (B : Nat) (v : Value) (l : List (Int × Int)) (need extra rate tries seed : Int) (w : World) (hX : CrR w B v l) (hB : B ≤ w.heap.size) (hl : l.length ≤ 19)
    (hc : ∀ c ∈ l, -9223372036854775808 ≤ c.1 ∧ c.1 ≤ 9223372036854775807 ∧ -9223372036854775808 ≤ c.2 ∧ c.2 ≤ 9223372036854775807) :
    Calls Try.prog 39 #[v, .agg (tkC need extra rate tries seed).toArray] w fun e w' => ∃ u,
      e = .returned (.tuple #[.agg (hnC (tkC (lowF need) (lowF extra) rate (triesF tries) seed) u (addF 0 ((handF rate l).map (·.1))).1).toArray, .int .i64 (addF 0 ((handF rate l).map (·.1))).2]) ∧ CnR w' w'.heap.size u (handF rate l) ∧ Below w.heap.size w w' := by
  have hlim := fun W => limited_any need extra rate tries seed W
  have hz := zero_hand
  have hzc := zero_Coin
  have hb := build_hand
  obtain ⟨n1, hn1⟩ : ∃ z, z = lowF need := ⟨_, rfl⟩
  obtain ⟨n2, hn2⟩ : ∃ z, z = lowF extra := ⟨_, rfl⟩
  obtain ⟨n3, hn3⟩ : ∃ z, z = triesF tries := ⟨_, rfl⟩
  rw [← hn1, ← hn2, ← hn3] at hlim ⊢
  obtain ⟨HD, hHD⟩ : ∃ z, z = handF rate l := ⟨_, rfl⟩
  rw [← hHD]
  obtain ⟨S, hS⟩ : ∃ z, z = addF 0 (HD.map (·.1)) := ⟨_, rfl⟩
  rw [← hS]
  have HHD := Lib.hid hHD
  have HS := Lib.hid hS
  clear hHD hS
  obtain ⟨A, c, rfl, _, _⟩ := hX.form
  obtain ⟨nX, hnX⟩ : ∃ z, z = l.length := ⟨_, rfl⟩
  rw [← hnX] at hX hl ⊢
  have HX := Lib.hid hX
  have HB := Lib.hid hB
  have HNX := Lib.hid hnX
  have HL := Lib.hid hl
  have HC := Lib.hid hc
  clear hX hB hnX hl hc hn1 hn2 hn3
  unfold tkC at hlim ⊢
  unfold hnC
  go_enter Try.func39, Try.ntmps39
  go_wp2_with (first
    | (go_at_call 45; refine (hlim _).mono ?_; rintro e w1 ⟨rfl, hb1⟩))
  obtain ⟨ZH, hZH⟩ : ∃ z, z = [Value.int .i64 0, .int .i64 0, .int .i64 0, .int .i64 0, .int .u64 0, .slice none 0 0, .int .i64 0] := ⟨_, rfl⟩
  obtain ⟨TK, hTK⟩ : ∃ z, z = [Value.int .i64 need, .int .i64 extra, .int .i64 rate, .int .i64 tries, .int .u64 seed] := ⟨_, rfl⟩
  obtain ⟨wL, hwL⟩ : ∃ z, z = w1.alloc (.cells #[.int .i64 n1, .int .i64 n2, .int .i64 rate, .int .i64 n3, .int .u64 seed, .slice none 0 0, .int .i64 0] 60) := ⟨_, rfl⟩
  have hs1 : w.heap.size + 2 ≤ w1.heap.size := by have := hb1.size; simp at this; omega
  have hbL : Below w.heap.size w wL := by
    rw [hwL]
    exact ((((Below.refl _ w).alloc (Nat.le_refl _) _).alloc (by simp) _).trans (hb1.mono (by simp; omega))).alloc (by omega) _
  have hT : VRow wL w.heap.size 30 TK := by
    rw [hwL, hTK]
    refine VRow.below ?_ ((Below.refl w1.heap.size w1).alloc (Nat.le_refl _) _) (by omega)
    refine VRow.below ?_ hb1 (by simp; omega)
    exact (VRow.new w 30 _).below ((Below.refl _ _).alloc (Nat.le_refl _) _) (by simp)
  have hR : VRow wL (w.heap.size + 1) 60 ZH := by
    rw [hwL, hZH]
    refine VRow.below ?_ ((Below.refl w1.heap.size w1).alloc (Nat.le_refl _) _) (by omega)
    refine VRow.below ?_ hb1 (by simp)
    have q := VRow.new (w.alloc (.cells #[.int .i64 need, .int .i64 extra, .int .i64 rate, .int .i64 tries, .int .u64 seed] 30)) 60 [Value.int .i64 0, .int .i64 0, .int .i64 0, .int .i64 0, .int .u64 0, .slice none 0 0, .int .i64 0]
    rw [show (w.alloc (.cells #[.int .i64 need, .int .i64 extra, .int .i64 rate, .int .i64 tries, .int .u64 seed] 30)).heap.size = w.heap.size + 1 by simp] at q
    exact q
  obtain ⟨G6, hG6⟩ : ∃ z, z = w1.heap.size := ⟨_, rfl⟩
  have hH : VRow wL G6 60 [Value.int .i64 n1, .int .i64 n2, .int .i64 rate, .int .i64 n3, .int .u64 seed, .slice none 0 0, .int .i64 0] := by
    rw [hwL, hG6]
    exact VRow.new w1 _ _
  rw [← hwL, ← hG6]
  obtain ⟨GT, hGT⟩ : ∃ z, z = w.heap.size := ⟨_, rfl⟩
  obtain ⟨GR, hGR⟩ : ∃ z, z = w.heap.size + 1 := ⟨_, rfl⟩
  rw [← hGT] at hT
  rw [← hGR] at hR
  rw [← hGR, ← hGT]
  have GLT := Lib.hid (show GT = w.heap.size ∧ GR = w.heap.size + 1 ∧ GR < G6 by omega)
  have HBL := Lib.hid hbL
  have HT := Lib.hid hT
  have HR := Lib.hid hR
  have HH := Lib.hid hH
  have HTK := Lib.hid hTK
  have HZH := Lib.hid hZH
  clear hlim hb1 hZH hTK hwL hs1 hbL hT hR hG6 hH hGT hGR hz hb
  go_loopw [7, 8, 9, 16] (fun a b d i wr => ∃ (j : Nat) (u : Value), j ≤ nX ∧ i = .int .i64 (j : Int) ∧ Hid (VRow wr G6 60 [Value.int .i64 n1, .int .i64 n2, .int .i64 rate, .int .i64 n3, .int .u64 seed, u, .int .i64 0]) ∧ Hid (wr.ownsRow (G6 + 1) 75 2 u (dealF rate 0 (l.take j)).length ((dealF rate 0 (l.take j)).flatMap cnC)) ∧ Hid (VRow wr GT 30 TK) ∧ Hid (VRow wr GR 60 ZH) ∧ Hid (Below w.heap.size w wr)) (fun _ _ _ i _ => nX - (intOf i).toNat)
  case atStart => exact ⟨0, _, Nat.zero_le _, rfl, HH, Lib.hid (World.ownsRow_nil _ _ _ _), HT, HR, HBL⟩
  case round =>
    obtain ⟨j, u, hj, rfl, hH, hO, hT, hR, hBW⟩ := hrel
    obtain ⟨w3, rfl⟩ : ∃ z : World, z = wr := ⟨_, rfl⟩
    have hl := HL.out
    by_cases hlt : j < nX
    · as_aux_lemma =>
      have dj : decide ((j : Int) < (nX : Int)) = true := decide_eq_true (by omega)
      obtain ⟨x, hx⟩ : ∃ x, l[j]? = some x := ⟨_, List.getElem?_eq_getElem (by rw [← HNX.out]; exact hlt)⟩
      have hXw : CrR w3 B (.slice A nX c) l := by have := HX.out; exact this.below (hBW.out.mono HB.out)
      obtain ⟨b', o', c', ef, _, _, hbl, hc0, hc1⟩ := hXw.at hx
      injection ef with ef1 ef2 ef3
      subst ef1
      clear ef2 ef3
      have hcx := HC.out x (List.mem_of_getElem? hx)
      have hwo := fun W => worth_any rate x.1 x.2 W hcx.1 hcx.2.1 hcx.2.2.1 hcx.2.2.2
      have hdt := dealF_take rate l hx
      unfold dealt1 at hdt
      obtain ⟨wo, hwo1⟩ : ∃ z, z = worthF rate x.1 x.2 := ⟨_, rfl⟩
      rw [← hwo1] at hdt
      simp only [← hwo1] at hwo
      have HDT := Lib.hid hdt
      clear hdt hwo1
      have hrt : w3.cell? ⟨GT, 2, none⟩ = some (.int .i64 rate) := hT.out.cell (by rw [HTK.out]; rfl)
      clear hx hXw hcx
      have hsz2 : GT < w3.heap.size := hT.out.lt
      have hsz3 : GR < w3.heap.size := hR.out.lt
      have hsz4 : G6 < w3.heap.size := hH.out.lt
      go_upto_region 6 with (first
        | (go_at_call 10; refine (hwo _).mono ?_; rintro e w4 ⟨rfl, hb4⟩))
      have b34 : Below w3.heap.size w3 w4 := ((Below.refl _ _).alloc (Nat.le_refl _) _).trans (hb4.mono (by simp))
      have hH4 := hH.out.below b34 hsz4
      have hO4 := own_below hO.out b34
      have T4 := Lib.hid (hT.out.below b34 hsz2)
      have R4 := Lib.hid (hR.out.below b34 hsz3)
      have B4 := Lib.hid (hBW.out.trans (b34.mono hBW.out.size))
      clear hb4 b34 hH hO hT hR hBW hc0 hc1 hrt hsz2 hsz3 hsz4
      by_cases hpos : 0 < wo
      · have dw : decide ((0 : Int) < wo) = true := decide_eq_true hpos
        have hdt := HDT.out
        rw [if_pos hpos] at hdt
        have hDl : (dealF rate 0 (l.take j)).length ≤ j := Nat.le_trans (dealF_length rate _ 0) (by rw [List.length_take]; omega)
        obtain ⟨DL, hDL⟩ : ∃ z, z = dealF rate 0 (l.take j) := ⟨_, rfl⟩
        rw [← hDL] at hdt hDl hO4
        obtain ⟨nD, hnD⟩ : ∃ z, z = DL.length := ⟨_, rfl⟩
        rw [← hnD] at hDl hO4
        obtain ⟨Au, cu, hform⟩ := own_form hO4
        subst hform
        have c5 : w4.cell? ⟨G6, 5, none⟩ = some (.slice Au nD cu) := hH4.cell rfl
        have H5 := Lib.hid (VRow.below hH4 ((Below.refl w4.heap.size w4).alloc (Nat.le_refl _) (.cells #[.int .i64 wo, .int .i64 (j : Int)] 75)) hH4.lt)
        have O5 := Lib.hid (hO4.alloc (.cells #[.int .i64 wo, .int .i64 (j : Int)] 75))
        have R5 := Lib.hid (show (w4.alloc (.cells #[.int .i64 wo, .int .i64 (j : Int)] 75)).rangeAt w4.heap.size 0 [.int .i64 wo, .int .i64 (j : Int)] from (VRow.new w4 75 [.int .i64 wo, .int .i64 (j : Int)]).range (fun q v hv => by rw [Nat.zero_add]; exact hv))
        have K5 := Lib.hid (show ∀ v ∈ [Value.int .i64 wo, .int .i64 (j : Int)], v.oneCell' = true from fun v hv => by simp only [List.mem_cons, List.not_mem_nil, or_false] at hv; rcases hv with rfl | rfl <;> rfl)
        have M5 := Lib.hid (show (nD + 1) * 16 ≤ 140737488355328 by omega)
        have N5 := Lib.hid (show nD + 1 ≤ maxLen by unfold maxLen; omega)
        have G5 := Lib.hid (show G6 + 1 ≤ (w4.alloc (.cells #[.int .i64 wo, .int .i64 (j : Int)] 75)).heap.size by have := hH4.lt; simp; omega)
        have hOC := one_coin wo (j : Int)
        have HDT2 := Lib.hid hdt
        have HND := Lib.hid hnD
        have HDL := Lib.hid hDL
        clear hdt hDl hnD hDL hO4 hH4 hpos
        go_wp2_with (first
          | (refine wpList_buildSlice rfl 58 1 _ rfl _ _ (by simp only [List.map_toArray, List.map_cons, List.map_nil]; exact hOC _) ?_)
          | (at_builtin; refine wpList_append_row slt_coin rfl (.tmp 28) (.tmp 32) rfl (G6 + 1) _ _ _ rfl O5.out _ 1 [.int .i64 wo, .int .i64 (j : Int)] rfl rfl R5.out K5.out M5.out N5.out G5.out ?_; intro v1 w8 hown1 hg1 ho1; obtain ⟨A1, c1, rfl⟩ := own_form hown1; have H8 := vrow_grown H5.out O5.out hg1 (Nat.lt_succ_self _); have f8 := H8.free 5; have c8 := H8.cell (i := 5) rfl))
        have hl := HL.out
        have gl := GLT.out
        have tt : Turns (fun q => q = G6) w8 (w8.setCell ⟨G6, 5, none⟩ (.slice A1 (nD + 1) c1)) := Turns.setCell (S := fun q => q = G6) (Turns.refl _ _) (p := ⟨G6, 5, none⟩) (fun _ => rfl) _
        have o8 := own_turns hown1 tt (fun k hk q => by have := (hown1.lt k hk).1; omega)
        have b5 : Below w4.heap.size w4 (w4.alloc (.cells #[.int .i64 wo, .int .i64 (j : Int)] 75)) := (Below.refl _ _).alloc (Nat.le_refl _) _
        have t5 := vrow_grown (T4.out.below b5 T4.out.lt) O5.out hg1 (by omega)
        have r5 := vrow_grown (R4.out.below b5 R4.out.lt) O5.out hg1 (by omega)
        have b8 : Below w.heap.size w w8 := (B4.out.trans (b5.mono B4.out.size)).grown hg1 (Nat.le_trans B4.out.size b5.size) (fun k hk => by have := (O5.out.lt k hk).1; omega)
        refine ⟨⟨j + 1, _, hlt, by first | rfl | exact next (by omega), Lib.hid (H8.set 5 _), Lib.hid ?_, Lib.hid (t5.turns tt (by omega)), Lib.hid (r5.turns tt (by omega)), Lib.hid (b8.setCell (p := ⟨G6, 5, none⟩) (show w.heap.size ≤ G6 by omega) _)⟩, by first | exact meas hlt (by omega) | (show nX - ((j : Int) + 1).toNat < nX - (j : Int).toNat; omega)⟩
        rw [HDT2.out, List.length_append, List.flatMap_append, ← HND.out]
        exact o8
      · have dw : decide ((0 : Int) < wo) = false := decide_eq_false hpos
        have hdt := HDT.out
        rw [if_neg hpos, List.append_nil] at hdt
        have HDT2 := Lib.hid hdt
        have H4 := Lib.hid hH4
        have O4 := Lib.hid hO4
        clear hdt hH4 hO4
        go_wp2_with fail
        have hl := HL.out
        refine ⟨⟨j + 1, u, hlt, by first | rfl | exact next (by omega), H4, Lib.hid ?_, T4, R4, B4⟩, by first | exact meas hlt (by omega) | (show nX - ((j : Int) + 1).toNat < nX - (j : Int).toNat; omega)⟩
        rw [HDT2.out]
        exact O4.out
    · as_aux_lemma =>
      have dj : decide ((j : Int) < (nX : Int)) = false := decide_eq_false (by omega)
      have hjn : j = l.length := by rw [← HNX.out]; omega
      have hO2 := hO.out
      rw [hjn, List.take_length] at hO2
      have hst := stable_any _ _ _ (dealF rate 0 l) w3 hO2 (Nat.le_trans (dealF_length rate l 0) (by rw [← HNX.out]; exact hl))
      have hsl := (sortD_perm (dealF rate 0 l)).length_eq
      rw [← hsl] at hst
      change Calls _ _ _ _ (fun e' w' => e' = .returned (.tuple #[]) ∧ w'.ownsRow (G6 + 1) 75 2 u (handF rate l).length ((handF rate l).flatMap cnC) ∧ w3.grownBy w' u.ownBlock) at hst
      have hhl := handF_length rate l
      rw [← HHD.out] at hst hhl
      rw [← HNX.out] at hhl
      unfold fnV at hst
      have HST := Lib.hid hst
      have O3 := Lib.hid hO2
      have c5 : w3.cell? ⟨G6, 5, none⟩ = some u := hH.out.cell rfl
      have hgs : G6 < w3.heap.size := hH.out.lt
      obtain ⟨Au, cu, hform⟩ := own_form hO2
      subst hform
      clear hO2 hst hsl hO hjn
      go_wp2_with (first
        | (go_at_call 46; refine HST.out.mono ?_; rintro e w4 ⟨rfl, ho4, hg4⟩; have H4 := vrow_grown hH.out O3.out hg4 (Nat.lt_succ_self _); have k5 := H4.cell (i := 5) rfl))
      have hcn : CnR w4 w4.heap.size (.slice Au (dealF rate 0 l).length cu) HD := by
        have q := RowR.of_own ho4
        exact q
      have htt := total_any _ _ HD w4 hcn (Nat.le_refl _) (by omega)
      rw [← HS.out] at htt
      have R4 := vrow_grown hR.out O3.out hg4 (by have := GLT.out; omega)
      have b4 : Below w.heap.size w w4 := hBW.out.grown hg4 hBW.out.size (fun k hk => by have := (O3.out.lt k hk).1; have := GLT.out; omega)
      refine htt.mono ?_
      rintro e w5 ⟨rfl, hb5⟩
      have O5 := Lib.hid (own_below ho4 hb5)
      have H5 := H4.below hb5 H4.lt
      have R5 := R4.below hb5 R4.lt
      have B5 := Lib.hid (b4.trans (hb5.mono b4.size))
      have L5 := Lib.hid hb5.size
      have f6 := H5.free 6
      have c6 := H5.cell (i := 6) rfl
      clear k5 H4 htt hcn R4 b4 hb5 c5 hgs hR hH hT hBW ho4 hg4
      have HH5 := Lib.hid H5
      have RR5 := Lib.hid R5
      clear H5 R5
      go_upto_region 12 with fail
      have H6 := Lib.hid (HH5.out.set 6 (.int .i64 S.1))
      obtain ⟨w6, hw6⟩ : ∃ z, z = w5.setCell ⟨G6, 6, none⟩ (.int .i64 S.1) := ⟨_, rfl⟩
      have b56 : Below G6 w5 w6 := by rw [hw6]; exact (Below.refl _ _).setCell (p := ⟨G6, 6, none⟩) (Nat.le_refl _) _
      have R6 := Lib.hid (RR5.out.below b56 GLT.out.2.2)
      rw [← hw6] at H6 ⊢
      have B6 := Lib.hid (B5.out.trans (b56.mono (by have := GLT.out; omega)))
      have O6 := Lib.hid (show w6.ownsRow _ _ _ _ _ _ from own_turns O5.out (S := fun q => q = G6) (by rw [hw6]; exact Turns.setCell (S := fun q => q = G6) (Turns.refl _ _) (p := ⟨G6, 6, none⟩) (fun _ => rfl) _) (fun k hk q => by have := (O5.out.lt k hk).1; omega))
      clear hw6 b56 f6 c6
      obtain ⟨HV, hHV⟩ : ∃ z, z = [Value.int .i64 n1, .int .i64 n2, .int .i64 rate, .int .i64 n3, .int .u64 seed, .slice Au (dealF rate 0 l).length cu, .int .i64 S.1] := ⟨_, rfl⟩
      have H7 : VRow w6 G6 60 HV := by rw [hHV]; exact H6.out
      have z1 : (Try.prog.info? 60).map (·.size) = some HV.length := by rw [hHV]; exact size_hand
      have z2 : ZH.length = HV.length := by rw [hHV, HZH.out]; rfl
      have z3 : HV.toArray.all (·.oneCell') = true := by rw [hHV]; simp only [List.all_toArray, List.all_cons, List.all_nil]; rfl
      have HHV := Lib.hid hHV
      clear hHV
      go_wp2_with (first
        | (refine wpList_load_vrow rfl 60 (.tmp 6) rfl rfl H7 Try.underlying60 z1 ?_)
        | (refine wpList_store_vrow rfl 60 (.tmp 4) (.tmp 46) rfl rfl rfl R6.out z1 z2 z3 ?_))
      refine bodyPost_ret (v := .tuple #[.agg HV.toArray, .int .i64 S.2]) ?_ rfl ⟨_, by rw [HHV.out], ?_, ?_⟩
      · refine results_row_tmp Try.results39 _ _ GR 60 HV.toArray (0, 0) _ _ rfl rfl (R6.out.setRow HV) Try.underlying60 rfl (by rw [List.size_toArray]; exact z1)
      · exact RowR.of_own (own_turns O6.out (S := fun q => q = GR) (Turns.setRow (S := fun q => q = GR) (Turns.refl _ _) (fun _ => rfl) _) (fun k hk q => by have := (O6.out.lt k hk).1; have := GLT.out; omega))
      · exact below_setRow B6.out (by have := GLT.out; omega) _
end Go.Proofs.Ytammeedmccblcaa.Cs
