/-
  Texts joined: TvSa, TvSb, TvSo. Conditions: those of each.
-/
import Derived.Test.YthelmclpmalofaaDoorK19
import Derived.Test.YthelmclpmalofaaDoorK13
import Derived.Test.YthelmclpmalofaaDoorK16
import Derived.Stop.BytesEq
import Derived.BigQuiet
import Derived.Test.YthelmclpmalofaaDoorRows
import Derived.Test.YthelmclpmalofaaDoorCards
import Derived.Test.YthelmclpmalofaaDoorTie
import Derived.SevenTiedAt
import Derived.ChangeSame
import Derived.JoinedOf
import Derived.JoinedAt
import Derived.LaidMore
import Derived.LaidHandle
import Derived.Stop.Joined
import Derived.Deep.Slices
import Derived.Deep.Fields
import Derived.ProofKit
import Derived.OpenShut
import Derived.ChangeOld
import Derived.SizedLaws
import Derived.ChangeMaps5
import Derived.Lib.LaidTab
/-
  One input alone, and nothing chosen of the outputs: the digests that agree. Conditions: none.
-/
namespace Go.Proofs.YthelmclpmalofaaDoor
open Go.RowKit

theorem legTx_one {t : TxP} {i : Nat} {p : InP} (hp : t.ins[i]? = some p) (sc : List UInt8) : legTx ⟨t.ver, [p], t.outs, t.lock⟩ 0 sc 130 = legTx t i sc 130 := by
  unfold legTx legOuts
  rw [legIns_alone hp rfl, legIns_alone (l := [p]) (i := 0) (p := p) rfl rfl, if_pos (by decide), if_pos (by decide)]
theorem legD_one {t : TxP} {i : Nat} {p : InP} (hp : t.ins[i]? = some p) (sc : List UInt8) : legD ⟨t.ver, [p], t.outs, t.lock⟩ 0 sc 130 = legD t (i : Int) sc 130 := by
  have hl := (List.getElem?_eq_some_iff.1 hp).1
  have h3 : ¬ chosenF 130 = 3 := by decide
  unfold legD legB
  rw [if_pos ⟨⟨by omega, by show (0 : Int) < (1 : Nat); omega⟩, fun h => absurd h h3⟩, if_pos ⟨⟨by omega, by omega⟩, fun h => absurd h h3⟩, Int.toNat_natCast, ← legTx_one hp]
  rfl
theorem witD_one {t : TxP} {i : Nat} {p : InP} (hp : t.ins[i]? = some p) (sc : List UInt8) (val : Int) : witD ⟨t.ver, [p], t.outs, t.lock⟩ 0 sc val 130 = witD t (i : Int) sc val 130 := by
  have hP : ∀ l, prevsD l 130 = zeroB := fun l => if_pos rfl
  have hS : ∀ l, seqsD l 130 = zeroB := fun l => if_pos (.inl rfl)
  have hO : ∀ (l : List OutP) (j : Int), outsD l j 130 = zeroB := fun l j => by
    unfold outsD
    rw [if_neg (by decide), if_neg (fun h => absurd h.1 (by decide))]
  unfold witD
  rw [if_pos (by omega), if_pos (by omega), Int.toNat_natCast, hp, hP, hS, hO]
  show sha256 (sha256 (witM _ p sc val 130 (prevsD [p] 130) (seqsD [p] 130) (outsD t.outs 0 130))) = _
  rw [hP, hS, hO]
  rfl
theorem legTx_none (t : TxP) (i : Nat) (sc : List UInt8) : legTx ⟨t.ver, t.ins, [], t.lock⟩ i sc 2 = legTx t i sc 2 := by
  unfold legTx legOuts
  rw [if_pos (by decide), if_pos (by decide)]
theorem legD_none (t : TxP) (i : Int) (sc : List UInt8) : legD ⟨t.ver, t.ins, [], t.lock⟩ i sc 2 = legD t i sc 2 := by
  have h3 : ¬ chosenF 2 = 3 := by decide
  unfold legD legB
  by_cases h : 0 ≤ i ∧ i < (t.ins.length : Int)
  · rw [if_pos ⟨h, fun h => absurd h h3⟩, if_pos ⟨h, fun h => absurd h h3⟩, legTx_none]
  · rw [if_neg (fun q => h q.1), if_neg (fun q => h q.1)]
theorem witD_none (t : TxP) (i : Int) (sc : List UInt8) (val : Int) : witD ⟨t.ver, t.ins, [], t.lock⟩ i sc val 2 = witD t i sc val 2 := by
  have hO : ∀ (l : List OutP) (j : Int), outsD l j 2 = zeroB := fun l j => by
    unfold outsD
    rw [if_neg (by decide), if_neg (fun h => absurd h.1 (by decide))]
  unfold witD
  rw [hO, hO]
  rfl
theorem legD_out (t : TxP) (sc : List UInt8) (k : Int) : legD t (-1) sc k = oneB := if_neg (fun h => by have := h.1.1; omega)
theorem legD_len (t : TxP) (i : Int) (sc : List UInt8) (k : Int) : (legD t i sc k).length = 32 := by
  unfold legD
  split
  · exact sha256_length _
  · rfl
theorem witD_len (t : TxP) (i : Int) (sc : List UInt8) (val k : Int) : (witD t i sc val k).length = 32 := by
  unfold witD
  split
  · exact sha256_length _
  · rfl
theorem InsR.pick {w : World} {B : Nat} {v : Value} {X : List InV} (h : InsR w B v X) {i : Nat} {x : InV} (hi : X[i]? = some x) :
    ∃ b o c, v = .slice (some ⟨b, o, none⟩) X.length c ∧ X.length ≤ c ∧ c ≤ 9223372036854775807 ∧ InsR w B (.slice (some ⟨b, o + i * 36, none⟩) 1 (c - i)) [x] := by
  obtain ⟨b, o, c, hv, h1, h2, hlt, hr, he⟩ := h.at hi
  have hl := (List.getElem?_eq_some_iff.1 hi).1
  refine ⟨b, o, c, hv, h1, h2, ⟨⟨_, _, rfl, by show 1 ≤ c - i; omega, by unfold maxLen; omega, fun _ => ⟨b, _, rfl, hlt, ?_⟩⟩, fun y hy => ?_⟩⟩
  · rw [List.flatMap_cons, List.flatMap_nil, List.append_nil]
    exact hr
  · obtain rfl : y = x := by simpa using hy
    exact he
theorem Byt.first {w : World} {B c n : Nat} {A : Option Addr} {xs : List UInt8} (h : Byt w B (.slice A n c) xs) {k : Nat} (hk : k ≤ xs.length) : Byt w B (.slice A k c) (xs.take k) := by
  obtain ⟨A', c', e, h1, h2, h3, h4⟩ := h
  injection e with e1 e2 e3
  subst e1 e3
  have hl : (xs.take k).length = k := by rw [List.length_take]; omega
  refine ⟨A, c, by rw [hl], by omega, h2, fun h => ?_, fun hne => ?_⟩
  · obtain ⟨rfl, hc⟩ := h3 h
    exact ⟨by simp, hc⟩
  · obtain ⟨b, o, e1, hb, hc⟩ := h4 (fun e => by rw [e] at hne; simp at hne)
    refine ⟨b, o, e1, hb, fun j u hu => hc j u ?_⟩
    rw [List.getElem?_take] at hu
    split at hu
    · exact hu
    · exact absurd hu (by simp)
theorem eq_32 (xs ys : List UInt8) (hx : xs.length = 32) (hy : ys.length = 32) (w : World) :
    (Op.equalIn 10000 36 (digV xs) (digV ys)).run Tryd.prog w = .ok (xs == ys) w := by
  obtain ⟨i0, hi, hz0, hz1, hz2⟩ := info_parts info_u8
  unfold digV
  rw [nums_bv, nums_bv]
  exact run_equalIn_bytes w 9998 36 5 32 Tryd.underlying36 Tryd.underlying5 (fun w => by simp [sizeOf, typeInfo, hi, hz1]) xs ys hx hy
/-- What an own transaction's bounds give. -/
theorem fit_of {w : World} {B : Nat} {t : TxP} {iv ov : Value} {X : List InV} {Y : List OutV} (h : TxR w B t iv ov X Y) (hx : ∀ x ∈ X, x.in 4 100) (hX : X.length ≤ 4) (hy : ∀ y ∈ Y, y.p.sc.length ≤ 100) (hY : Y.length ≤ 4) : t.fit := by
  refine ⟨by have := h.nins; omega, by have := h.nouts; omega, fun p hp => ?_, fun p hp => ?_⟩
  · rw [← h.ei] at hp
    obtain ⟨x, hxm, rfl⟩ := List.mem_map.1 hp
    exact ⟨(h.ins.each x hxm).ok, by have := (hx x hxm).sc; omega⟩
  · rw [← h.eo] at hp
    obtain ⟨y, hym, rfl⟩ := List.mem_map.1 hp
    exact ⟨(h.outs.each y hym).ok, by have := hy y hym; omega⟩
theorem sz_of {X : List InV} {Y : List OutV} (hx : ∀ x ∈ X, x.in 4 100) (hX : X.length ≤ 4) (hy : ∀ y ∈ Y, y.p.sc.length ≤ 100) (hY : Y.length ≤ 4) : TxSz X Y :=
  ⟨by omega, by omega, fun x hm => ⟨by have := (hx x hm).sc; omega, by have := (hx x hm).wl; omega, fun p hp => by have := (hx x hm).it p hp; omega⟩, fun y hm => by have := hy y hm; omega⟩
end Go.Proofs.YthelmclpmalofaaDoor

/-
  The law on what a signature speaks of. Conditions: sizes within the reach; the roots are laid.
-/
namespace Go.Proofs.YthelmclpmalofaaDoor
open Go.RowKit

theorem size_way : (Tryd.prog.info? 29).map (·.size) = some 4 := by kernel_rfl
theorem vrow_r0 {w : World} {g : Nat} {t : TypeId} {vs : List Value} (h : VRow w g t vs) : w.rangeAt g 0 vs := fun j v hv => by rw [Nat.zero_add]; exact h.cell hv
def WayC (i k val : Int) (sv : Value) : List Value := [.int .i64 i, .int .u8 k, sv, .int .i64 val]
set_option maxRecDepth 100000 in
set_option maxHeartbeats 12800000 in
theorem commits_law (B : Nat) (t0 : TxP) (iv0 ov0 sv : Value) (X0 : List InV) (Y0 : List OutV) (i k val : Int) (sc : List UInt8) (w : World) (ht : TxR w B t0 iv0 ov0 X0 Y0) (hsv : Byt w B sv sc) (hB : B ≤ w.heap.size) (hz : TxSz X0 Y0)
    (hi0 : -9223372036854775808 ≤ i) (hi1 : i ≤ 9223372036854775807) (hv0 : -9223372036854775808 ≤ val) (hv1 : val ≤ 9223372036854775807) (hroots : Roots w) :
    Calls Tryd.prog 6 #[.agg (txC t0 iv0 ov0).toArray, .agg (WayC i k val sv).toArray] w fun e w' => e = .returned (.bool true) ∧ Below w.heap.size w w' := by
  obtain ⟨As, cs, hsf⟩ := hsv.form
  subst hsf
  have hcS := hsv.cap
  have hfw : ∀ W, Below w.heap.size w W → Calls Tryd.prog 20 #[.agg (txC t0 iv0 ov0).toArray, .int .i64 4, .int .i64 100] W fun e w' => ∃ t' iv' ov', e = .returned (.agg (txC t' iv' ov').toArray) ∧ ∃ X' Y', t'.ok ∧ InsO w' W.heap.size iv' X' ∧ OutsO w' W.heap.size ov' Y' ∧ (∀ x ∈ X', El w' W.heap.size x) ∧ (∀ y ∈ Y', ElO w' W.heap.size y) ∧ X'.map (·.p) = t'.ins ∧ Y'.map (·.p) = t'.outs ∧ (∀ x ∈ X', x.in 4 100) ∧ X'.length ≤ 4 ∧ (∀ y ∈ Y', y.p.sc.length ≤ 100) ∧ Y'.length ≤ 4 ∧ Below W.heap.size W w' :=
    fun W hW => few_any B 4 100 t0 iv0 ov0 X0 Y0 W (ht.below (hW.mono hB)) (Nat.le_trans hB hW.size) hz (by omega) (by omega)
  have hzt := zero_ttx
  obtain ⟨ZT, hZT⟩ : ∃ z, z = [Value.int .i32 0, .slice none 0 0, .slice none 0 0, .int .u32 0] := ⟨_, rfl⟩
  rw [← hZT] at hzt
  have HZT := Lib.hid hZT
  clear hZT
  obtain ⟨nS, hnS⟩ : ∃ z, z = sc.length := ⟨_, rfl⟩
  rw [← hnS] at hsv hcS
  rw [← hnS]
  obtain ⟨TC, hTC⟩ : ∃ z, z = txC t0 iv0 ov0 := ⟨_, rfl⟩
  obtain ⟨WC, hWC⟩ : ∃ z, z = WayC i k val (.slice As nS cs) := ⟨_, rfl⟩
  have hTl : TC.length = 4 := by rw [hTC]; rfl
  rw [← hTC, ← hWC]
  simp only [← hTC] at hfw
  obtain ⟨w1, hw1⟩ : ∃ z, z = (w.alloc (.cells TC.toArray 26)).alloc (.cells WC.toArray 29) := ⟨_, rfl⟩
  have s1 : (w.alloc (.cells TC.toArray 26)).heap.size = w.heap.size + 1 := by simp
  have b1 : Below w.heap.size w (w.alloc (.cells TC.toArray 26)) := (Below.refl _ w).alloc (Nat.le_refl _) _
  have hb1 : Below w.heap.size w w1 := by rw [hw1]; exact b1.alloc (by rw [s1]; omega) _
  have r2 : VRow w1 w.heap.size 26 TC := by rw [hw1]; exact (VRow.new w 26 TC).below ((Below.refl _ _).alloc (Nat.le_refl _) _) (by rw [s1]; omega)
  have r3 : VRow w1 (w.heap.size + 1) 29 WC := by rw [hw1, ← s1]; exact VRow.new _ _ _
  have x0 : w1.cell? ⟨w.heap.size + 1, 0, none⟩ = some (.int .i64 i) := r3.cell (by rw [hWC]; rfl)
  have x2 : w1.cell? ⟨w.heap.size + 1, 2, none⟩ = some (.slice As nS cs) := r3.cell (by rw [hWC]; rfl)
  have x3 : w1.cell? ⟨w.heap.size + 1, 3, none⟩ = some (.int .i64 val) := r3.cell (by rw [hWC]; rfl)
  obtain ⟨G2, hG2⟩ : ∃ z, z = w.heap.size := ⟨_, rfl⟩
  obtain ⟨G3, hG3⟩ : ∃ z, z = w.heap.size + 1 := ⟨_, rfl⟩
  rw [← hG2] at r2
  rw [← hG3] at x0 x2 x3
  have HG2 := Lib.hid hG2
  have HG3 := Lib.hid hG3
  have HW1 := Lib.hid hw1
  have HB1 := Lib.hid hb1
  have R2 := Lib.hid r2
  have HFW := Lib.hid hfw
  have HS := Lib.hid hsv
  have HNS := Lib.hid hnS
  have HB := Lib.hid hB
  have HRO := Lib.hid hroots
  have HTS := Lib.hid (show (Tryd.prog.info? 26).map (·.size) = some TC.length by rw [hTl]; exact size_tx)
  have HTL := Lib.hid hTl
  clear hfw hTC hWC hw1 s1 b1 hb1 r2 r3 hG2 hG3 hTl ht hB hz hsv hnS hroots
  go_enter Tryd.func6, Tryd.ntmps6
  go_upto_region 1 with fail
  change Code.wp _ _ _ _ ((w.alloc (.cells TC.toArray 26)).alloc (.cells WC.toArray 29))
  rw [← HW1.out, show w.heap.size + 1 = G3 from HG3.out.symm, show w.heap.size = G2 from HG2.out.symm]
  clear HW1
  try dsimp only [Act.put]
  go_quiet (fail)
  clear x0 x2 x3
  obtain ⟨wq, hwq⟩ : ∃ z, z = w1.drewN nq := ⟨_, rfl⟩
  have HBQ := Lib.hid (show Below w.heap.size w wq by rw [hwq]; exact HB1.out.trans (show Below w.heap.size w1 (w1.drewN nq) from ⟨rfl, rfl, rfl, Nat.le_refl _, fun _ _ => rfl⟩))
  have RQ := Lib.hid (show VRow wq G2 26 TC by rw [hwq]; exact R2.out)
  rw [← hwq]
  clear hwq R2 HB1
  go_wp2_with (first
    | (refine wpList_load_vrow rfl 26 (.tmp 2) rfl rfl RQ.out Tryd.underlying26 HTS.out ?_))
  refine (HFW.out _ HBQ.out).mono ?_
  rintro e w2 ⟨t, iv, ov, rfl, X, Y, hok, hI, hO, hEI, hEO, hXe, hYe, hXi, hXn, hYi, hYn, hb2⟩
  obtain ⟨FC, hFC⟩ : ∃ z, z = txC t iv ov := ⟨_, rfl⟩
  rw [← hFC]
  have hl1 := HBQ.out.size
  have q2 := RQ.out.below hb2 RQ.out.lt
  obtain ⟨A1, c1, hif⟩ := hI.form
  obtain ⟨A2, c2, hof⟩ := hO.form
  have capI := own_cap (show w2.ownsRow wq.heap.size 49 36 (.slice A1 X.length c1) X.length (X.flatMap inC) by have q := hI; rw [hif] at q; exact q)
  have HFL := Lib.hid (show TC.length = FC.length by rw [hFC, HTL.out]; rfl)
  have HFS := Lib.hid (show (Tryd.prog.info? 26).map (·.size) = some FC.length by rw [hFC]; exact size_tx)
  have HF1 := Lib.hid (show FC.toArray.all (·.oneCell') = true by rw [hFC, hif, hof]; exact arr_one (fun v hv => by unfold txC at hv; simp only [List.mem_cons, List.not_mem_nil, or_false] at hv; rcases hv with rfl | rfl | rfl | rfl <;> rfl))
  obtain ⟨w3, hw3⟩ : ∃ z, z = w2.setRow G2 FC.toArray := ⟨_, rfl⟩
  have hb3 : Below w.heap.size w w3 := by rw [hw3]; exact below_setRow (HBQ.out.trans (hb2.mono hl1)) (by have := HG2.out; omega) _
  have q3 : VRow w3 G2 26 FC := by rw [hw3]; exact q2.setRow _
  have hT3 : TxR w3 w3.heap.size t iv ov X Y := by
    have tt : Turns (fun q => q = G2) w2 (w2.setRow G2 FC.toArray) := Turns.setRow (S := fun q => q = G2) (Turns.refl _ w2) (fun _ => rfl) _
    have hS : ∀ k, k = G2 → k < w2.heap.size → ∃ cs T m, w2.heap[k]? = some (.cells cs T m) ∧ 27 ≠ T ∧ 5 ≠ T := fun k q _ => by subst q; exact ⟨_, _, _, q2, by decide, by decide⟩
    rw [hw3]
    exact ⟨hok, ⟨RowR.of_own (own_apart hI tt (fun k q _ => by subst q; exact ⟨_, _, _, q2, by decide⟩)), fun x hx => ((hEI x hx).apart tt hS).is⟩, ⟨RowR.of_own (own_apart hO tt (fun k q _ => by subst q; exact ⟨_, _, _, q2, by decide⟩)), fun y hy => ((hEO y hy).apart tt hS).is⟩, hXe, hYe⟩
  have hfit := fit_of hT3 hXi hXn hYi hYn
  have hsz := sz_of hXi hXn hYi hYn
  have Q2 := Lib.hid q2
  have Q3 := Lib.hid q3
  have T3 := Lib.hid hT3
  have B3 := Lib.hid hb3
  have HFIT := Lib.hid hfit
  have HSZ := Lib.hid hsz
  have HFC := Lib.hid hFC
  have HW3 := Lib.hid hw3
  have HS3 := Lib.hid (HS.out.below (hb3.mono HB.out))
  have HRO3 := Lib.hid (HRO.out.below hb3)
  obtain ⟨nX, hnX⟩ : ∃ z, z = X.length := ⟨_, rfl⟩
  rw [← hnX] at hif capI
  have HNX := Lib.hid hnX
  subst hif hof
  have e1 : FC[1]? = some (.slice A1 nX c1) := by rw [hFC]; rfl
  have E1 := Lib.hid e1
  have hxc : (nX : Int) ≤ 20 := by have := hnX; omega
  clear hI hO hEI hEO hXe hYe hXi hXn hYi hYn hb2 hok q2 q3 hT3 hb3 hfit hsz hFC hw3 hnX hl1 RQ HBQ HFW HS HRO e1
  go_upto_region 3 with (first
    | (refine wpList_store_vrow rfl 26 (.tmp 2) (.tmp 18) rfl rfl rfl Q2.out HFS.out HFL.out HF1.out ?_))
  change Code.wp _ _ _ _ (w2.setRow G2 FC.toArray)
  rw [← HW3.out]
  clear HW3 Q2
  try dsimp only [Act.put]
  go_upto_if 21 with fail
  go_cut [6] (fun s6 wx => ∃ (n : Nat) (sc' : List UInt8), s6 = .slice As n cs ∧ n = sc'.length ∧ n ≤ 200 ∧ Hid (Byt w3 B (.slice As n cs) sc') ∧ Hid (Below w3.heap.size w3 wx))
  case first =>
    by_cases hc : 200 < nS
    · have dc : decide ((200 : Int) < (nS : Int)) = true := decide_eq_true (by omega)
      have HX := Lib.hid (HS3.out.first (k := 200) (by have := HNS.out; omega))
      go_wp2_with fail
      go_meet
      exact ⟨200, _, rfl, by rw [List.length_take]; have := HNS.out; omega, Nat.le_refl _, HX, Lib.hid (Below.refl _ _)⟩
    · have dc : decide ((200 : Int) < (nS : Int)) = false := decide_eq_false (by omega)
      go_wp2_with fail
      go_meet
      exact ⟨nS, sc, rfl, HNS.out, by omega, HS3, Lib.hid (Below.refl _ _)⟩
  case rest =>
    obtain ⟨n, sc', rfl, hn, hn2, HSC, HB4⟩ := hcut
    obtain ⟨w4, rfl⟩ : ∃ z : World, z = wc := ⟨_, rfl⟩
    have HN := Lib.hid hn
    clear HS3 HNS hn
    have hT4 := T3.out.below HB4.out
    have hs4 : Byt w4 w4.heap.size (.slice As n cs) sc' := (HSC.out.below (HB4.out.mono (Nat.le_trans HB.out B3.out.size))).more (Nat.le_trans HB.out (Nat.le_trans B3.out.size HB4.out.size))
    have hlg := legacy_any w4.heap.size t _ _ _ X Y (-1) sc' 1 w4 (hT4.more HB4.out.size) hs4 (Nat.le_refl _) HFIT.out (by have := HN.out; omega) (by omega) (by omega) (.inl (by decide)) (HRO3.out.below HB4.out)
    rw [legD_out, ← HFC.out] at hlg
    obtain ⟨VO, hVO⟩ : ∃ V : Array Value, Value.agg V = digV oneB := ⟨_, rfl⟩
    rw [← hVO] at hlg
    have heqO := fun W => eq_32 oneB oneB rfl rfl W
    simp only [beq_self_eq_true, ← hVO] at heqO
    have HLG := Lib.hid hlg
    have HVO := Lib.hid hVO
    have Q4 := Lib.hid (Q3.out.below HB4.out Q3.out.lt)
    clear hlg hVO hT4 hs4
    go_wp2_with (first
      | (refine wpList_load_vrow rfl 26 (.tmp 2) rfl rfl Q4.out Tryd.underlying26 HFS.out ?_))
    refine HLG.out.mono ?_
    rintro e w5 ⟨rfl, hb5⟩
    have B35 := Lib.hid (HB4.out.trans (hb5.mono HB4.out.size))
    clear hb5 HB4 Q4
    go_upto_region 7 with (first
      | (refine wpList_build_lit rfl 36 _ (.agg VO) rfl (fun W => by (simp only [List.map_toArray, List.map_cons, List.map_nil]; rw [HVO.out]; exact build_one W)) ?_))
    have cI : w5.cell? ⟨G2, 1, none⟩ = some (.slice A1 nX c1) := (Q3.out.below B35.out Q3.out.lt).cell E1.out
    by_cases hneg : i < 0
    · as_aux_lemma =>
      have d0 : decide (i < (0 : Int)) = true := decide_eq_true hneg
      have FIN := Lib.hid (B3.out.trans (B35.out.mono B3.out.size))
      go_wp2_with fail
      go_ret
      exact ⟨rfl, FIN.out⟩
    · have d0 : decide (i < (0 : Int)) = false := decide_eq_false hneg
      by_cases hge : (nX : Int) ≤ i
      · as_aux_lemma =>
        have d1 : decide ((nX : Int) ≤ i) = true := decide_eq_true hge
        have FIN := Lib.hid (B3.out.trans (B35.out.mono B3.out.size))
        go_wp2_with fail
        go_ret
        exact ⟨rfl, FIN.out⟩
      · have d1 : decide ((nX : Int) ≤ i) = false := decide_eq_false hge
        obtain ⟨m, rfl⟩ : ∃ m : Nat, i = m := ⟨i.toNat, by omega⟩
        have hml : m < nX := by omega
        obtain ⟨x, hx⟩ : ∃ x, X[m]? = some x := ⟨_, List.getElem?_eq_getElem (by rw [← HNX.out]; exact hml)⟩
        have hpx : t.ins[m]? = some x.p := by rw [← T3.out.ei, List.getElem?_map, hx]; rfl
        have HPX := Lib.hid hpx
        have hcp : ∀ W, Below w3.heap.size w3 W → Calls Tryd.prog 10 #[.agg FC.toArray] W fun e w' => ∃ iv' ov', e = .returned (.agg (txC t iv' ov').toArray) ∧ ∃ X' Y', InsO w' W.heap.size iv' X' ∧ OutsO w' W.heap.size ov' Y' ∧ (∀ x ∈ X', El w' W.heap.size x) ∧ (∀ y ∈ Y', ElO w' W.heap.size y) ∧ X'.map (·.p) = t.ins ∧ Y'.map (·.p) = t.outs ∧ Below W.heap.size W w' := fun W hW => by
          rw [HFC.out]
          exact copyTx_any w3.heap.size t _ _ X Y W (T3.out.below hW) hW.size HSZ.out
        have HCP := Lib.hid hcp
        have HNI := Lib.hid (show nX = t.ins.length by rw [HNX.out]; exact T3.out.nins)
        have R5 := Lib.hid (Q3.out.below B35.out Q3.out.lt)
        clear hcp hpx hx hneg hge
        go_upto_region 9 with fail
        clear cI
        go_wp2_with (first
          | (refine wpList_load_vrow rfl 26 (.tmp 2) rfl rfl R5.out Tryd.underlying26 HFS.out ?_))
        refine (HCP.out w5 B35.out).mono ?_
        rintro e w6 ⟨iv8, ov8, rfl, X8, Y8, hI8, hO8, hE8, hF8, hX8, hY8, hb6⟩
        have B36 := Lib.hid (B35.out.trans (hb6.mono B35.out.size))
        obtain ⟨C8, hC8⟩ : ∃ z, z = txC t iv8 ov8 := ⟨_, rfl⟩
        rw [← hC8]
        have T6 := Lib.hid (show TxR w6 w6.heap.size t iv8 ov8 X8 Y8 from ⟨T3.out.ok, ⟨RowR.of_own hI8, fun x hx => (hE8 x hx).is⟩, ⟨RowR.of_own hO8, fun y hy => (hF8 y hy).is⟩, hX8, hY8⟩)
        have L8 := Lib.hid (show ZT.length = C8.length by rw [hC8, HZT.out]; rfl)
        have S8 := Lib.hid (show (Tryd.prog.info? 26).map (·.size) = some C8.length by rw [hC8]; exact size_tx)
        have O8 := Lib.hid (show C8.toArray.all (·.oneCell') = true by rw [hC8]; exact T6.out.one)
        obtain ⟨x8, hx8⟩ : ∃ x, X8[m]? = some x := ⟨_, List.getElem?_eq_getElem (by rw [T6.out.nins, ← HNI.out]; exact hml)⟩
        have P8 := Lib.hid (show x8.p = x.p by
          have q := HPX.out
          rw [← T6.out.ei, List.getElem?_map, hx8] at q
          simpa using q)
        obtain ⟨b8, o8, k8, hv8, hn8, hm8, hpk⟩ := T6.out.ins.pick hx8
        have hl8 : X8.length = nX := by rw [T6.out.nins, ← HNI.out]
        rw [hl8] at hv8 hn8
        have I8 := Lib.hid hpk
        have cell8 : C8[1]? = some (.slice (some ⟨b8, o8, none⟩) nX k8) := by rw [hC8, ← hv8]; rfl
        have E8 := Lib.hid cell8
        have HC8 := Lib.hid hC8
        clear hI8 hO8 hE8 hF8 hX8 hY8 hb6 hC8 hx8 hpk hl8 cell8 R5
        go_upto_region 10 with (first
          | (refine wpList_store_vrow rfl 26 (.tmp 8) (.tmp 39) rfl rfl rfl (VRow.new _ _ ZT) S8.out L8.out O8.out ?_))
        change Code.wp _ _ _ _ ((w6.alloc (.cells ZT.toArray 26)).setRow w6.heap.size C8.toArray)
        obtain ⟨G8, hG8⟩ : ∃ z, z = w6.heap.size := ⟨_, rfl⟩
        obtain ⟨w7, hw7⟩ : ∃ z, z = (w6.alloc (.cells ZT.toArray 26)).setRow w6.heap.size C8.toArray := ⟨_, rfl⟩
        have R7 := Lib.hid (show VRow w7 G8 26 C8 by rw [hw7, hG8]; exact (VRow.new w6 26 ZT).setRow C8)
        have B67 := Lib.hid (show Below w6.heap.size w6 w7 by rw [hw7]; exact below_setRow ((Below.refl _ w6).alloc (Nat.le_refl _) _) (Nat.le_refl _) _)
        rw [← hw7, show w6.heap.size = G8 from hG8.symm]
        have HG8 := Lib.hid hG8
        clear hw7 hG8 S8 L8 O8
        try dsimp only [Act.put]
        have cJ := R7.out.cell E8.out
        have fJ := R7.out.free 1
        go_upto_region 11 with fail
        obtain ⟨v8, hv8'⟩ : ∃ z, z = Value.slice (some ⟨b8, o8 + m * 36, none⟩) 1 (k8 - m) := ⟨_, rfl⟩
        rw [← hv8']
        obtain ⟨w8, hw8⟩ : ∃ z, z = w7.setCell ⟨G8, 1, none⟩ v8 := ⟨_, rfl⟩
        obtain ⟨D8, hD8⟩ : ∃ z, z = C8.set 1 v8 := ⟨_, rfl⟩
        have R8 := Lib.hid (show VRow w8 G8 26 D8 by rw [hw8, hD8]; exact R7.out.set 1 v8)
        have B68 := Lib.hid (show Below w6.heap.size w6 w8 by rw [hw8]; exact B67.out.setCell (show w6.heap.size ≤ G8 from Nat.le_of_eq HG8.out.symm) _)
        have hd8 : D8 = txC ⟨t.ver, [x.p], t.outs, t.lock⟩ v8 ov8 := by rw [hD8, HC8.out]; rfl
        have SD8 := Lib.hid (show (Tryd.prog.info? 26).map (·.size) = some D8.length by rw [hd8]; exact size_tx)
        have HD8 := Lib.hid hd8
        have T8 := Lib.hid (show TxR w8 w6.heap.size ⟨t.ver, [x.p], t.outs, t.lock⟩ v8 ov8 [x8] Y8 from ⟨⟨T6.out.ok.v0, T6.out.ok.v1, T6.out.ok.l0, T6.out.ok.l1⟩, by rw [hv8']; exact I8.out.below B68.out, T6.out.outs.below B68.out, by rw [← P8.out]; rfl, T6.out.eo⟩)
        rw [← hw8]
        have B38 := Lib.hid (B36.out.trans (B68.out.mono B36.out.size))
        have RA := Lib.hid (Q3.out.below B38.out Q3.out.lt)
        clear hw8 hD8 hd8 hv8' hv8 cJ fJ R7 B67
        go_wp2_with (first
          | (refine wpList_load_vrow rfl 26 (.tmp 2) rfl rfl RA.out Tryd.underlying26 HFS.out ?_))
        refine (HCP.out w8 B38.out).mono ?_
        rintro e w9 ⟨iv9, ov9, rfl, X9, Y9, hI9, hO9, hE9, hF9, hX9, hY9, hb9⟩
        have B39 := Lib.hid (B38.out.trans (hb9.mono B38.out.size))
        obtain ⟨C9, hC9⟩ : ∃ z, z = txC t iv9 ov9 := ⟨_, rfl⟩
        rw [← hC9]
        have T9 := Lib.hid (show TxR w9 w9.heap.size t iv9 ov9 X9 Y9 from ⟨T3.out.ok, ⟨RowR.of_own hI9, fun x hx => (hE9 x hx).is⟩, ⟨RowR.of_own hO9, fun y hy => (hF9 y hy).is⟩, hX9, hY9⟩)
        have L9 := Lib.hid (show ZT.length = C9.length by rw [hC9, HZT.out]; rfl)
        have S9 := Lib.hid (show (Tryd.prog.info? 26).map (·.size) = some C9.length by rw [hC9]; exact size_tx)
        have O9 := Lib.hid (show C9.toArray.all (·.oneCell') = true by rw [hC9]; exact T9.out.one)
        have B89 := Lib.hid hb9
        have HC9 := Lib.hid hC9
        clear hI9 hO9 hE9 hF9 hX9 hY9 hb9 hC9 RA
        go_upto_region 12 with (first
          | (refine wpList_store_vrow rfl 26 (.tmp 9) (.tmp 48) rfl rfl rfl (VRow.new _ _ ZT) S9.out L9.out O9.out ?_))
        change Code.wp _ _ _ _ ((w9.alloc (.cells ZT.toArray 26)).setRow w9.heap.size C9.toArray)
        obtain ⟨G9, hG9⟩ : ∃ z, z = w9.heap.size := ⟨_, rfl⟩
        obtain ⟨wA, hwA⟩ : ∃ z, z = (w9.alloc (.cells ZT.toArray 26)).setRow w9.heap.size C9.toArray := ⟨_, rfl⟩
        have RB := Lib.hid (show VRow wA G9 26 C9 by rw [hwA, hG9]; exact (VRow.new w9 26 ZT).setRow C9)
        have B9A := Lib.hid (show Below w9.heap.size w9 wA by rw [hwA]; exact below_setRow ((Below.refl _ w9).alloc (Nat.le_refl _) _) (Nat.le_refl _) _)
        rw [← hwA, show w9.heap.size = G9 from hG9.symm]
        have HG9 := Lib.hid hG9
        clear hwA hG9 S9 L9 O9
        try dsimp only [Act.put]
        have fJ := RB.out.free 2
        have cJ : wA.cell? ⟨G9, 2, none⟩ = some ov9 := RB.out.cell (by rw [HC9.out]; rfl)
        go_upto_region 13 with fail
        obtain ⟨wB, hwB⟩ : ∃ z, z = wA.setCell ⟨G9, 2, none⟩ (.slice none 0 0) := ⟨_, rfl⟩
        obtain ⟨D9, hD9⟩ : ∃ z, z = C9.set 2 (.slice none 0 0) := ⟨_, rfl⟩
        have RD := Lib.hid (show VRow wB G9 26 D9 by rw [hwB, hD9]; exact RB.out.set 2 (.slice none 0 0))
        have B9B := Lib.hid (show Below w9.heap.size w9 wB by rw [hwB]; exact B9A.out.setCell (show w9.heap.size ≤ G9 from Nat.le_of_eq HG9.out.symm) _)
        have hd9 : D9 = txC ⟨t.ver, t.ins, [], t.lock⟩ iv9 (.slice none 0 0) := by rw [hD9, HC9.out]; rfl
        have SD9 := Lib.hid (show (Tryd.prog.info? 26).map (·.size) = some D9.length by rw [hd9]; exact size_tx)
        have TB := Lib.hid (show TxR wB w9.heap.size ⟨t.ver, t.ins, [], t.lock⟩ iv9 (.slice none 0 0) X9 [] from ⟨⟨T9.out.ok.v0, T9.out.ok.v1, T9.out.ok.l0, T9.out.ok.l1⟩, T9.out.ins.below B9B.out, OutsR.nil _ _, T9.out.ei, rfl⟩)
        rw [← hwB]
        have B8B := Lib.hid (B89.out.trans (B9B.out.mono B89.out.size))
        have B3B := Lib.hid (B39.out.trans (B9B.out.mono B39.out.size))
        have R2B := Lib.hid (Q3.out.below B3B.out Q3.out.lt)
        have R8B := Lib.hid (R8.out.below B8B.out R8.out.lt)
        have T8B := Lib.hid (T8.out.below (B8B.out.mono B68.out.size))
        have T3B := Lib.hid (T3.out.below B3B.out)
        have HD9 := Lib.hid hd9
        have hn4 : n = sc'.length := HN.out
        have hro := HRO3.out.below B3B.out
        have hsB : ∀ W, Below wB.heap.size wB W → Byt W wB.heap.size (.slice As n cs) sc' := fun W hW => ((HSC.out.below (B3B.out.mono (Nat.le_trans HB.out B3.out.size))).more (Nat.le_trans HB.out (Nat.le_trans B3.out.size B3B.out.size))).below hW
        have hf1 : (TxP.mk t.ver [x.p] t.outs t.lock).fit := ⟨by show 1 ≤ 20; omega, HFIT.out.no, fun p hp => by
          obtain rfl : p = x.p := by simpa using hp
          exact HFIT.out.si _ (List.mem_of_getElem? HPX.out), HFIT.out.so⟩
        have hf2 : (TxP.mk t.ver t.ins [] t.lock).fit := ⟨HFIT.out.ni, by show 0 ≤ 20; omega, HFIT.out.si, fun p hp => by cases hp⟩
        have s68 : w6.heap.size ≤ wB.heap.size := Nat.le_trans B68.out.size B8B.out.size
        have t8 : ∀ W, Below wB.heap.size wB W → TxR W wB.heap.size ⟨t.ver, [x.p], t.outs, t.lock⟩ v8 ov8 [x8] Y8 := fun W hW => (T8B.out.more s68).below hW
        have t9 : ∀ W, Below wB.heap.size wB W → TxR W wB.heap.size ⟨t.ver, t.ins, [], t.lock⟩ iv9 (.slice none 0 0) X9 [] := fun W hW => (TB.out.more B9B.out.size).below hW
        have t3 : ∀ W, Below wB.heap.size wB W → TxR W wB.heap.size t _ _ X Y := fun W hW => (T3B.out.more B3B.out.size).below hW
        obtain ⟨V1, hV1⟩ : ∃ V : Array Value, Value.agg V = digV (witD t (m : Int) sc' val 130) := ⟨_, rfl⟩
        obtain ⟨V2, hV2⟩ : ∃ V : Array Value, Value.agg V = digV (legD t (m : Int) sc' 130) := ⟨_, rfl⟩
        obtain ⟨V3, hV3⟩ : ∃ V : Array Value, Value.agg V = digV (legD t (m : Int) sc' 2) := ⟨_, rfl⟩
        obtain ⟨V4, hV4⟩ : ∃ V : Array Value, Value.agg V = digV (witD t (m : Int) sc' val 2) := ⟨_, rfl⟩
        have K1 := Lib.hid (show ∀ W, Below wB.heap.size wB W → Calls Tryd.prog 18 #[.agg D8.toArray, .int .i64 0, .slice As n cs, .int .i64 val, .int .u8 130] W fun e w' => e = .returned (.agg V1) ∧ Below W.heap.size W w' from fun W hW => by
          have q := witness_any wB.heap.size _ _ _ _ _ _ 0 sc' val 130 W (t8 W hW) (hsB W hW) hW.size hf1 (by omega) hv0 hv1 (by omega) (by omega) (by decide) (hro.below hW)
          rw [witD_one HPX.out, ← hV1, ← HD8.out] at q
          exact q)
        have K2 := Lib.hid (show ∀ W, Below wB.heap.size wB W → Calls Tryd.prog 18 #[.agg FC.toArray, .int .i64 (m : Int), .slice As n cs, .int .i64 val, .int .u8 130] W fun e w' => e = .returned (.agg V1) ∧ Below W.heap.size W w' from fun W hW => by
          have q := witness_any wB.heap.size _ _ _ _ _ _ (m : Int) sc' val 130 W (t3 W hW) (hsB W hW) hW.size HFIT.out (by omega) hv0 hv1 (by omega) (by omega) (by decide) (hro.below hW)
          rw [← hV1, ← HFC.out] at q
          exact q)
        have K3 := Lib.hid (show ∀ W, Below wB.heap.size wB W → Calls Tryd.prog 12 #[.agg D8.toArray, .int .i64 0, .slice As n cs, .int .u8 130] W fun e w' => e = .returned (.agg V2) ∧ Below W.heap.size W w' from fun W hW => by
          have q := legacy_any wB.heap.size _ _ _ _ _ _ 0 sc' 130 W (t8 W hW) (hsB W hW) hW.size hf1 (by omega) (by omega) (by omega) (.inl (by decide)) (hro.below hW)
          rw [legD_one HPX.out, ← hV2, ← HD8.out] at q
          exact q)
        have K4 := Lib.hid (show ∀ W, Below wB.heap.size wB W → Calls Tryd.prog 12 #[.agg FC.toArray, .int .i64 (m : Int), .slice As n cs, .int .u8 130] W fun e w' => e = .returned (.agg V2) ∧ Below W.heap.size W w' from fun W hW => by
          have q := legacy_any wB.heap.size _ _ _ _ _ _ (m : Int) sc' 130 W (t3 W hW) (hsB W hW) hW.size HFIT.out (by omega) (by omega) (by omega) (.inl (by decide)) (hro.below hW)
          rw [← hV2, ← HFC.out] at q
          exact q)
        have K5 := Lib.hid (show ∀ W, Below wB.heap.size wB W → Calls Tryd.prog 12 #[.agg D9.toArray, .int .i64 (m : Int), .slice As n cs, .int .u8 2] W fun e w' => e = .returned (.agg V3) ∧ Below W.heap.size W w' from fun W hW => by
          have q := legacy_any wB.heap.size _ _ _ _ _ _ (m : Int) sc' 2 W (t9 W hW) (hsB W hW) hW.size hf2 (by omega) (by omega) (by omega) (.inl (by decide)) (hro.below hW)
          rw [legD_none, ← hV3, ← HD9.out] at q
          exact q)
        have K6 := Lib.hid (show ∀ W, Below wB.heap.size wB W → Calls Tryd.prog 12 #[.agg FC.toArray, .int .i64 (m : Int), .slice As n cs, .int .u8 2] W fun e w' => e = .returned (.agg V3) ∧ Below W.heap.size W w' from fun W hW => by
          have q := legacy_any wB.heap.size _ _ _ _ _ _ (m : Int) sc' 2 W (t3 W hW) (hsB W hW) hW.size HFIT.out (by omega) (by omega) (by omega) (.inl (by decide)) (hro.below hW)
          rw [← hV3, ← HFC.out] at q
          exact q)
        have K7 := Lib.hid (show ∀ W, Below wB.heap.size wB W → Calls Tryd.prog 18 #[.agg D9.toArray, .int .i64 (m : Int), .slice As n cs, .int .i64 val, .int .u8 2] W fun e w' => e = .returned (.agg V4) ∧ Below W.heap.size W w' from fun W hW => by
          have q := witness_any wB.heap.size _ _ _ _ _ _ (m : Int) sc' val 2 W (t9 W hW) (hsB W hW) hW.size hf2 (by omega) hv0 hv1 (by omega) (by omega) (by decide) (hro.below hW)
          rw [witD_none, ← hV4, ← HD9.out] at q
          exact q)
        have K8 := Lib.hid (show ∀ W, Below wB.heap.size wB W → Calls Tryd.prog 18 #[.agg FC.toArray, .int .i64 (m : Int), .slice As n cs, .int .i64 val, .int .u8 2] W fun e w' => e = .returned (.agg V4) ∧ Below W.heap.size W w' from fun W hW => by
          have q := witness_any wB.heap.size _ _ _ _ _ _ (m : Int) sc' val 2 W (t3 W hW) (hsB W hW) hW.size HFIT.out (by omega) hv0 hv1 (by omega) (by omega) (by decide) (hro.below hW)
          rw [← hV4, ← HFC.out] at q
          exact q)
        have heq1 := fun W => eq_32 _ _ (witD_len t (m : Int) sc' val 130) (witD_len t (m : Int) sc' val 130) W
        have heq2 := fun W => eq_32 _ _ (legD_len t (m : Int) sc' 130) (legD_len t (m : Int) sc' 130) W
        have heq3 := fun W => eq_32 _ _ (legD_len t (m : Int) sc' 2) (legD_len t (m : Int) sc' 2) W
        have heq4 := fun W => eq_32 _ _ (witD_len t (m : Int) sc' val 2) (witD_len t (m : Int) sc' val 2) W
        simp only [beq_self_eq_true, ← hV1] at heq1
        simp only [beq_self_eq_true, ← hV2] at heq2
        simp only [beq_self_eq_true, ← hV3] at heq3
        simp only [beq_self_eq_true, ← hV4] at heq4
        have HSB := Lib.hid (show ∀ W, Below wB.heap.size wB W → VRow W G2 26 FC ∧ VRow W G8 26 D8 ∧ VRow W G9 26 D9 from fun W hW => ⟨R2B.out.below hW R2B.out.lt, R8B.out.below hW R8B.out.lt, RD.out.below hW RD.out.lt⟩)
        have HS0 := Lib.hid (show VRow wB.drew G2 26 FC ∧ VRow wB.drew G8 26 D8 ∧ VRow wB.drew G9 26 D9 from HSB.out _ (Below.refl _ wB).drew)
        have BX := Lib.hid (show Below wB.heap.size wB wB.drew from (Below.refl _ wB).drew)
        have FIN := Lib.hid (B3.out.trans (B3B.out.mono B3.out.size))
        clear hn4 hwB hD9 hd9 cJ fJ RB B9A hro hsB hf1 hf2 s68 t8 t9 t3 hV1 hV2 hV3 hV4 heqO
        go_upto_region 14 with fail
        refine wp_region_held_drew (S := (fun w' => VRow w' G2 26 FC ∧ VRow w' G8 26 D8 ∧ VRow w' G9 26 D9)) (by kernel_rfl) ?_ (fun hHeld => ?_)
        · exact HS0.out
        refine wpAnyH_take (i := 0) (oi := { dst := some 50, op := Go.Op.load 26 (Go.Operand.tmp 8), type := 26, pos := "top06.go:67", after := #[], guard := none }) (v := (.agg D8.toArray)) rfl (by kernel_rfl) (by kernel_rfl) (by kernel_rfl) (fun _ _ _ h => h) (yieldsIf_load_mid (by rfl) 26 (.tmp 8) rfl G8 0 rfl D8 _ (fun w' h => vrow_r0 h.2.1) Tryd.underlying26 rfl SD8.out) (by assumption) ?_
        try simp only [Act.put, List.setIfInBounds_toArray, List.set_cons_zero, List.set_cons_succ]
        refine wpAnyH_take (i := 1) (oi := { dst := some 51, op := Go.Op.move (Go.Operand.tmp 6), type := 27, pos := "top06.go:67", after := #[], guard := none }) (v := ?av1) rfl (by kernel_rfl) (by kernel_rfl) (by kernel_rfl) (fun _ _ _ h => h) (Or.inl ⟨by rfl, ?ay1⟩) (by assumption) ?ar1
        case ay1 => (intro w hSw; (try dsimp only at hSw); go_simp; try (with_reducible rfl))
        case ar1 =>
        try simp only [Act.put, List.setIfInBounds_toArray, List.set_cons_zero, List.set_cons_succ]
        refine wpAnyH_take (i := 2) (oi := { dst := some 52, op := Go.Op.move (Go.Operand.tmp 7), type := 2, pos := "top06.go:67", after := #[], guard := none }) (v := ?av2) rfl (by kernel_rfl) (by kernel_rfl) (by kernel_rfl) (fun _ _ _ h => h) (Or.inl ⟨by rfl, ?ay2⟩) (by assumption) ?ar2
        case ay2 => (intro w hSw; (try dsimp only at hSw); go_simp; try (with_reducible rfl))
        case ar2 =>
        try simp only [Act.put, List.setIfInBounds_toArray, List.set_cons_zero, List.set_cons_succ]
        refine wpAnyH_take (i := 3) (oi := { dst := some 53, op := Go.Op.move (Go.Operand.tmp 10), type := 5, pos := "top06.go:67", after := #[], guard := none }) (v := ?av3) rfl (by kernel_rfl) (by kernel_rfl) (by kernel_rfl) (fun _ _ _ h => h) (Or.inl ⟨by rfl, ?ay3⟩) (by assumption) ?ar3
        case ay3 => (intro w hSw; (try dsimp only at hSw); go_simp; try (with_reducible rfl))
        case ar3 =>
        try simp only [Act.put, List.setIfInBounds_toArray, List.set_cons_zero, List.set_cons_succ]
        refine wpAnyH_take (i := 5) (oi := { dst := some 55, op := Go.Op.load 26 (Go.Operand.tmp 2), type := 26, pos := "top06.go:67", after := #[], guard := none }) (v := (.agg FC.toArray)) rfl (by kernel_rfl) (by kernel_rfl) (by kernel_rfl) (fun _ _ _ h => h) (yieldsIf_load_mid (by rfl) 26 (.tmp 2) rfl G2 0 rfl FC _ (fun w' h => vrow_r0 h.1) Tryd.underlying26 rfl HFS.out) (by assumption) ?_
        try simp only [Act.put, List.setIfInBounds_toArray, List.set_cons_zero, List.set_cons_succ]
        refine wpAnyH_take (i := 6) (oi := { dst := some 56, op := Go.Op.move (Go.Operand.tmp 5), type := 3, pos := "top06.go:67", after := #[], guard := none }) (v := ?av6) rfl (by kernel_rfl) (by kernel_rfl) (by kernel_rfl) (fun _ _ _ h => h) (Or.inl ⟨by rfl, ?ay6⟩) (by assumption) ?ar6
        case ay6 => (intro w hSw; (try dsimp only at hSw); go_simp; try (with_reducible rfl))
        case ar6 =>
        try simp only [Act.put, List.setIfInBounds_toArray, List.set_cons_zero, List.set_cons_succ]
        refine wpAnyH_take (i := 7) (oi := { dst := some 57, op := Go.Op.move (Go.Operand.tmp 6), type := 27, pos := "top06.go:67", after := #[], guard := none }) (v := ?av7) rfl (by kernel_rfl) (by kernel_rfl) (by kernel_rfl) (fun _ _ _ h => h) (Or.inl ⟨by rfl, ?ay7⟩) (by assumption) ?ar7
        case ay7 => (intro w hSw; (try dsimp only at hSw); go_simp; try (with_reducible rfl))
        case ar7 =>
        try simp only [Act.put, List.setIfInBounds_toArray, List.set_cons_zero, List.set_cons_succ]
        refine wpAnyH_take (i := 8) (oi := { dst := some 58, op := Go.Op.move (Go.Operand.tmp 7), type := 2, pos := "top06.go:67", after := #[], guard := none }) (v := ?av8) rfl (by kernel_rfl) (by kernel_rfl) (by kernel_rfl) (fun _ _ _ h => h) (Or.inl ⟨by rfl, ?ay8⟩) (by assumption) ?ar8
        case ay8 => (intro w hSw; (try dsimp only at hSw); go_simp; try (with_reducible rfl))
        case ar8 =>
        try simp only [Act.put, List.setIfInBounds_toArray, List.set_cons_zero, List.set_cons_succ]
        refine wpAnyH_take (i := 9) (oi := { dst := some 59, op := Go.Op.move (Go.Operand.tmp 10), type := 5, pos := "top06.go:67", after := #[], guard := none }) (v := ?av9) rfl (by kernel_rfl) (by kernel_rfl) (by kernel_rfl) (fun _ _ _ h => h) (Or.inl ⟨by rfl, ?ay9⟩) (by assumption) ?ar9
        case ay9 => (intro w hSw; (try dsimp only at hSw); go_simp; try (with_reducible rfl))
        case ar9 =>
        try simp only [Act.put, List.setIfInBounds_toArray, List.set_cons_zero, List.set_cons_succ]
        refine wpAnyH_ready (rs := [4]) (by kernel_rfl) (by simp) ?_
        refine AllReadyH.cons (o := { dst := some 54, op := Go.Op.call { callee := Go.Callee.value (Go.Operand.func 18), args := #[Go.Operand.tmp 50, Go.Operand.const (Go.Value.int Go.IntKind.i64 0), Go.Operand.tmp 51, Go.Operand.tmp 52, Go.Operand.tmp 53], argTypes := #[26, 3, 27, 2, 5] }, type := 36, pos := "top06.go:67", after := #[{ on := 0, ground := Go.Ground.data }, { on := 1, ground := Go.Ground.data }, { on := 2, ground := Go.Ground.data }, { on := 3, ground := Go.Ground.data }], guard := none }) rfl (fun K hK => ?_) (AllReadyH.nil)
        go_simp
        refine (K1.out _ BX.out).mono ?_
        rintro e w12 ⟨rfl, hb⟩
        have BX := Lib.hid (BX.out.trans (hb.mono BX.out.size))
        clear hb
        refine hK.out _ _ ?_ (fun hHeld => ?_)
        · exact HSB.out _ BX.out
        clear hK K
        try simp only [Act.put, List.setIfInBounds_toArray, List.set_cons_zero, List.set_cons_succ]
        refine wpAnyH_ready (rs := [10]) (by kernel_rfl) (by simp) ?_
        refine AllReadyH.cons (o := { dst := some 60, op := Go.Op.call { callee := Go.Callee.value (Go.Operand.func 18), args := #[Go.Operand.tmp 55, Go.Operand.tmp 56, Go.Operand.tmp 57, Go.Operand.tmp 58, Go.Operand.tmp 59], argTypes := #[26, 3, 27, 2, 5] }, type := 36, pos := "top06.go:67", after := #[{ on := 5, ground := Go.Ground.data }, { on := 6, ground := Go.Ground.data }, { on := 7, ground := Go.Ground.data }, { on := 8, ground := Go.Ground.data }, { on := 9, ground := Go.Ground.data }, { on := 4, ground := Go.Ground.chain }], guard := none }) rfl (fun K hK => ?_) (AllReadyH.nil)
        go_simp
        refine (K2.out _ BX.out).mono ?_
        rintro e w12 ⟨rfl, hb⟩
        have BX := Lib.hid (BX.out.trans (hb.mono BX.out.size))
        clear hb
        refine hK.out _ _ ?_ (fun hHeld => ?_)
        · exact HSB.out _ BX.out
        clear hK K
        try simp only [Act.put, List.setIfInBounds_toArray, List.set_cons_zero, List.set_cons_succ]
        refine wpAnyH_take (i := 11) (oi := { dst := some 61, op := Go.Op.binOp Go.BinOp.eql 36 (Go.Operand.tmp 54) (Go.Operand.tmp 60) 36, type := 4, pos := "top06.go:67", after := #[{ on := 4, ground := Go.Ground.data }, { on := 10, ground := Go.Ground.data }], guard := none }) (v := (.bool true)) rfl (by kernel_rfl) (by kernel_rfl) (by kernel_rfl) (fun _ _ _ h => h) (Or.inl ⟨by rfl, ?a_4_10y11⟩) (by assumption) ?a_4_10r11
        case a_4_10y11 => (intro w hSw; (try dsimp only at hSw); go_simp; try (with_reducible rfl))
        case a_4_10r11 =>
        try simp only [Act.put, List.setIfInBounds_toArray, List.set_cons_zero, List.set_cons_succ]
        refine wpAnyH_take (i := 12) (oi := { dst := some 62, op := Go.Op.move (Go.Operand.tmp 61), type := 4, pos := "top06.go:67", after := #[{ on := 11, ground := Go.Ground.data }, { on := 10, ground := Go.Ground.chain }], guard := none }) (v := ?a_4_10v12) rfl (by kernel_rfl) (by kernel_rfl) (by kernel_rfl) (fun _ _ _ h => h) (Or.inl ⟨by rfl, ?a_4_10y12⟩) (by assumption) ?a_4_10r12
        case a_4_10y12 => (intro w hSw; (try dsimp only at hSw); go_simp; try (with_reducible rfl))
        case a_4_10r12 =>
        try simp only [Act.put, List.setIfInBounds_toArray, List.set_cons_zero, List.set_cons_succ]
        refine wpAnyH_take (i := 13) (oi := { dst := some 63, op := Go.Op.load 26 (Go.Operand.tmp 8), type := 26, pos := "top06.go:67", after := #[{ on := 12, ground := Go.Ground.guard }], guard := some (12, true) }) (v := (.agg D8.toArray)) rfl (by kernel_rfl) (by kernel_rfl) (by kernel_rfl) (fun _ _ _ h => h) (yieldsIf_load_mid (by rfl) 26 (.tmp 8) rfl G8 0 rfl D8 _ (fun w' h => vrow_r0 h.2.1) Tryd.underlying26 rfl SD8.out) (by assumption) ?_
        try simp only [Act.put, List.setIfInBounds_toArray, List.set_cons_zero, List.set_cons_succ]
        refine wpAnyH_take (i := 14) (oi := { dst := some 64, op := Go.Op.move (Go.Operand.tmp 6), type := 27, pos := "top06.go:67", after := #[{ on := 12, ground := Go.Ground.guard }], guard := some (12, true) }) (v := ?a_4_10v14) rfl (by kernel_rfl) (by kernel_rfl) (by kernel_rfl) (fun _ _ _ h => h) (Or.inl ⟨by rfl, ?a_4_10y14⟩) (by assumption) ?a_4_10r14
        case a_4_10y14 => (intro w hSw; (try dsimp only at hSw); go_simp; try (with_reducible rfl))
        case a_4_10r14 =>
        try simp only [Act.put, List.setIfInBounds_toArray, List.set_cons_zero, List.set_cons_succ]
        refine wpAnyH_take (i := 15) (oi := { dst := some 65, op := Go.Op.move (Go.Operand.tmp 10), type := 5, pos := "top06.go:67", after := #[{ on := 12, ground := Go.Ground.guard }], guard := some (12, true) }) (v := ?a_4_10v15) rfl (by kernel_rfl) (by kernel_rfl) (by kernel_rfl) (fun _ _ _ h => h) (Or.inl ⟨by rfl, ?a_4_10y15⟩) (by assumption) ?a_4_10r15
        case a_4_10y15 => (intro w hSw; (try dsimp only at hSw); go_simp; try (with_reducible rfl))
        case a_4_10r15 =>
        try simp only [Act.put, List.setIfInBounds_toArray, List.set_cons_zero, List.set_cons_succ]
        refine wpAnyH_take (i := 17) (oi := { dst := some 67, op := Go.Op.load 26 (Go.Operand.tmp 2), type := 26, pos := "top06.go:67", after := #[{ on := 12, ground := Go.Ground.guard }], guard := some (12, true) }) (v := (.agg FC.toArray)) rfl (by kernel_rfl) (by kernel_rfl) (by kernel_rfl) (fun _ _ _ h => h) (yieldsIf_load_mid (by rfl) 26 (.tmp 2) rfl G2 0 rfl FC _ (fun w' h => vrow_r0 h.1) Tryd.underlying26 rfl HFS.out) (by assumption) ?_
        try simp only [Act.put, List.setIfInBounds_toArray, List.set_cons_zero, List.set_cons_succ]
        refine wpAnyH_take (i := 18) (oi := { dst := some 68, op := Go.Op.move (Go.Operand.tmp 5), type := 3, pos := "top06.go:67", after := #[{ on := 12, ground := Go.Ground.guard }], guard := some (12, true) }) (v := ?a_4_10v18) rfl (by kernel_rfl) (by kernel_rfl) (by kernel_rfl) (fun _ _ _ h => h) (Or.inl ⟨by rfl, ?a_4_10y18⟩) (by assumption) ?a_4_10r18
        case a_4_10y18 => (intro w hSw; (try dsimp only at hSw); go_simp; try (with_reducible rfl))
        case a_4_10r18 =>
        try simp only [Act.put, List.setIfInBounds_toArray, List.set_cons_zero, List.set_cons_succ]
        refine wpAnyH_take (i := 19) (oi := { dst := some 69, op := Go.Op.move (Go.Operand.tmp 6), type := 27, pos := "top06.go:67", after := #[{ on := 12, ground := Go.Ground.guard }], guard := some (12, true) }) (v := ?a_4_10v19) rfl (by kernel_rfl) (by kernel_rfl) (by kernel_rfl) (fun _ _ _ h => h) (Or.inl ⟨by rfl, ?a_4_10y19⟩) (by assumption) ?a_4_10r19
        case a_4_10y19 => (intro w hSw; (try dsimp only at hSw); go_simp; try (with_reducible rfl))
        case a_4_10r19 =>
        try simp only [Act.put, List.setIfInBounds_toArray, List.set_cons_zero, List.set_cons_succ]
        refine wpAnyH_take (i := 20) (oi := { dst := some 70, op := Go.Op.move (Go.Operand.tmp 10), type := 5, pos := "top06.go:67", after := #[{ on := 12, ground := Go.Ground.guard }], guard := some (12, true) }) (v := ?a_4_10v20) rfl (by kernel_rfl) (by kernel_rfl) (by kernel_rfl) (fun _ _ _ h => h) (Or.inl ⟨by rfl, ?a_4_10y20⟩) (by assumption) ?a_4_10r20
        case a_4_10y20 => (intro w hSw; (try dsimp only at hSw); go_simp; try (with_reducible rfl))
        case a_4_10r20 =>
        try simp only [Act.put, List.setIfInBounds_toArray, List.set_cons_zero, List.set_cons_succ]
        refine wpAnyH_ready (rs := [16]) (by kernel_rfl) (by simp) ?_
        refine AllReadyH.cons (o := { dst := some 66, op := Go.Op.call { callee := Go.Callee.value (Go.Operand.func 12), args := #[Go.Operand.tmp 63, Go.Operand.const (Go.Value.int Go.IntKind.i64 0), Go.Operand.tmp 64, Go.Operand.tmp 65], argTypes := #[26, 3, 27, 5] }, type := 36, pos := "top06.go:67", after := #[{ on := 13, ground := Go.Ground.data }, { on := 14, ground := Go.Ground.data }, { on := 15, ground := Go.Ground.data }, { on := 12, ground := Go.Ground.chain }, { on := 12, ground := Go.Ground.guard }], guard := some (12, true) }) rfl (fun K hK => ?_) (AllReadyH.nil)
        go_simp
        refine (K3.out _ BX.out).mono ?_
        rintro e w12 ⟨rfl, hb⟩
        have BX := Lib.hid (BX.out.trans (hb.mono BX.out.size))
        clear hb
        refine hK.out _ _ ?_ (fun hHeld => ?_)
        · exact HSB.out _ BX.out
        clear hK K
        try simp only [Act.put, List.setIfInBounds_toArray, List.set_cons_zero, List.set_cons_succ]
        refine wpAnyH_ready (rs := [21]) (by kernel_rfl) (by simp) ?_
        refine AllReadyH.cons (o := { dst := some 71, op := Go.Op.call { callee := Go.Callee.value (Go.Operand.func 12), args := #[Go.Operand.tmp 67, Go.Operand.tmp 68, Go.Operand.tmp 69, Go.Operand.tmp 70], argTypes := #[26, 3, 27, 5] }, type := 36, pos := "top06.go:67", after := #[{ on := 17, ground := Go.Ground.data }, { on := 18, ground := Go.Ground.data }, { on := 19, ground := Go.Ground.data }, { on := 20, ground := Go.Ground.data }, { on := 16, ground := Go.Ground.chain }, { on := 12, ground := Go.Ground.guard }], guard := some (12, true) }) rfl (fun K hK => ?_) (AllReadyH.nil)
        go_simp
        refine (K4.out _ BX.out).mono ?_
        rintro e w12 ⟨rfl, hb⟩
        have BX := Lib.hid (BX.out.trans (hb.mono BX.out.size))
        clear hb
        refine hK.out _ _ ?_ (fun hHeld => ?_)
        · exact HSB.out _ BX.out
        clear hK K
        try simp only [Act.put, List.setIfInBounds_toArray, List.set_cons_zero, List.set_cons_succ]
        refine wpAnyH_take (i := 22) (oi := { dst := some 72, op := Go.Op.binOp Go.BinOp.eql 36 (Go.Operand.tmp 66) (Go.Operand.tmp 71) 36, type := 4, pos := "top06.go:67", after := #[{ on := 16, ground := Go.Ground.data }, { on := 21, ground := Go.Ground.data }, { on := 12, ground := Go.Ground.guard }], guard := some (12, true) }) (v := (.bool true)) rfl (by kernel_rfl) (by kernel_rfl) (by kernel_rfl) (fun _ _ _ h => h) (Or.inl ⟨by rfl, ?a_4_10_16_21y22⟩) (by assumption) ?a_4_10_16_21r22
        case a_4_10_16_21y22 => (intro w hSw; (try dsimp only at hSw); go_simp; try (with_reducible rfl))
        case a_4_10_16_21r22 =>
        try simp only [Act.put, List.setIfInBounds_toArray, List.set_cons_zero, List.set_cons_succ]
        refine wpAnyH_take (i := 23) (oi := { dst := some 73, op := Go.Op.pick (Go.Operand.tmp 62) (Go.Operand.tmp 72) (Go.Operand.const (Go.Value.bool false)), type := 4, pos := "top06.go:67", after := #[{ on := 12, ground := Go.Ground.data }, { on := 22, ground := Go.Ground.data }], guard := none }) (v := ?a_4_10_16_21v23) rfl (by kernel_rfl) (by kernel_rfl) (by kernel_rfl) (fun _ _ _ h => h) (Or.inl ⟨by rfl, ?a_4_10_16_21y23⟩) (by assumption) ?a_4_10_16_21r23
        case a_4_10_16_21y23 => (intro w hSw; (try dsimp only at hSw); go_simp; try (with_reducible rfl))
        case a_4_10_16_21r23 =>
        try simp only [Act.put, List.setIfInBounds_toArray, List.set_cons_zero, List.set_cons_succ]
        refine wpAnyH_take (i := 24) (oi := { dst := some 74, op := Go.Op.move (Go.Operand.tmp 73), type := 4, pos := "top06.go:67", after := #[{ on := 23, ground := Go.Ground.data }, { on := 21, ground := Go.Ground.chain }], guard := none }) (v := ?a_4_10_16_21v24) rfl (by kernel_rfl) (by kernel_rfl) (by kernel_rfl) (fun _ _ _ h => h) (Or.inl ⟨by rfl, ?a_4_10_16_21y24⟩) (by assumption) ?a_4_10_16_21r24
        case a_4_10_16_21y24 => (intro w hSw; (try dsimp only at hSw); go_simp; try (with_reducible rfl))
        case a_4_10_16_21r24 =>
        try simp only [Act.put, List.setIfInBounds_toArray, List.set_cons_zero, List.set_cons_succ]
        refine wpAnyH_take (i := 25) (oi := { dst := some 75, op := Go.Op.load 26 (Go.Operand.tmp 9), type := 26, pos := "top06.go:67", after := #[{ on := 24, ground := Go.Ground.guard }], guard := some (24, true) }) (v := (.agg D9.toArray)) rfl (by kernel_rfl) (by kernel_rfl) (by kernel_rfl) (fun _ _ _ h => h) (yieldsIf_load_mid (by rfl) 26 (.tmp 9) rfl G9 0 rfl D9 _ (fun w' h => vrow_r0 h.2.2) Tryd.underlying26 rfl SD9.out) (by assumption) ?_
        try simp only [Act.put, List.setIfInBounds_toArray, List.set_cons_zero, List.set_cons_succ]
        refine wpAnyH_take (i := 26) (oi := { dst := some 76, op := Go.Op.move (Go.Operand.tmp 5), type := 3, pos := "top06.go:67", after := #[{ on := 24, ground := Go.Ground.guard }], guard := some (24, true) }) (v := ?a_4_10_16_21v26) rfl (by kernel_rfl) (by kernel_rfl) (by kernel_rfl) (fun _ _ _ h => h) (Or.inl ⟨by rfl, ?a_4_10_16_21y26⟩) (by assumption) ?a_4_10_16_21r26
        case a_4_10_16_21y26 => (intro w hSw; (try dsimp only at hSw); go_simp; try (with_reducible rfl))
        case a_4_10_16_21r26 =>
        try simp only [Act.put, List.setIfInBounds_toArray, List.set_cons_zero, List.set_cons_succ]
        refine wpAnyH_take (i := 27) (oi := { dst := some 77, op := Go.Op.move (Go.Operand.tmp 6), type := 27, pos := "top06.go:67", after := #[{ on := 24, ground := Go.Ground.guard }], guard := some (24, true) }) (v := ?a_4_10_16_21v27) rfl (by kernel_rfl) (by kernel_rfl) (by kernel_rfl) (fun _ _ _ h => h) (Or.inl ⟨by rfl, ?a_4_10_16_21y27⟩) (by assumption) ?a_4_10_16_21r27
        case a_4_10_16_21y27 => (intro w hSw; (try dsimp only at hSw); go_simp; try (with_reducible rfl))
        case a_4_10_16_21r27 =>
        try simp only [Act.put, List.setIfInBounds_toArray, List.set_cons_zero, List.set_cons_succ]
        refine wpAnyH_take (i := 29) (oi := { dst := some 79, op := Go.Op.load 26 (Go.Operand.tmp 2), type := 26, pos := "top06.go:67", after := #[{ on := 24, ground := Go.Ground.guard }], guard := some (24, true) }) (v := (.agg FC.toArray)) rfl (by kernel_rfl) (by kernel_rfl) (by kernel_rfl) (fun _ _ _ h => h) (yieldsIf_load_mid (by rfl) 26 (.tmp 2) rfl G2 0 rfl FC _ (fun w' h => vrow_r0 h.1) Tryd.underlying26 rfl HFS.out) (by assumption) ?_
        try simp only [Act.put, List.setIfInBounds_toArray, List.set_cons_zero, List.set_cons_succ]
        refine wpAnyH_take (i := 30) (oi := { dst := some 80, op := Go.Op.move (Go.Operand.tmp 5), type := 3, pos := "top06.go:67", after := #[{ on := 24, ground := Go.Ground.guard }], guard := some (24, true) }) (v := ?a_4_10_16_21v30) rfl (by kernel_rfl) (by kernel_rfl) (by kernel_rfl) (fun _ _ _ h => h) (Or.inl ⟨by rfl, ?a_4_10_16_21y30⟩) (by assumption) ?a_4_10_16_21r30
        case a_4_10_16_21y30 => (intro w hSw; (try dsimp only at hSw); go_simp; try (with_reducible rfl))
        case a_4_10_16_21r30 =>
        try simp only [Act.put, List.setIfInBounds_toArray, List.set_cons_zero, List.set_cons_succ]
        refine wpAnyH_take (i := 31) (oi := { dst := some 81, op := Go.Op.move (Go.Operand.tmp 6), type := 27, pos := "top06.go:67", after := #[{ on := 24, ground := Go.Ground.guard }], guard := some (24, true) }) (v := ?a_4_10_16_21v31) rfl (by kernel_rfl) (by kernel_rfl) (by kernel_rfl) (fun _ _ _ h => h) (Or.inl ⟨by rfl, ?a_4_10_16_21y31⟩) (by assumption) ?a_4_10_16_21r31
        case a_4_10_16_21y31 => (intro w hSw; (try dsimp only at hSw); go_simp; try (with_reducible rfl))
        case a_4_10_16_21r31 =>
        try simp only [Act.put, List.setIfInBounds_toArray, List.set_cons_zero, List.set_cons_succ]
        refine wpAnyH_ready (rs := [28]) (by kernel_rfl) (by simp) ?_
        refine AllReadyH.cons (o := { dst := some 78, op := Go.Op.call { callee := Go.Callee.value (Go.Operand.func 12), args := #[Go.Operand.tmp 75, Go.Operand.tmp 76, Go.Operand.tmp 77, Go.Operand.const (Go.Value.int Go.IntKind.u8 2)], argTypes := #[26, 3, 27, 5] }, type := 36, pos := "top06.go:68", after := #[{ on := 25, ground := Go.Ground.data }, { on := 26, ground := Go.Ground.data }, { on := 27, ground := Go.Ground.data }, { on := 24, ground := Go.Ground.chain }, { on := 24, ground := Go.Ground.guard }], guard := some (24, true) }) rfl (fun K hK => ?_) (AllReadyH.nil)
        go_simp
        refine (K5.out _ BX.out).mono ?_
        rintro e w12 ⟨rfl, hb⟩
        have BX := Lib.hid (BX.out.trans (hb.mono BX.out.size))
        clear hb
        refine hK.out _ _ ?_ (fun hHeld => ?_)
        · exact HSB.out _ BX.out
        clear hK K
        try simp only [Act.put, List.setIfInBounds_toArray, List.set_cons_zero, List.set_cons_succ]
        refine wpAnyH_ready (rs := [32]) (by kernel_rfl) (by simp) ?_
        refine AllReadyH.cons (o := { dst := some 82, op := Go.Op.call { callee := Go.Callee.value (Go.Operand.func 12), args := #[Go.Operand.tmp 79, Go.Operand.tmp 80, Go.Operand.tmp 81, Go.Operand.const (Go.Value.int Go.IntKind.u8 2)], argTypes := #[26, 3, 27, 5] }, type := 36, pos := "top06.go:68", after := #[{ on := 29, ground := Go.Ground.data }, { on := 30, ground := Go.Ground.data }, { on := 31, ground := Go.Ground.data }, { on := 28, ground := Go.Ground.chain }, { on := 24, ground := Go.Ground.guard }], guard := some (24, true) }) rfl (fun K hK => ?_) (AllReadyH.nil)
        go_simp
        refine (K6.out _ BX.out).mono ?_
        rintro e w12 ⟨rfl, hb⟩
        have BX := Lib.hid (BX.out.trans (hb.mono BX.out.size))
        clear hb
        refine hK.out _ _ ?_ (fun hHeld => ?_)
        · exact HSB.out _ BX.out
        clear hK K
        try simp only [Act.put, List.setIfInBounds_toArray, List.set_cons_zero, List.set_cons_succ]
        refine wpAnyH_take (i := 33) (oi := { dst := some 83, op := Go.Op.binOp Go.BinOp.eql 36 (Go.Operand.tmp 78) (Go.Operand.tmp 82) 36, type := 4, pos := "top06.go:67", after := #[{ on := 28, ground := Go.Ground.data }, { on := 32, ground := Go.Ground.data }, { on := 24, ground := Go.Ground.guard }], guard := some (24, true) }) (v := (.bool true)) rfl (by kernel_rfl) (by kernel_rfl) (by kernel_rfl) (fun _ _ _ h => h) (Or.inl ⟨by rfl, ?a_4_10_16_21_28_32y33⟩) (by assumption) ?a_4_10_16_21_28_32r33
        case a_4_10_16_21_28_32y33 => (intro w hSw; (try dsimp only at hSw); go_simp; try (with_reducible rfl))
        case a_4_10_16_21_28_32r33 =>
        try simp only [Act.put, List.setIfInBounds_toArray, List.set_cons_zero, List.set_cons_succ]
        refine wpAnyH_take (i := 34) (oi := { dst := some 84, op := Go.Op.pick (Go.Operand.tmp 74) (Go.Operand.tmp 83) (Go.Operand.const (Go.Value.bool false)), type := 4, pos := "top06.go:67", after := #[{ on := 24, ground := Go.Ground.data }, { on := 33, ground := Go.Ground.data }], guard := none }) (v := ?a_4_10_16_21_28_32v34) rfl (by kernel_rfl) (by kernel_rfl) (by kernel_rfl) (fun _ _ _ h => h) (Or.inl ⟨by rfl, ?a_4_10_16_21_28_32y34⟩) (by assumption) ?a_4_10_16_21_28_32r34
        case a_4_10_16_21_28_32y34 => (intro w hSw; (try dsimp only at hSw); go_simp; try (with_reducible rfl))
        case a_4_10_16_21_28_32r34 =>
        try simp only [Act.put, List.setIfInBounds_toArray, List.set_cons_zero, List.set_cons_succ]
        refine wpAnyH_take (i := 35) (oi := { dst := some 85, op := Go.Op.move (Go.Operand.tmp 84), type := 4, pos := "top06.go:67", after := #[{ on := 34, ground := Go.Ground.data }, { on := 32, ground := Go.Ground.chain }], guard := none }) (v := ?a_4_10_16_21_28_32v35) rfl (by kernel_rfl) (by kernel_rfl) (by kernel_rfl) (fun _ _ _ h => h) (Or.inl ⟨by rfl, ?a_4_10_16_21_28_32y35⟩) (by assumption) ?a_4_10_16_21_28_32r35
        case a_4_10_16_21_28_32y35 => (intro w hSw; (try dsimp only at hSw); go_simp; try (with_reducible rfl))
        case a_4_10_16_21_28_32r35 =>
        try simp only [Act.put, List.setIfInBounds_toArray, List.set_cons_zero, List.set_cons_succ]
        refine wpAnyH_take (i := 36) (oi := { dst := some 86, op := Go.Op.load 26 (Go.Operand.tmp 9), type := 26, pos := "top06.go:67", after := #[{ on := 35, ground := Go.Ground.guard }], guard := some (35, true) }) (v := (.agg D9.toArray)) rfl (by kernel_rfl) (by kernel_rfl) (by kernel_rfl) (fun _ _ _ h => h) (yieldsIf_load_mid (by rfl) 26 (.tmp 9) rfl G9 0 rfl D9 _ (fun w' h => vrow_r0 h.2.2) Tryd.underlying26 rfl SD9.out) (by assumption) ?_
        try simp only [Act.put, List.setIfInBounds_toArray, List.set_cons_zero, List.set_cons_succ]
        refine wpAnyH_take (i := 37) (oi := { dst := some 87, op := Go.Op.move (Go.Operand.tmp 5), type := 3, pos := "top06.go:67", after := #[{ on := 35, ground := Go.Ground.guard }], guard := some (35, true) }) (v := ?a_4_10_16_21_28_32v37) rfl (by kernel_rfl) (by kernel_rfl) (by kernel_rfl) (fun _ _ _ h => h) (Or.inl ⟨by rfl, ?a_4_10_16_21_28_32y37⟩) (by assumption) ?a_4_10_16_21_28_32r37
        case a_4_10_16_21_28_32y37 => (intro w hSw; (try dsimp only at hSw); go_simp; try (with_reducible rfl))
        case a_4_10_16_21_28_32r37 =>
        try simp only [Act.put, List.setIfInBounds_toArray, List.set_cons_zero, List.set_cons_succ]
        refine wpAnyH_take (i := 38) (oi := { dst := some 88, op := Go.Op.move (Go.Operand.tmp 6), type := 27, pos := "top06.go:67", after := #[{ on := 35, ground := Go.Ground.guard }], guard := some (35, true) }) (v := ?a_4_10_16_21_28_32v38) rfl (by kernel_rfl) (by kernel_rfl) (by kernel_rfl) (fun _ _ _ h => h) (Or.inl ⟨by rfl, ?a_4_10_16_21_28_32y38⟩) (by assumption) ?a_4_10_16_21_28_32r38
        case a_4_10_16_21_28_32y38 => (intro w hSw; (try dsimp only at hSw); go_simp; try (with_reducible rfl))
        case a_4_10_16_21_28_32r38 =>
        try simp only [Act.put, List.setIfInBounds_toArray, List.set_cons_zero, List.set_cons_succ]
        refine wpAnyH_take (i := 39) (oi := { dst := some 89, op := Go.Op.move (Go.Operand.tmp 7), type := 2, pos := "top06.go:67", after := #[{ on := 35, ground := Go.Ground.guard }], guard := some (35, true) }) (v := ?a_4_10_16_21_28_32v39) rfl (by kernel_rfl) (by kernel_rfl) (by kernel_rfl) (fun _ _ _ h => h) (Or.inl ⟨by rfl, ?a_4_10_16_21_28_32y39⟩) (by assumption) ?a_4_10_16_21_28_32r39
        case a_4_10_16_21_28_32y39 => (intro w hSw; (try dsimp only at hSw); go_simp; try (with_reducible rfl))
        case a_4_10_16_21_28_32r39 =>
        try simp only [Act.put, List.setIfInBounds_toArray, List.set_cons_zero, List.set_cons_succ]
        refine wpAnyH_take (i := 41) (oi := { dst := some 91, op := Go.Op.load 26 (Go.Operand.tmp 2), type := 26, pos := "top06.go:67", after := #[{ on := 35, ground := Go.Ground.guard }], guard := some (35, true) }) (v := (.agg FC.toArray)) rfl (by kernel_rfl) (by kernel_rfl) (by kernel_rfl) (fun _ _ _ h => h) (yieldsIf_load_mid (by rfl) 26 (.tmp 2) rfl G2 0 rfl FC _ (fun w' h => vrow_r0 h.1) Tryd.underlying26 rfl HFS.out) (by assumption) ?_
        try simp only [Act.put, List.setIfInBounds_toArray, List.set_cons_zero, List.set_cons_succ]
        refine wpAnyH_take (i := 42) (oi := { dst := some 92, op := Go.Op.move (Go.Operand.tmp 5), type := 3, pos := "top06.go:67", after := #[{ on := 35, ground := Go.Ground.guard }], guard := some (35, true) }) (v := ?a_4_10_16_21_28_32v42) rfl (by kernel_rfl) (by kernel_rfl) (by kernel_rfl) (fun _ _ _ h => h) (Or.inl ⟨by rfl, ?a_4_10_16_21_28_32y42⟩) (by assumption) ?a_4_10_16_21_28_32r42
        case a_4_10_16_21_28_32y42 => (intro w hSw; (try dsimp only at hSw); go_simp; try (with_reducible rfl))
        case a_4_10_16_21_28_32r42 =>
        try simp only [Act.put, List.setIfInBounds_toArray, List.set_cons_zero, List.set_cons_succ]
        refine wpAnyH_take (i := 43) (oi := { dst := some 93, op := Go.Op.move (Go.Operand.tmp 6), type := 27, pos := "top06.go:67", after := #[{ on := 35, ground := Go.Ground.guard }], guard := some (35, true) }) (v := ?a_4_10_16_21_28_32v43) rfl (by kernel_rfl) (by kernel_rfl) (by kernel_rfl) (fun _ _ _ h => h) (Or.inl ⟨by rfl, ?a_4_10_16_21_28_32y43⟩) (by assumption) ?a_4_10_16_21_28_32r43
        case a_4_10_16_21_28_32y43 => (intro w hSw; (try dsimp only at hSw); go_simp; try (with_reducible rfl))
        case a_4_10_16_21_28_32r43 =>
        try simp only [Act.put, List.setIfInBounds_toArray, List.set_cons_zero, List.set_cons_succ]
        refine wpAnyH_take (i := 44) (oi := { dst := some 94, op := Go.Op.move (Go.Operand.tmp 7), type := 2, pos := "top06.go:67", after := #[{ on := 35, ground := Go.Ground.guard }], guard := some (35, true) }) (v := ?a_4_10_16_21_28_32v44) rfl (by kernel_rfl) (by kernel_rfl) (by kernel_rfl) (fun _ _ _ h => h) (Or.inl ⟨by rfl, ?a_4_10_16_21_28_32y44⟩) (by assumption) ?a_4_10_16_21_28_32r44
        case a_4_10_16_21_28_32y44 => (intro w hSw; (try dsimp only at hSw); go_simp; try (with_reducible rfl))
        case a_4_10_16_21_28_32r44 =>
        try simp only [Act.put, List.setIfInBounds_toArray, List.set_cons_zero, List.set_cons_succ]
        refine wpAnyH_ready (rs := [40]) (by kernel_rfl) (by simp) ?_
        refine AllReadyH.cons (o := { dst := some 90, op := Go.Op.call { callee := Go.Callee.value (Go.Operand.func 18), args := #[Go.Operand.tmp 86, Go.Operand.tmp 87, Go.Operand.tmp 88, Go.Operand.tmp 89, Go.Operand.const (Go.Value.int Go.IntKind.u8 2)], argTypes := #[26, 3, 27, 2, 5] }, type := 36, pos := "top06.go:68", after := #[{ on := 36, ground := Go.Ground.data }, { on := 37, ground := Go.Ground.data }, { on := 38, ground := Go.Ground.data }, { on := 39, ground := Go.Ground.data }, { on := 35, ground := Go.Ground.chain }, { on := 35, ground := Go.Ground.guard }], guard := some (35, true) }) rfl (fun K hK => ?_) (AllReadyH.nil)
        go_simp
        refine (K7.out _ BX.out).mono ?_
        rintro e w12 ⟨rfl, hb⟩
        have BX := Lib.hid (BX.out.trans (hb.mono BX.out.size))
        clear hb
        refine hK.out _ _ ?_ (fun hHeld => ?_)
        · exact HSB.out _ BX.out
        clear hK K
        try simp only [Act.put, List.setIfInBounds_toArray, List.set_cons_zero, List.set_cons_succ]
        refine wpAnyH_ready (rs := [45]) (by kernel_rfl) (by simp) ?_
        refine AllReadyH.cons (o := { dst := some 95, op := Go.Op.call { callee := Go.Callee.value (Go.Operand.func 18), args := #[Go.Operand.tmp 91, Go.Operand.tmp 92, Go.Operand.tmp 93, Go.Operand.tmp 94, Go.Operand.const (Go.Value.int Go.IntKind.u8 2)], argTypes := #[26, 3, 27, 2, 5] }, type := 36, pos := "top06.go:68", after := #[{ on := 41, ground := Go.Ground.data }, { on := 42, ground := Go.Ground.data }, { on := 43, ground := Go.Ground.data }, { on := 44, ground := Go.Ground.data }, { on := 40, ground := Go.Ground.chain }, { on := 35, ground := Go.Ground.guard }], guard := some (35, true) }) rfl (fun K hK => ?_) (AllReadyH.nil)
        go_simp
        refine (K8.out _ BX.out).mono ?_
        rintro e w12 ⟨rfl, hb⟩
        have BX := Lib.hid (BX.out.trans (hb.mono BX.out.size))
        clear hb
        refine hK.out _ _ ?_ (fun hHeld => ?_)
        · exact HSB.out _ BX.out
        clear hK K
        try simp only [Act.put, List.setIfInBounds_toArray, List.set_cons_zero, List.set_cons_succ]
        refine wpAnyH_take (i := 46) (oi := { dst := some 96, op := Go.Op.binOp Go.BinOp.eql 36 (Go.Operand.tmp 90) (Go.Operand.tmp 95) 36, type := 4, pos := "top06.go:67", after := #[{ on := 40, ground := Go.Ground.data }, { on := 45, ground := Go.Ground.data }, { on := 35, ground := Go.Ground.guard }], guard := some (35, true) }) (v := (.bool true)) rfl (by kernel_rfl) (by kernel_rfl) (by kernel_rfl) (fun _ _ _ h => h) (Or.inl ⟨by rfl, ?a_4_10_16_21_28_32_40_45y46⟩) (by assumption) ?a_4_10_16_21_28_32_40_45r46
        case a_4_10_16_21_28_32_40_45y46 => (intro w hSw; (try dsimp only at hSw); go_simp; try (with_reducible rfl))
        case a_4_10_16_21_28_32_40_45r46 =>
        try simp only [Act.put, List.setIfInBounds_toArray, List.set_cons_zero, List.set_cons_succ]
        refine wpAnyH_take (i := 47) (oi := { dst := some 97, op := Go.Op.pick (Go.Operand.tmp 85) (Go.Operand.tmp 96) (Go.Operand.const (Go.Value.bool false)), type := 4, pos := "top06.go:67", after := #[{ on := 35, ground := Go.Ground.data }, { on := 46, ground := Go.Ground.data }], guard := none }) (v := ?a_4_10_16_21_28_32_40_45v47) rfl (by kernel_rfl) (by kernel_rfl) (by kernel_rfl) (fun _ _ _ h => h) (Or.inl ⟨by rfl, ?a_4_10_16_21_28_32_40_45y47⟩) (by assumption) ?a_4_10_16_21_28_32_40_45r47
        case a_4_10_16_21_28_32_40_45y47 => (intro w hSw; (try dsimp only at hSw); go_simp; try (with_reducible rfl))
        case a_4_10_16_21_28_32_40_45r47 =>
        try simp only [Act.put, List.setIfInBounds_toArray, List.set_cons_zero, List.set_cons_succ]
        refine wpAnyH_take (i := 48) (oi := { dst := some 4, op := Go.Op.assign (Go.Operand.tmp 97), type := 4, pos := "top06.go:67", after := #[{ on := 47, ground := Go.Ground.data }, { on := 45, ground := Go.Ground.chain }, { on := 0, ground := Go.Ground.phase }, { on := 1, ground := Go.Ground.phase }, { on := 2, ground := Go.Ground.phase }, { on := 3, ground := Go.Ground.phase }, { on := 4, ground := Go.Ground.phase }, { on := 5, ground := Go.Ground.phase }, { on := 6, ground := Go.Ground.phase }, { on := 7, ground := Go.Ground.phase }, { on := 8, ground := Go.Ground.phase }, { on := 9, ground := Go.Ground.phase }, { on := 10, ground := Go.Ground.phase }, { on := 11, ground := Go.Ground.phase }, { on := 12, ground := Go.Ground.phase }, { on := 13, ground := Go.Ground.phase }, { on := 14, ground := Go.Ground.phase }, { on := 15, ground := Go.Ground.phase }, { on := 16, ground := Go.Ground.phase }, { on := 17, ground := Go.Ground.phase }, { on := 18, ground := Go.Ground.phase }, { on := 19, ground := Go.Ground.phase }, { on := 20, ground := Go.Ground.phase }, { on := 21, ground := Go.Ground.phase }, { on := 22, ground := Go.Ground.phase }, { on := 23, ground := Go.Ground.phase }, { on := 24, ground := Go.Ground.phase }, { on := 25, ground := Go.Ground.phase }, { on := 26, ground := Go.Ground.phase }, { on := 27, ground := Go.Ground.phase }, { on := 28, ground := Go.Ground.phase }, { on := 29, ground := Go.Ground.phase }, { on := 30, ground := Go.Ground.phase }, { on := 31, ground := Go.Ground.phase }, { on := 32, ground := Go.Ground.phase }, { on := 33, ground := Go.Ground.phase }, { on := 34, ground := Go.Ground.phase }, { on := 35, ground := Go.Ground.phase }, { on := 36, ground := Go.Ground.phase }, { on := 37, ground := Go.Ground.phase }, { on := 38, ground := Go.Ground.phase }, { on := 39, ground := Go.Ground.phase }, { on := 40, ground := Go.Ground.phase }, { on := 41, ground := Go.Ground.phase }, { on := 42, ground := Go.Ground.phase }, { on := 43, ground := Go.Ground.phase }, { on := 44, ground := Go.Ground.phase }, { on := 45, ground := Go.Ground.phase }, { on := 46, ground := Go.Ground.phase }, { on := 47, ground := Go.Ground.phase }], guard := none }) (v := ?a_4_10_16_21_28_32_40_45v48) rfl (by kernel_rfl) (by kernel_rfl) (by kernel_rfl) (fun _ _ _ h => h) (Or.inl ⟨by rfl, ?a_4_10_16_21_28_32_40_45y48⟩) (by assumption) ?a_4_10_16_21_28_32_40_45r48
        case a_4_10_16_21_28_32_40_45y48 => (intro w hSw; (try dsimp only at hSw); go_simp; try (with_reducible rfl))
        case a_4_10_16_21_28_32_40_45r48 =>
        try simp only [Act.put, List.setIfInBounds_toArray, List.set_cons_zero, List.set_cons_succ]
        refine wpAnyH_done (by kernel_rfl) ?_ _
        go_wp2_with fail
        go_ret
        exact ⟨rfl, FIN.out.trans (BX.out.mono FIN.out.size)⟩
end Go.Proofs.YthelmclpmalofaaDoor

/-
  From an argument that can be read as data to a transaction in memory, with the sizes of all its parts; and from the rows' listed variables to the roots that the walks read. Conditions: none.
-/
namespace Go.Proofs.YthelmclpmalofaaDoor
open Go.ChangeShapes Go.WideShapes Go.ChangeAt Go.RowKit Go.Deep

theorem b8_bv {k : Int} (h0 : 0 ≤ k) (h1 : k ≤ 255) : bv (b8 k) = .int .u8 k := bv_b8_of h0 (by omega)

theorem add_at (b o i : Nat) : (⟨b, o, none⟩ : Addr).add i = ⟨b, o + i, none⟩ := by unfold Addr.add; split <;> simp_all

theorem spot_none {w : World} {a : Addr} {v : Value} (h : w.cell? a = some v) : a = ⟨a.block, a.off, none⟩ := by
  have := World.cell?_spot h
  cases a
  simp_all

/-- A slice of bytes that came in. -/
theorem byt_open {H : Type} {enc : TypeId × Value → H} {P : Program} {w : World} {spare : Nat → Bool} {held : Bool} {fuel : Nat} {t e : TypeId} {v : Value} {x : DataW H × List MemPlace}
    (ht : P.underlying t = some (.slice e)) (he : P.underlying e = some (.int .u8)) (hc : P.cellsOf e = 1) (h : DataW.trod enc P w 0 spare held fuel t [v] = some x) : ∃ bs, Byt w w.heap.size v bs := by
  rcases open_ints ht he hc h with ⟨hcs, _⟩ | ⟨a, len, cap, zs, hcs, _, hl, hm, hz, _, hcell, hwf⟩
  · simp only [List.cons.injEq, and_true] at hcs
    subst hcs
    exact ⟨[], Byt.nil _ _⟩
  · simp only [List.cons.injEq, and_true] at hcs
    subst hcs
    have hlz : len ≤ zs.length := by rw [hz]; split <;> omega
    have hlen : ((zs.take len).map b8).length = len := by simp; omega
    refine ⟨(zs.take len).map b8, some a, cap, by rw [hlen], by rw [hlen]; exact hl, hm, (by intro h; cases h), fun hne => ?_⟩
    have hpos : 0 < len := by
      rcases Nat.eq_zero_or_pos len with h0 | h0
      · rw [h0] at hne; simp at hne
      · exact h0
    have h0 := hcell 0 (by omega)
    have hadd0 : a.add 0 = a := by unfold Addr.add; simp
    rw [hadd0] at h0
    have hsp := spot_none h0
    refine ⟨a.block, a.off, by rw [← hsp], World.block_lt_of_cell? _ _ h0, fun j u hu => ?_⟩
    have hj : j < len := by
      have := (List.getElem?_eq_some_iff.1 hu).1
      omega
    have hcj := hcell j (by omega)
    have hadd : a.add j = ⟨a.block, a.off + j, none⟩ := (congrArg (fun q : Addr => q.add j) hsp).trans (add_at _ _ _)
    rw [hadd] at hcj
    rw [hcj]
    have hzj : zs.getD j 0 = zs[j]'(by omega) := by rw [List.getD, List.getElem?_eq_getElem (show j < zs.length by omega)]; rfl
    rw [List.getElem?_map, List.getElem?_take, if_pos hj, List.getElem?_eq_getElem (by omega)] at hu
    simp at hu
    subst hu
    have hw := hwf (zs[j]'(by omega)) (List.getElem_mem _)
    rw [hzj]
    have hw2 := bounds_u8 hw
    rw [b8_bv]
    · exact hw2.1
    · have := hw2.2
      omega

/-! What data weighs: no slice in it is greater than the reach. -/
def Light {H : Type} (P : Program) (t : TypeId) (d : DataW H) : Prop := ∀ k ∈ d.weights P t, k ≤ reachBytes
theorem weightsAll_mem {H : Type} {P : Program} {e : TypeId} {d : DataW H} {k : Nat} (hk : k ∈ d.weights P e) : ∀ {l : List (DataW H)}, d ∈ l → k ∈ DataW.weightsAll P e l
  | [], h => by cases h
  | a :: l, h => by
    simp only [DataW.weightsAll, List.mem_append]
    rcases List.mem_cons.1 h with rfl | h
    · exact .inl hk
    · exact .inr (weightsAll_mem hk h)
theorem light_slice {H : Type} {P : Program} {t e : TypeId} {elems sp : List (DataW H)} (ht : P.underlying t = some (.slice e)) (h : Light P t (.slice elems sp)) : (elems.length + sp.length) * P.bytesOf e ≤ reachBytes ∧ ∀ d ∈ elems, Light P e d := by
  unfold Light at h
  rw [DataW.weights.eq_def] at h
  simp only [ht] at h
  exact ⟨h _ (by simp), fun d hd k hk => h k (by simp only [List.mem_cons, List.mem_append]; exact .inr (.inl (weightsAll_mem hk hd)))⟩
theorem light_struct {H : Type} {P : Program} {t : TypeId} {fs : Array Field} {parts : List (DataW H)} (ht : P.underlying t = some (.struct fs)) (h : Light P t (.agg parts)) {j : Nat} {f : Field} {d : DataW H} (hf : fs[j]? = some f) (hd : parts[j]? = some d) : Light P f.type d := by
  unfold Light at h
  rw [DataW.weights.eq_def] at h
  simp only [ht] at h
  exact fun k hk => h k (DataW.weights_mem_each (by rw [List.getElem?_map, Array.getElem?_toList, hf]; rfl) hd k hk)
theorem slice_sz {H : Type} {enc : TypeId × Value → H} {P : Program} {w : World} {spare : Nat → Bool} {held : Bool} {fuel : Nat} {t e : TypeId} {A : Option Addr} {n c : Nat} {x : DataW H × List MemPlace}
    (ht : P.underlying t = some (.slice e)) (h : DataW.trod enc P w 0 spare held fuel t [.slice A n c] = some x) (hl : Light P t x.1) : n * P.bytesOf e ≤ reachBytes := by
  rcases open_slice ht h with ⟨hcs, _⟩ | ⟨a, len, cap, m, n', D, Pl, hcs, _, _, _, hm, rfl, _⟩
  · simp only [List.cons.injEq, and_true] at hcs
    cases hcs
    simp
  · simp only [List.cons.injEq, and_true] at hcs
    cases hcs
    have h2 := (light_slice ht hl).1
    simp only [List.length_map, List.length_range] at h2
    exact Nat.le_trans (Nat.mul_le_mul_right _ (Nat.le_add_right _ _)) h2
theorem byt_sz {H : Type} {enc : TypeId × Value → H} {P : Program} {w : World} {spare : Nat → Bool} {held : Bool} {fuel : Nat} {t e : TypeId} {v : Value} {x : DataW H × List MemPlace}
    (ht : P.underlying t = some (.slice e)) (he : P.underlying e = some (.int .u8)) (hc : P.cellsOf e = 1) (hb : P.bytesOf e = 1) (h : DataW.trod enc P w 0 spare held fuel t [v] = some x) (hl : Light P t x.1) : ∃ bs, Byt w w.heap.size v bs ∧ bs.length < 140737488355328 := by
  obtain ⟨bs, hbs⟩ := byt_open ht he hc h
  refine ⟨bs, hbs, ?_⟩
  obtain ⟨A, c, rfl⟩ := hbs.form
  have := slice_sz ht h hl
  rw [hb] at this
  have := reachBytes_lt
  omega
theorem bag_sz {H : Type} {enc : TypeId × Value → H} {P : Program} {w : World} {spare : Nat → Bool} {held : Bool} {fuel : Nat} {t e q : TypeId} {v : Value} {x : DataW H × List MemPlace}
    (ht : P.underlying t = some (.slice e)) (he : P.underlying e = some (.slice q)) (hq : P.underlying q = some (.int .u8)) (ce : P.cellsOf e = 1) (cq : P.cellsOf q = 1) (be : P.bytesOf e = 24) (bq : P.bytesOf q = 1) (h : DataW.trod enc P w 0 spare held fuel t [v] = some x) (hlt : Light P t x.1) :
    ∃ L, BagR w w.heap.size v L ∧ L.length * 24 < 140737488355328 ∧ ∀ p ∈ L, p.2.length < 140737488355328 := by
  have hr := reachBytes_lt
  rcases open_slice1 ht ce h with ⟨hcs, _⟩ | ⟨a, len, cap, m, n, V, D, Pl, hcs, _, hl, hm, hmm, rfl, hx⟩
  · simp only [List.cons.injEq, and_true] at hcs
    subst hcs
    exact ⟨[], ⟨⟨none, 0, rfl, Nat.le_refl _, by unfold maxLen; omega, fun h => absurd rfl h⟩, fun _ h => by cases h⟩, by simp, fun _ h => by cases h⟩
  · simp only [List.cons.injEq, and_true] at hcs
    subst hcs
    have hlm : len ≤ m := by rw [hmm]; split <;> omega
    obtain ⟨h1, h2⟩ := light_slice ht hlt
    rw [be] at h1
    simp only [List.length_map, List.length_range] at h1
    obtain ⟨f, hf⟩ := choose_lt (α := List UInt8) (p := fun i bs => Byt w w.heap.size (V i) bs ∧ bs.length < 140737488355328) (n := len) (fun i hi => byt_sz he hq cq bq (hx i (by omega)).2 (h2 _ (List.mem_map.2 ⟨i, List.mem_range.2 hi, rfl⟩)))
    have hlen : ((List.range len).map fun i => (V i, f i)).length = len := by simp
    refine ⟨(List.range len).map fun i => (V i, f i), ⟨⟨some a, cap, by rw [hlen], by rw [hlen]; exact hl, hm, fun hne => ?_⟩, fun p hp => ?_⟩, by rw [hlen]; omega, fun p hp => ?_⟩
    · have hpos : 0 < len := by
        rcases Nat.eq_zero_or_pos len with h0 | h0
        · rw [h0] at hne; simp at hne
        · exact h0
      have h0 := (hx 0 (by omega)).1
      have hadd0 : a.add 0 = a := by unfold Addr.add; simp
      rw [hadd0] at h0
      have hsp := spot_none h0
      refine ⟨a.block, a.off, by rw [← hsp], World.block_lt_of_cell? _ _ h0, fun j p hp => ?_⟩
      have hj : j < len := by
        have := (List.getElem?_eq_some_iff.1 hp).1
        omega
      have hcj := (hx j (by omega)).1
      have hadd : a.add j = ⟨a.block, a.off + j, none⟩ := (congrArg (fun q : Addr => q.add j) hsp).trans (add_at _ _ _)
      rw [hadd] at hcj
      rw [hcj]
      rw [List.getElem?_map, List.getElem?_range hj] at hp
      rw [← Option.some.inj hp]
    · obtain ⟨i, hi, rfl⟩ := List.mem_map.1 hp
      exact (hf i (List.mem_range.1 hi)).1
    · obtain ⟨i, hi, rfl⟩ := List.mem_map.1 hp
      exact (hf i (List.mem_range.1 hi)).2

theorem cells_u8 : Tryd.prog.cellsOf 5 = 1 := by kernel_rfl
theorem bytes_u8 : Tryd.prog.bytesOf 5 = 1 := by kernel_rfl
theorem cells_bag : Tryd.prog.cellsOf 27 = 1 := by kernel_rfl
theorem bytes_bag : Tryd.prog.bytesOf 27 = 24 := by kernel_rfl
theorem cells_txin : Tryd.prog.cellsOf 49 = 36 := by kernel_rfl
theorem bytes_txin : Tryd.prog.bytesOf 49 = 96 := by kernel_rfl
theorem cells_txout : Tryd.prog.cellsOf 54 = 2 := by kernel_rfl
theorem bytes_txout : Tryd.prog.bytesOf 54 = 32 := by kernel_rfl
theorem bytes_of (l : List Value) (h : ∀ (i : Nat) (v : Value), l[i]? = some v → ∃ c : UInt8, v = bv c) : ∃ m : List UInt8, l = m.map bv := by
  induction l with
  | nil => exact ⟨[], rfl⟩
  | cons a l ih =>
    obtain ⟨c, rfl⟩ := h 0 a rfl
    obtain ⟨m, rfl⟩ := ih (fun i v hv => h (i + 1) v (by simpa using hv))
    exact ⟨c :: m, rfl⟩
theorem flat_of {α : Type} (f : α → List Value) (n : Nat) : ∀ (X : List α), (∀ e ∈ X, (f e).length = n) → ∀ (j : Nat) (v : Value), (X.flatMap f)[j]? = some v → ∃ i e r, X[i]? = some e ∧ (f e)[r]? = some v ∧ j = i * n + r
  | [], _, j, v, h => by simp at h
  | a :: X, hf, j, v, h => by
    have ha := hf a (by simp)
    rw [List.flatMap_cons] at h
    by_cases hj : j < n
    · rw [List.getElem?_append_left (by omega)] at h
      exact ⟨0, a, j, rfl, h, by omega⟩
    · rw [List.getElem?_append_right (by omega), ha] at h
      obtain ⟨i, e, r, h1, h2, h3⟩ := flat_of f n X (fun e he => hf e (by simp [he])) _ v h
      exact ⟨i + 1, e, r, by simpa using h1, h2, by rw [Nat.add_mul]; omega⟩
theorem two_of : ∀ (cs : List Value), cs.length = 2 → ∃ a b, cs = [a, b]
  | [a, b], _ => ⟨a, b, rfl⟩
theorem four_of : ∀ (cs : List Value), cs.length = 4 → ∃ a b c d, cs = [a, b, c, d]
  | [a, b, c, d], _ => ⟨a, b, c, d, rfl⟩
instance : Inhabited InV := ⟨⟨⟨[], 0, [], 0, []⟩, .slice none 0 0, .slice none 0 0, []⟩⟩
instance : Inhabited OutV := ⟨⟨⟨0, []⟩, .slice none 0 0⟩⟩
def SzI (x : InV) : Prop := x.p.sc.length < 140737488355328 ∧ x.wl.length * 24 < 140737488355328 ∧ ∀ p ∈ x.wl, p.2.length < 140737488355328
def SzO (y : OutV) : Prop := y.p.sc.length < 140737488355328

section
variable {H : Type} {enc : TypeId × Value → H} {w : World} {held : Bool} {fuel : Nat} {x : DataW H × List MemPlace}
/-- A digest's cells. -/
theorem hash_open {cs : List Value} (h : DataW.trod enc Tryd.prog w 0 (fun _ => true) held fuel 36 cs = some x) : ∃ m : List UInt8, cs = m.map bv ∧ m.length = 32 := by
  obtain ⟨ys, n, _, _, hcl, hyl, hf⟩ := DataW.trod_array Tryd.underlying36 h
  have hl : cs.length = 32 := hcl.trans (by kernel_rfl)
  rw [cells_u8] at hf
  obtain ⟨m, rfl⟩ := bytes_of cs (fun i v hv => by
    have hi := (List.getElem?_eq_some_iff.1 hv).1
    have hg := hf i (by omega)
    rw [List.getElem?_eq_getElem (show i < ys.length by omega)] at hg
    obtain ⟨k, e, _, wf⟩ := DataW.trod_int Tryd.underlying5 hg
    rw [Nat.mul_one] at e
    have hv2 : ((cs.drop i).take 1)[0]? = some v := by rw [List.getElem?_take, if_pos (by omega), List.getElem?_drop, Nat.add_zero, hv]
    rw [e] at hv2
    have hw2 := bounds_u8 wf
    refine ⟨b8 k, ?_⟩
    rw [b8_bv hw2.1 (by have := hw2.2; omega)]
    simpa using hv2.symm)
  exact ⟨m, rfl, by rw [List.length_map] at hl; exact hl⟩
/-- An input's cells. -/
theorem in_open {cs : List Value} (h : DataW.trod enc Tryd.prog w 0 (fun _ => true) held fuel 49 cs = some x) (hl : Light Tryd.prog 49 x.1) :
    ∃ y : InV, cs = inC y ∧ InIs w w.heap.size y ∧ SzI y := by
  obtain ⟨ys, n, _, rfl, hcl, hyl, hf⟩ := DataW.trod_struct Tryd.underlying49 h
  have hc : cs.length = 36 := hcl.trans cells_txin
  have hy4 : ys.length = 4 := hyl
  obtain ⟨l, a, b, c, d, rfl, hll⟩ : ∃ (l : List Value) (a b c d : Value), cs = l ++ [a, b, c, d] ∧ l.length = 32 := by
    have h2 : (cs.drop 32).length = 4 := by rw [List.length_drop]; omega
    match hd : cs.drop 32, h2 with
    | [a, b, c, d], _ => exact ⟨cs.take 32, a, b, c, d, by rw [← hd, List.take_append_drop], by rw [List.length_take]; omega⟩
  have f0 : DataW.trod enc Tryd.prog w 0 (fun _ => true) held n 46 (List.take (Tryd.prog.cellsOf 46) (List.drop 0 (l ++ [a, b, c, d]))) = ys[0]? := hf 0 _ rfl
  have f1 : DataW.trod enc Tryd.prog w 0 (fun _ => true) held n 27 (List.take (Tryd.prog.cellsOf 27) (List.drop 33 (l ++ [a, b, c, d]))) = ys[1]? := hf 1 _ rfl
  have f2 : DataW.trod enc Tryd.prog w 0 (fun _ => true) held n 24 (List.take (Tryd.prog.cellsOf 24) (List.drop 34 (l ++ [a, b, c, d]))) = ys[2]? := hf 2 _ rfl
  have f3 : DataW.trod enc Tryd.prog w 0 (fun _ => true) held n 47 (List.take (Tryd.prog.cellsOf 47) (List.drop 35 (l ++ [a, b, c, d]))) = ys[3]? := hf 3 _ rfl
  have hd33 : List.drop 33 (l ++ [a, b, c, d]) = [b, c, d] := by rw [show 33 = l.length + 1 by omega, List.drop_append, List.drop_eq_nil_of_le (by omega), show l.length + 1 - l.length = 1 by omega]; rfl
  have hd34 : List.drop 34 (l ++ [a, b, c, d]) = [c, d] := by rw [show 34 = l.length + 2 by omega, List.drop_append, List.drop_eq_nil_of_le (by omega), show l.length + 2 - l.length = 2 by omega]; rfl
  have hd35 : List.drop 35 (l ++ [a, b, c, d]) = [d] := by rw [show 35 = l.length + 3 by omega, List.drop_append, List.drop_eq_nil_of_le (by omega), show l.length + 3 - l.length = 3 by omega]; rfl
  have hd0 : List.take 33 (List.drop 0 (l ++ [a, b, c, d])) = l ++ [a] := by rw [List.drop_zero, show 33 = l.length + 1 by omega, List.take_append, List.take_of_length_le (by omega), show l.length + 1 - l.length = 1 by omega]; rfl
  rw [cells_bag, hd33, List.getElem?_eq_getElem (by omega)] at f1
  rw [show Tryd.prog.cellsOf 24 = 1 by kernel_rfl, hd34, List.getElem?_eq_getElem (by omega)] at f2
  rw [show Tryd.prog.cellsOf 47 = 1 by kernel_rfl, hd35, List.getElem?_eq_getElem (by omega)] at f3
  rw [show Tryd.prog.cellsOf 46 = 33 by kernel_rfl, hd0, List.getElem?_eq_getElem (by omega)] at f0
  have l1 : Light Tryd.prog 27 (ys[1]'(by omega)).1 := light_struct Tryd.underlying49 hl (j := 1) rfl (by rw [List.getElem?_map, List.getElem?_eq_getElem (by omega)]; rfl)
  have l3 : Light Tryd.prog 47 (ys[3]'(by omega)).1 := light_struct Tryd.underlying49 hl (j := 3) rfl (by rw [List.getElem?_map, List.getElem?_eq_getElem (by omega)]; rfl)
  obtain ⟨bs, hbs, hbl⟩ := byt_sz slice_u8 Tryd.underlying5 cells_u8 bytes_u8 f1 l1
  obtain ⟨L, hL, hL1, hL2⟩ := bag_sz Tryd.underlying47 slice_u8 Tryd.underlying5 cells_bag cells_u8 bytes_bag bytes_u8 f3 l3
  obtain ⟨k2, e2, _, w2⟩ := DataW.trod_int Tryd.underlying24 f2
  obtain ⟨zs, n2, _, _, _, hzl, hg⟩ := DataW.trod_struct Tryd.underlying46 f0
  have hz2 : zs.length = 2 := hzl
  have g0 : DataW.trod enc Tryd.prog w 0 (fun _ => true) held n2 36 (List.take (Tryd.prog.cellsOf 36) (List.drop 0 (l ++ [a]))) = zs[0]? := hg 0 _ rfl
  have g1 : DataW.trod enc Tryd.prog w 0 (fun _ => true) held n2 24 (List.take (Tryd.prog.cellsOf 24) (List.drop 32 (l ++ [a]))) = zs[1]? := hg 1 _ rfl
  rw [show Tryd.prog.cellsOf 36 = 32 by kernel_rfl, List.drop_zero, show (32 : Nat) = l.length from hll.symm, List.take_left' rfl, List.getElem?_eq_getElem (by omega)] at g0
  rw [show Tryd.prog.cellsOf 24 = 1 by kernel_rfl, show List.drop 32 (l ++ [a]) = [a] by rw [show (32 : Nat) = l.length from hll.symm, List.drop_left' rfl], List.getElem?_eq_getElem (by omega)] at g1
  obtain ⟨m, hm, hml⟩ := hash_open g0
  obtain ⟨k1, e1, _, w1⟩ := DataW.trod_int Tryd.underlying24 g1
  simp at e1 e2
  subst e1 e2 hm
  have w1' := bounds_u32 w1
  have w2' := bounds_u32 w2
  exact ⟨⟨⟨m, k1, bs, k2, L.map (·.2)⟩, b, d, L⟩, rfl, ⟨⟨hml, w1'.1, by have := w1'.2; show k1 < 4294967296; omega, w2'.1, by have := w2'.2; show k2 < 4294967296; omega⟩, hbs, hL, rfl⟩, hbl, hL1, hL2⟩
/-- An output's cells. -/
theorem out_open {cs : List Value} (h : DataW.trod enc Tryd.prog w 0 (fun _ => true) held fuel 54 cs = some x) (hl : Light Tryd.prog 54 x.1) :
    ∃ y : OutV, cs = outC y ∧ OutIs w w.heap.size y ∧ SzO y := by
  obtain ⟨ys, n, _, rfl, hcl, hyl, hf⟩ := DataW.trod_struct Tryd.underlying54 h
  have hc : cs.length = 2 := hcl.trans cells_txout
  have hy2 : ys.length = 2 := hyl
  obtain ⟨a, b, rfl⟩ := two_of cs hc
  have f0 : DataW.trod enc Tryd.prog w 0 (fun _ => true) held n 2 (List.take (Tryd.prog.cellsOf 2) (List.drop 0 [a, b])) = ys[0]? := hf 0 _ rfl
  have f1 : DataW.trod enc Tryd.prog w 0 (fun _ => true) held n 27 (List.take (Tryd.prog.cellsOf 27) (List.drop 1 [a, b])) = ys[1]? := hf 1 _ rfl
  rw [show Tryd.prog.cellsOf 2 = 1 by kernel_rfl, List.getElem?_eq_getElem (by omega)] at f0
  rw [cells_bag, List.getElem?_eq_getElem (by omega)] at f1
  have l1 : Light Tryd.prog 27 (ys[1]'(by omega)).1 := light_struct Tryd.underlying54 hl (j := 1) rfl (by rw [List.getElem?_map, List.getElem?_eq_getElem (by omega)]; rfl)
  obtain ⟨bs, hbs, hbl⟩ := byt_sz slice_u8 Tryd.underlying5 cells_u8 bytes_u8 f1 l1
  obtain ⟨k0, e0, _, w0⟩ := DataW.trod_int Tryd.underlying2 f0
  simp at e0
  subst e0
  have w0' := bounds_i64 w0
  exact ⟨⟨⟨k0, bs⟩, b⟩, rfl, ⟨⟨w0'.1, by have := w0'.2; show k0 ≤ 9223372036854775807; omega⟩, hbs⟩, hbl⟩
/-- A slice of rows that came in. -/
theorem rows_open {α : Type} [Inhabited α] (f : α → List Value) (Ok : α → Prop) (k : Nat) (hk : 0 < k) (b : Nat) {t e : TypeId} (ht : Tryd.prog.underlying t = some (.slice e)) (ce : Tryd.prog.cellsOf e = k) (be : Tryd.prog.bytesOf e = b)
    (hone : ∀ {n : Nat} {cs : List Value} {x : DataW H × List MemPlace}, DataW.trod enc Tryd.prog w 0 (fun _ => true) held n e cs = some x → Light Tryd.prog e x.1 → ∃ y, cs = f y ∧ Ok y)
    (hlen : ∀ y, Ok y → (f y).length = k) {v : Value} (h : DataW.trod enc Tryd.prog w 0 (fun _ => true) held fuel t [v] = some x) (hlt : Light Tryd.prog t x.1) :
    ∃ X : List α, RowR w w.heap.size v X.length (X.flatMap f) ∧ (∀ y ∈ X, Ok y) ∧ X.length * b ≤ reachBytes := by
  rcases open_slice ht h with ⟨hcs, _⟩ | ⟨a, len, cap, m, n, D, Pl, hcs, _, hl, hm, hmm, rfl, hel⟩
  · simp only [List.cons.injEq, and_true] at hcs
    subst hcs
    exact ⟨[], RowR.nil _ _, (fun _ h => by cases h), by simp⟩
  · simp only [List.cons.injEq, and_true] at hcs
    subst hcs
    have hlm : len ≤ m := by rw [hmm]; split <;> omega
    obtain ⟨h1, h2⟩ := light_slice ht hlt
    rw [be] at h1
    simp only [List.length_map, List.length_range] at h1
    rw [ce] at hel
    obtain ⟨g, hg⟩ := choose_lt (α := α) (p := fun i y => Ok y ∧ ∀ j u, (f y)[j]? = some u → w.cell? ((a.add (i * k)).add j) = some u) (n := len) (fun i hi => by
      obtain ⟨cs', hc, htr⟩ := hel i (by omega)
      obtain ⟨_, hcl, hat⟩ := World.cells?_some hc
      obtain ⟨y, rfl, hy⟩ := hone htr (h2 _ (List.mem_map.2 ⟨i, List.mem_range.2 hi, rfl⟩))
      refine ⟨y, hy, fun j u hu => ?_⟩
      have hj := (List.getElem?_eq_some_iff.1 hu).1
      rw [hat j (by omega), ← hu])
    have hlen2 : ((List.range len).map g).length = len := by simp
    have hok : ∀ y ∈ (List.range len).map g, Ok y := fun y hy => by
      obtain ⟨i, hi, rfl⟩ := List.mem_map.1 hy
      exact (hg i (List.mem_range.1 hi)).1
    refine ⟨(List.range len).map g, ⟨some a, cap, by rw [hlen2], by rw [hlen2]; exact hl, hm, fun hne => ?_⟩, hok, by rw [hlen2]; exact Nat.le_trans (Nat.mul_le_mul_right _ (Nat.le_add_right _ _)) h1⟩
    rw [hlen2] at hne
    have hpos : 0 < len := Nat.pos_of_ne_zero hne
    have hl0 := hlen _ (hg 0 hpos).1
    have h0 := (hg 0 hpos).2 0 _ (List.getElem?_eq_getElem (by omega))
    have hz : (a.add (0 * k)).add 0 = a := by rw [Nat.zero_mul]; unfold Addr.add; simp
    rw [hz] at h0
    have hsp := spot_none h0
    have hadd : ∀ i, a.add i = ⟨a.block, a.off + i, none⟩ := fun i => (congrArg (fun q : Addr => q.add i) hsp).trans (add_at _ _ _)
    refine ⟨a.block, a.off, by rw [← hsp], World.block_lt_of_cell? _ _ h0, fun j u hu => ?_⟩
    obtain ⟨i, y, r, hi, hr, rfl⟩ := flat_of f k _ (fun y hy => hlen y (hok y hy)) j u hu
    have hi' : i < len := by have := (List.getElem?_eq_some_iff.1 hi).1; omega
    have he : y = g i := by
      rw [List.getElem?_map, List.getElem?_range hi'] at hi
      exact (Option.some.inj hi).symm
    subst he
    have hc := (hg i hi').2 r u hr
    rw [hadd, add_at, Nat.add_assoc] at hc
    exact hc
/-- A transaction that came in. -/
theorem tx_open {cs : List Value} (h : DataW.trod enc Tryd.prog w 0 (fun _ => true) held fuel 26 cs = some x) (hl : Light Tryd.prog 26 x.1) :
    ∃ (t : TxP) (iv ov : Value) (X : List InV) (Y : List OutV), cs = txC t iv ov ∧ TxR w w.heap.size t iv ov X Y ∧ TxSz X Y := by
  obtain ⟨ys, n, _, rfl, hcl, hyl, hf⟩ := DataW.trod_struct Tryd.underlying26 h
  have hc : cs.length = 4 := hcl.trans (by kernel_rfl)
  have hy4 : ys.length = 4 := hyl
  have hr := reachBytes_lt
  obtain ⟨a, b, c, d, rfl⟩ := four_of cs hc
  have f0 : DataW.trod enc Tryd.prog w 0 (fun _ => true) held n 21 (List.take (Tryd.prog.cellsOf 21) (List.drop 0 [a, b, c, d])) = ys[0]? := hf 0 _ rfl
  have f1 : DataW.trod enc Tryd.prog w 0 (fun _ => true) held n 22 (List.take (Tryd.prog.cellsOf 22) (List.drop 1 [a, b, c, d])) = ys[1]? := hf 1 _ rfl
  have f2 : DataW.trod enc Tryd.prog w 0 (fun _ => true) held n 23 (List.take (Tryd.prog.cellsOf 23) (List.drop 2 [a, b, c, d])) = ys[2]? := hf 2 _ rfl
  have f3 : DataW.trod enc Tryd.prog w 0 (fun _ => true) held n 24 (List.take (Tryd.prog.cellsOf 24) (List.drop 3 [a, b, c, d])) = ys[3]? := hf 3 _ rfl
  rw [show Tryd.prog.cellsOf 21 = 1 by kernel_rfl, List.getElem?_eq_getElem (by omega)] at f0
  rw [show Tryd.prog.cellsOf 22 = 1 by kernel_rfl, List.getElem?_eq_getElem (by omega)] at f1
  rw [show Tryd.prog.cellsOf 23 = 1 by kernel_rfl, List.getElem?_eq_getElem (by omega)] at f2
  rw [show Tryd.prog.cellsOf 24 = 1 by kernel_rfl, List.getElem?_eq_getElem (by omega)] at f3
  have l1 : Light Tryd.prog 22 (ys[1]'(by omega)).1 := light_struct Tryd.underlying26 hl (j := 1) rfl (by rw [List.getElem?_map, List.getElem?_eq_getElem (by omega)]; rfl)
  have l2 : Light Tryd.prog 23 (ys[2]'(by omega)).1 := light_struct Tryd.underlying26 hl (j := 2) rfl (by rw [List.getElem?_map, List.getElem?_eq_getElem (by omega)]; rfl)
  obtain ⟨X, hX, hXo, hXl⟩ := rows_open inC (fun y => InIs w w.heap.size y ∧ SzI y) 36 (by decide) 96 Tryd.underlying22 cells_txin bytes_txin (fun h hl => in_open h hl) (fun y hy => inC_length hy.1.ok) f1 l1
  obtain ⟨Y, hY, hYo, hYl⟩ := rows_open outC (fun y => OutIs w w.heap.size y ∧ SzO y) 2 (by decide) 32 Tryd.underlying23 cells_txout bytes_txout (fun h hl => out_open h hl) (fun y _ => outC_length y) f2 l2
  obtain ⟨k0, e0, _, w0⟩ := DataW.trod_int Tryd.underlying21 f0
  obtain ⟨k3, e3, _, w3⟩ := DataW.trod_int Tryd.underlying24 f3
  simp at e0 e3
  subst e0 e3
  have w0' := bounds_i32 w0
  have w3' := bounds_u32 w3
  refine ⟨⟨k0, X.map (·.p), Y.map (·.p), k3⟩, b, c, X, Y, rfl, ⟨⟨w0'.1, by have := w0'.2; show k0 ≤ 2147483647; omega, w3'.1, by have := w3'.2; show k3 < 4294967296; omega⟩, ⟨hX, fun y hy => (hXo y hy).1⟩, ⟨hY, fun y hy => (hYo y hy).1⟩, rfl, rfl⟩, ⟨by omega, by omega, fun y hy => (hXo y hy).2, fun y hy => (hYo y hy).2⟩⟩
/-- A way that came in. -/
theorem way_open {cs : List Value} (h : DataW.trod enc Tryd.prog w 0 (fun _ => true) held fuel 29 cs = some x) :
    ∃ (i k val : Int) (sv : Value) (sc : List UInt8), cs = WayC i k val sv ∧ Byt w w.heap.size sv sc ∧ -9223372036854775808 ≤ i ∧ i ≤ 9223372036854775807 ∧ 0 ≤ k ∧ k ≤ 255 ∧ -9223372036854775808 ≤ val ∧ val ≤ 9223372036854775807 := by
  obtain ⟨ys, n, _, rfl, hcl, hyl, hf⟩ := DataW.trod_struct Tryd.underlying29 h
  have hc : cs.length = 4 := hcl.trans (by kernel_rfl)
  have hy4 : ys.length = 4 := hyl
  obtain ⟨a, b, c, d, rfl⟩ := four_of cs hc
  have f0 : DataW.trod enc Tryd.prog w 0 (fun _ => true) held n 3 (List.take (Tryd.prog.cellsOf 3) (List.drop 0 [a, b, c, d])) = ys[0]? := hf 0 _ rfl
  have f1 : DataW.trod enc Tryd.prog w 0 (fun _ => true) held n 5 (List.take (Tryd.prog.cellsOf 5) (List.drop 1 [a, b, c, d])) = ys[1]? := hf 1 _ rfl
  have f2 : DataW.trod enc Tryd.prog w 0 (fun _ => true) held n 27 (List.take (Tryd.prog.cellsOf 27) (List.drop 2 [a, b, c, d])) = ys[2]? := hf 2 _ rfl
  have f3 : DataW.trod enc Tryd.prog w 0 (fun _ => true) held n 2 (List.take (Tryd.prog.cellsOf 2) (List.drop 3 [a, b, c, d])) = ys[3]? := hf 3 _ rfl
  rw [show Tryd.prog.cellsOf 3 = 1 by kernel_rfl, List.getElem?_eq_getElem (by omega)] at f0
  rw [cells_u8, List.getElem?_eq_getElem (by omega)] at f1
  rw [cells_bag, List.getElem?_eq_getElem (by omega)] at f2
  rw [show Tryd.prog.cellsOf 2 = 1 by kernel_rfl, List.getElem?_eq_getElem (by omega)] at f3
  obtain ⟨bs, hbs⟩ := byt_open slice_u8 Tryd.underlying5 cells_u8 f2
  obtain ⟨k0, e0, _, w0⟩ := DataW.trod_int Tryd.underlying3 f0
  obtain ⟨k1, e1, _, w1⟩ := DataW.trod_int Tryd.underlying5 f1
  obtain ⟨k3, e3, _, w3⟩ := DataW.trod_int Tryd.underlying2 f3
  simp at e0 e1 e3
  subst e0 e1 e3
  have w0' := bounds_i64 w0
  have w1' := bounds_u8 w1
  have w3' := bounds_i64 w3
  exact ⟨k0, k1, k3, c, bs, rfl, hbs, w0'.1, by have := w0'.2; omega, w1'.1, by have := w1'.2; omega, w3'.1, by have := w3'.2; omega⟩
end

theorem own : ownKnob Tryd.prog.godebug = none := by kernel_rfl
theorem laidOut : laidOutB Tryd.prog = true := by kernel_rfl

def laidL : List (String × DataW Unit) := [("strongbox/hash.squareRoots", Rows.laid_strongbox_hash_squareRoots), ("strongbox/hash.cubeRoots", Rows.laid_strongbox_hash_cubeRoots)]

theorem door_met (os : Os) (args : Array Value) : laidMetH Tryd.prog laidL ((World.doorLaid Tryd.prog 400 os).forCall (fun _ _ => 0) ⟨#[], args, []⟩).memory :=
  laidMetH_of_parts3 (fuel := 8) (laidMet_of_run' 8 (by kernel_rfl) (by kernel_rfl)) (by kernel_rfl) (by kernel_rfl)

theorem roots_of_laid {W : World} (h : laidMetH Tryd.prog laidL W) : Roots W := by
  rw [MakeChecks.laidMetH_plain _ _ _ (by kernel_rfl)] at h
  obtain ⟨ps, ⟨g0, t0, cs0, f0, p0, q0, hg0, ht0, hv0, hd0, ⟨g1, t1, cs1, f1, p1, q1, hg1, ht1, hv1, hd1, _, _⟩, _⟩, _, _⟩ := h
  obtain rfl := Option.some.inj ((show Tryd.prog.globalNamed "strongbox/hash.squareRoots" = some 0 by kernel_rfl).symm.trans hg0)
  obtain rfl := Option.some.inj ((show (Tryd.prog.globals[0]?).map (·.type) = some 123 by kernel_rfl).symm.trans ht0)
  obtain rfl := Option.some.inj ((show Tryd.prog.globalNamed "strongbox/hash.cubeRoots" = some 1 by kernel_rfl).symm.trans hg1)
  obtain rfl := Option.some.inj ((show (Tryd.prog.globals[1]?).map (·.type) = some 125 by kernel_rfl).symm.trans ht1)
  have e0 : (Rows.laid_strongbox_hash_squareRoots : DataW Unit) = Lib.tabData .u64 s512 := by kernel_rfl
  have e1 : (Rows.laid_strongbox_hash_cubeRoots : DataW Unit) = Lib.tabData .u64 k512 := by kernel_rfl
  rw [e0] at hd0
  rw [e1] at hd1
  have c0 := Lib.cells_of_tab Tryd.underlying123 Tryd.underlying75 (by kernel_rfl) (by kernel_rfl) hd0
  have c1 := Lib.cells_of_tab Tryd.underlying125 Tryd.underlying75 (by kernel_rfl) (by kernel_rfl) hd1
  have k0 : ∀ (t : Nat) (k : Int), s512[t]? = some k → W.cell? ⟨0, t, none⟩ = some (.int .u64 k) := fun t k hk => by
    have h := World.var?_cell hg0 hv0 t
    rw [h, ← Array.getElem?_toList, c0, List.getElem?_map, hk]
    rfl
  have k1 : ∀ (t : Nat) (k : Int), k512[t]? = some k → W.cell? ⟨1, t, none⟩ = some (.int .u64 k) := fun t k hk => by
    have h := World.var?_cell hg1 hv1 t
    rw [h, ← Array.getElem?_toList, c1, List.getElem?_map, hk]
    rfl
  exact ⟨⟨World.block_lt_of_cell? _ _ (k1 0 _ rfl), k1⟩, ⟨World.block_lt_of_cell? _ _ (k0 0 _ rfl), k0⟩⟩
end Go.Proofs.YthelmclpmalofaaDoor
