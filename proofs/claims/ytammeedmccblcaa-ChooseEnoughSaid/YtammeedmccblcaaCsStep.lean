/-
  The search, step by step. Conditions: what the coins bring together may be.
-/
import Derived.Test.YtammeedmccblcaaCsLarge
import Derived.BigQuiet
namespace Go.Proofs.Ytammeedmccblcaa.Cs
open Go.RowKit

/-- A search's eight cells. -/
def srC (need extra rate : Int) (t : Nat) (seed : Int) (u : Value) (tot : Int) (pk : Value) : List Value := [.int .i64 need, .int .i64 extra, .int .i64 rate, .int .i64 (t : Int), .int .u64 seed, u, .int .i64 tot, pk]
theorem own_shrink {w : World} {base : Nat} {e : TypeId} {size n c : Nat} {A : Option Addr} {xs : List Value} (h : w.ownsRow base e size (.slice A n c) n xs) {k : Nat} (hk : k ≤ n) (hA : A ≠ none) : w.ownsRow base e size (.slice A k c) k (xs.take (k * size)) := by
  refine ⟨by rw [List.length_take, h.1]; exact Nat.min_eq_left (Nat.mul_le_mul_right _ hk), ?_⟩
  rcases h.2 with ⟨hv, _⟩ | ⟨g, cap, cur, hv, hb, hg, hn, hm, hc, ht⟩
  · injection hv with hv
    exact absurd hv hA
  · injection hv with hv _ h3
    subst hv h3
    refine .inr ⟨g, c, cur, rfl, hb, hg, by omega, hm, hc, ?_⟩
    rw [← ht, List.take_take, Nat.min_eq_left (Nat.mul_le_mul_right _ hk)]
theorem own_some {w : World} {base : Nat} {e : TypeId} {size n : Nat} {v : Value} {xs : List Value} (h : w.ownsRow base e size v n xs) (hn : 0 < n) : ∃ g c, v = .slice (some ⟨g, 0, none⟩) n c ∧ n ≤ c := by
  rcases h.2 with ⟨_, h0⟩ | ⟨g, cap, cur, rfl, _, _, hc, _⟩
  · omega
  · exact ⟨g, cap, rfl, hc⟩
theorem own_after {v v1 : Value} {C n0 sz : Nat} (h1 : v1.ownBlock = v.ownBlock ∨ v1.ownBlock = some sz) (hC : ∀ q, v.ownBlock = some q → q ≠ C) (hz : C < sz) (hw : n0 ≤ sz) (q : Nat) (hq : v1.ownBlock = some q) : q ≠ C ∧ (v.ownBlock = some q ∨ n0 ≤ q) := by
  rcases h1 with h | h
  · rw [h] at hq
    exact ⟨hC q hq, .inl hq⟩
  · rw [h] at hq
    injection hq with hq
    exact ⟨by omega, .inr (by omega)⟩
set_option maxRecDepth 100000 in
set_option maxHeartbeats 12800000 in
theorem step_any (G : Nat) (need extra rate seed tot : Int) (u : Value) (H : List Cn) (hp : Pos H) (hl : H.length ≤ 1000) (hn0 : 0 ≤ need) (hn1 : need ≤ 9223372036854775807) : ∀ (l : List Cn) (n t : Nat) (s r : Int) (P : List Cn) (pk : Value) (w : World),
    H.drop n = l → n ≤ H.length → r = sumD l → 0 ≤ s → s + r ≤ 2100000000000000 → t ≤ 100000 → P.length ≤ n → CnR w G u H → VRow w G 78 (srC need extra rate t seed u tot pk) → w.ownsRow (G + 1) 75 2 pk P.length (P.flatMap cnC) →
    Calls Try.prog 41 #[.pointer (some ⟨G, 0, none⟩), .int .i64 (n : Int), .int .i64 s, .int .i64 r] w fun e w' => ∃ pk', e = .returned (.bool (stepF need extra l t s r).1) ∧ VRow w' G 78 (srC need extra rate (stepF need extra l t s r).2.2 seed u tot pk') ∧ w'.ownsRow (G + 1) 75 2 pk' (P ++ (stepF need extra l t s r).2.1).length ((P ++ (stepF need extra l t s r).2.1).flatMap cnC) ∧ Turns (fun q => q = G ∨ pk.ownBlock = some q) w w' ∧ (∀ q, pk'.ownBlock = some q → pk.ownBlock = some q ∨ w.heap.size ≤ q) := by
  intro l
  induction l with
  | nil =>
    intro n t s r P pk w hd hn hr hs0 hs1 ht hP hu hv ho
    obtain ⟨R, hR⟩ : ∃ z, z = stepF need extra [] t s r := ⟨_, rfl⟩
    rw [← hR]
    have x0 : w.cell? ⟨G, 0, none⟩ = some (.int .i64 need) := hv.cell rfl
    have x1 : w.cell? ⟨G, 1, none⟩ = some (.int .i64 extra) := hv.cell rfl
    have x3 : w.cell? ⟨G, 3, none⟩ = some (.int .i64 (t : Int)) := hv.cell rfl
    have f3 := hv.free 3
    have HO := Lib.hid ho
    have HV := Lib.hid hv
    have HU := Lib.hid hu
    have HP := Lib.hid hP
    have HD := Lib.hid hd
    have HRR := Lib.hid hr
    have hr0 : 0 ≤ r := by rw [hr, ← hd]; exact sumD_nonneg fun c hc => hp c (List.mem_of_mem_drop hc)
    have HG := Lib.hid hv.lt
    have HU0 := Lib.hid hu
    have HPK := Lib.hid (show ∀ q, pk.ownBlock = some q → G + 1 ≤ q ∧ q < w.heap.size from ho.lt)
    clear ho hv hu hP hd hr
    by_cases ht0 : t = 0
    · as_aux_lemma =>
      subst ht0
      have hRe : R = (false, [], 0) := by rw [hR]; unfold stepF; rw [if_pos rfl]
      clear hR
      subst hRe
      go_enter Try.func41, Try.ntmps41
      go_wp2_with fail
      go_ret
      exact ⟨pk, rfl, HV.out, by rw [List.append_nil]; exact HO.out, Turns.refl _ _, fun q h => .inl h⟩
    · obtain ⟨k, rfl⟩ : ∃ k, t = k + 1 := ⟨t - 1, by omega⟩
      have htz : decide (((k + 1 : Nat) : Int) = 0) = false := decide_eq_false (by omega)
      have hR1 : R = (decide (need ≤ s ∧ s - need ≤ extra), [], k) := by
        rw [hR]
        unfold stepF
        rw [if_neg ht0, Nat.add_sub_cancel]
      have hrz : r = 0 := HRR.out
      have HR := Lib.hid hR1
      clear hR hR1
      have ht1 : IntKind.i64.wrap (((k + 1 : Nat) : Int) - 1) = (k : Int) := IntWalk.i64_in _ (by omega) |>.trans (by omega)
      go_enter Try.func41, Try.ntmps41
      go_upto_region 4 with fail
      obtain ⟨w1, hw1⟩ : ∃ z, z = w.setCell ⟨G, 3, none⟩ (.int .i64 (k : Int)) := ⟨_, rfl⟩
      have hv1 : VRow w1 G 78 (srC need extra rate k seed u tot pk) := by rw [hw1]; exact HV.out.set 3 _
      have tt : Turns (fun q => q = G) w w1 := by rw [hw1]; exact Turns.setCell (S := fun q => q = G) (Turns.refl _ _) (p := ⟨G, 3, none⟩) (fun _ => rfl) _
      have hb1 : Below G w w1 := by rw [hw1]; exact (Below.refl _ _).setCell (p := ⟨G, 3, none⟩) (Nat.le_refl _) _
      have T1 := Lib.hid (show Turns (fun q => q = G ∨ pk.ownBlock = some q) w w1 by rw [hw1]; exact Turns.setCell (S := fun q => q = G ∨ pk.ownBlock = some q) (Turns.refl _ _) (p := ⟨G, 3, none⟩) (fun _ => .inl rfl) _)
      have O1 := Lib.hid (own_turns HO.out tt (fun q hq e => by have := (HO.out.lt q hq).1; omega))
      have U1 := Lib.hid (HU.out.below hb1)
      have V1 := Lib.hid hv1
      rw [← hw1]
      have y0 : w1.cell? ⟨G, 0, none⟩ = some (.int .i64 need) := hv1.cell rfl
      have y1 : w1.cell? ⟨G, 1, none⟩ = some (.int .i64 extra) := hv1.cell rfl
      have y5 : w1.cell? ⟨G, 5, none⟩ = some u := hv1.cell rfl
      have y7 : w1.cell? ⟨G, 7, none⟩ = some pk := hv1.cell rfl
      clear hw1 hv1 tt hb1 x0 x1 x3 f3 htz ht1 ht0 HO HV HU
      by_cases hns : need ≤ s
      · as_aux_lemma =>
        have hRe : R = (decide (s - need ≤ extra), [], k) := by rw [HR.out]; congr 1; exact decide_eq_decide.2 ⟨fun h => h.2, fun h => ⟨hns, h⟩⟩
        clear HR
        subst hRe
        have dn : decide (need ≤ s) = true := decide_eq_true hns
        have hwr : IntKind.i64.wrap (s - need) = s - need := IntWalk.i64_in _ (by omega)
        go_upto_region 5 with fail
        go_quiet (fail)
        go_wp2_with fail
        go_ret
        exact ⟨rfl, pk, V1.out, O1.out, T1.out.drewN nq, fun q h => .inl h⟩
      · have dn : decide (need ≤ s) = false := decide_eq_false hns
        have hwa : IntKind.i64.wrap (s + r) = s + r := IntWalk.i64_in _ (by omega)
        have hsr : s + r < need := by omega
        as_aux_lemma =>
          have hRe : R = (false, [], k) := by rw [HR.out]; congr 1; exact decide_eq_false (fun h => hns h.1)
          clear HR
          subst hRe
          have dr : decide (s + r < need) = true := decide_eq_true hsr
          go_wp2_with fail
          go_ret
          exact ⟨rfl, pk, V1.out, O1.out, T1.out, fun q h => .inl h⟩
  | cons c l ih =>
    intro n t s r P pk w hd hn hr hs0 hs1 ht hP hu hv ho
    obtain ⟨R, hR⟩ : ∃ z, z = stepF need extra (c :: l) t s r := ⟨_, rfl⟩
    rw [← hR]
    have x0 : w.cell? ⟨G, 0, none⟩ = some (.int .i64 need) := hv.cell rfl
    have x1 : w.cell? ⟨G, 1, none⟩ = some (.int .i64 extra) := hv.cell rfl
    have x3 : w.cell? ⟨G, 3, none⟩ = some (.int .i64 (t : Int)) := hv.cell rfl
    have f3 := hv.free 3
    have HO := Lib.hid ho
    have HV := Lib.hid hv
    have HU := Lib.hid hu
    have HP := Lib.hid hP
    have HD := Lib.hid hd
    have HRR := Lib.hid hr
    have hr0 : 0 ≤ r := by rw [hr, ← hd]; exact sumD_nonneg fun c hc => hp c (List.mem_of_mem_drop hc)
    have HG := Lib.hid hv.lt
    have HU0 := Lib.hid hu
    have HPK := Lib.hid (show ∀ q, pk.ownBlock = some q → G + 1 ≤ q ∧ q < w.heap.size from ho.lt)
    clear ho hv hu hP hd hr
    by_cases ht0 : t = 0
    · as_aux_lemma =>
      subst ht0
      have hRe : R = (false, [], 0) := by rw [hR]; unfold stepF; rw [if_pos rfl]
      clear hR
      subst hRe
      go_enter Try.func41, Try.ntmps41
      go_wp2_with fail
      go_ret
      exact ⟨pk, rfl, HV.out, by rw [List.append_nil]; exact HO.out, Turns.refl _ _, fun q h => .inl h⟩
    · obtain ⟨k, rfl⟩ : ∃ k, t = k + 1 := ⟨t - 1, by omega⟩
      have htz : decide (((k + 1 : Nat) : Int) = 0) = false := decide_eq_false (by omega)
      have hR1 : R = if need ≤ s then (decide (s - need ≤ extra), [], k) else if s + r < need then (false, [], k) else
        match stepF need extra l k (s + c.1) (r - c.1) with
        | (true, p, t') => (true, c :: p, t')
        | (false, _, t') => stepF need extra l t' s (r - c.1) := by
        rw [hR]
        conv => lhs; unfold stepF
        rw [if_neg ht0, Nat.add_sub_cancel]
        rfl
      have HR := Lib.hid hR1
      clear hR hR1
      have ht1 : IntKind.i64.wrap (((k + 1 : Nat) : Int) - 1) = (k : Int) := IntWalk.i64_in _ (by omega) |>.trans (by omega)
      go_enter Try.func41, Try.ntmps41
      go_upto_region 4 with fail
      obtain ⟨w1, hw1⟩ : ∃ z, z = w.setCell ⟨G, 3, none⟩ (.int .i64 (k : Int)) := ⟨_, rfl⟩
      have hv1 : VRow w1 G 78 (srC need extra rate k seed u tot pk) := by rw [hw1]; exact HV.out.set 3 _
      have tt : Turns (fun q => q = G) w w1 := by rw [hw1]; exact Turns.setCell (S := fun q => q = G) (Turns.refl _ _) (p := ⟨G, 3, none⟩) (fun _ => rfl) _
      have hb1 : Below G w w1 := by rw [hw1]; exact (Below.refl _ _).setCell (p := ⟨G, 3, none⟩) (Nat.le_refl _) _
      have T1 := Lib.hid (show Turns (fun q => q = G ∨ pk.ownBlock = some q) w w1 by rw [hw1]; exact Turns.setCell (S := fun q => q = G ∨ pk.ownBlock = some q) (Turns.refl _ _) (p := ⟨G, 3, none⟩) (fun _ => .inl rfl) _)
      have O1 := Lib.hid (own_turns HO.out tt (fun q hq e => by have := (HO.out.lt q hq).1; omega))
      have U1 := Lib.hid (HU.out.below hb1)
      have V1 := Lib.hid hv1
      rw [← hw1]
      have y0 : w1.cell? ⟨G, 0, none⟩ = some (.int .i64 need) := hv1.cell rfl
      have y1 : w1.cell? ⟨G, 1, none⟩ = some (.int .i64 extra) := hv1.cell rfl
      have y5 : w1.cell? ⟨G, 5, none⟩ = some u := hv1.cell rfl
      have y7 : w1.cell? ⟨G, 7, none⟩ = some pk := hv1.cell rfl
      clear hw1 hv1 tt hb1 x0 x1 x3 f3 htz ht1 ht0 HO HV HU
      by_cases hns : need ≤ s
      · as_aux_lemma =>
        have hRe : R = (decide (s - need ≤ extra), [], k) := by rw [HR.out, if_pos hns]
        clear HR
        subst hRe
        have dn : decide (need ≤ s) = true := decide_eq_true hns
        have hwr : IntKind.i64.wrap (s - need) = s - need := IntWalk.i64_in _ (by omega)
        go_upto_region 5 with fail
        go_quiet (fail)
        go_wp2_with fail
        go_ret
        exact ⟨rfl, pk, V1.out, O1.out, T1.out.drewN nq, fun q h => .inl h⟩
      · have dn : decide (need ≤ s) = false := decide_eq_false hns
        have hwa : IntKind.i64.wrap (s + r) = s + r := IntWalk.i64_in _ (by omega)
        by_cases hsr : s + r < need
        · as_aux_lemma =>
          have hRe : R = (false, [], k) := by rw [HR.out, if_neg hns, if_pos hsr]
          clear HR
          subst hRe
          have dr : decide (s + r < need) = true := decide_eq_true hsr
          go_wp2_with fail
          go_ret
          exact ⟨rfl, pk, V1.out, O1.out, T1.out, fun q h => .inl h⟩
        · have dr : decide (s + r < need) = false := decide_eq_false hsr
          have hR2 := HR.out
          rw [if_neg hns, if_neg hsr] at hR2
          have HR2 := Lib.hid hR2
          clear HR hR2
          have hnl : n < H.length := by
            rcases Nat.lt_or_ge n H.length with h | h
            · exact h
            · have q := HD.out
              rw [List.drop_of_length_le h] at q
              cases q
          have hx : H[n]? = some c := by
            have q := HD.out
            rw [List.drop_eq_getElem_cons hnl] at q
            rw [List.getElem?_eq_getElem hnl, (List.cons.inj q).1]
          have hd2 : H.drop (n + 1) = l := by
            have q := HD.out
            rw [List.drop_eq_getElem_cons hnl] at q
            exact (List.cons.inj q).2
          have hc0 := hp c (List.mem_of_getElem? hx)
          have hr2 : r = c.1 + sumD l := HRR.out
          have hl0 : 0 ≤ sumD l := by rw [← hd2]; exact sumD_nonneg fun c hc => hp c (List.mem_of_mem_drop hc)
          have U2 : CnR w1 G u H := U1.out
          obtain ⟨b', o', c', ef, hc1, hc2, hbl, hm0, hm1⟩ := U2.at hx
          subst ef
          have HD2 := Lib.hid hd2
          have HR3 := Lib.hid hr2
          clear hx hd2 U2 hr2
          go_upto_region 9 with fail
          rw [show (((k : Nat) : Int) + 1 == 0) = false from beq_false_of_ne (by omega)]
          obtain ⟨w2, hw2⟩ : ∃ z, z = w1.alloc (.cells #[.int .i64 c.1, .int .i64 (c.2 : Int)] 75) := ⟨_, rfl⟩
          obtain ⟨C, hC⟩ : ∃ z, z = w1.heap.size := ⟨_, rfl⟩
          have hb2 : Below C w1 w2 := by rw [hw2, hC]; exact (Below.refl _ _).alloc (Nat.le_refl _) _
          have hv2 : VRow w2 G 78 (srC need extra rate k seed (.slice (some ⟨b', o', none⟩) H.length c') tot pk) := V1.out.below hb2 (by have := V1.out.lt; omega)
          have ho2 := own_turns O1.out (Turns.of_below (S := fun _ => False) (by rw [← hC]; exact hb2)) (fun _ _ q => q)
          have hr2 : VRow w2 C 75 [.int .i64 c.1, .int .i64 (c.2 : Int)] := by rw [hw2, hC]; exact VRow.new _ _ _
          have hlt2 : G < C := by have := V1.out.lt; omega
          have hob : ∀ q, pk.ownBlock = some q → q ≠ C := fun q hq => by have := (O1.out.lt q hq).2; omega
          have T2 := Lib.hid (show Turns (fun q => q = G ∨ pk.ownBlock = some q) w w2 by rw [hw2]; exact T1.out.alloc _)
          rw [← hw2, ← hC]
          obtain ⟨Ap, cp, hform⟩ := own_form ho2
          subst hform
          obtain ⟨nP, hnP⟩ : ∃ z, z = P.length := ⟨_, rfl⟩
          rw [← hnP] at ho2 hv2 hob HPK T2
          have V2 := Lib.hid hv2
          have O2 := Lib.hid ho2
          have RC := Lib.hid hr2
          have HNP := Lib.hid hnP
          have HOB := Lib.hid hob
          have LT2 := Lib.hid hlt2
          have hPl : nP ≤ 1000 := by have := HP.out; omega
          clear hw2 hC hb2 hv2 ho2 hr2 hnP hlt2 hob O1 V1 U1 T1 y0 y1 y7 hm0 hm1 hbl
          go_cut [76] (fun s76 wx => ∃ (A4 : Option Addr) (c4 : Nat), s76 = .slice A4 (nP + 1) c4 ∧ Hid (VRow wx G 78 (srC need extra rate k seed (.slice (some ⟨b', o', none⟩) H.length c') tot (.slice A4 (nP + 1) c4))) ∧ Hid (wx.ownsRow (G + 1) 75 2 (.slice A4 (nP + 1) c4) (nP + 1) ((P ++ [c]).flatMap cnC)) ∧ Hid (VRow wx C 75 [.int .i64 c.1, .int .i64 (c.2 : Int)]) ∧ Hid (Turns (fun q => q = G ∨ (Value.slice Ap nP cp).ownBlock = some q) w wx ∧ (∀ q, (Value.slice A4 (nP + 1) c4).ownBlock = some q → q ≠ C ∧ ((Value.slice Ap nP cp).ownBlock = some q ∨ w.heap.size ≤ q))))
          case first =>
            obtain ⟨oC, hoC⟩ : ∃ z, z = Obj.cells [Value.int .i64 c.1, .int .i64 (c.2 : Int)].toArray 75 := ⟨_, rfl⟩
            have ba : Below w2.heap.size w2.drew (w2.drew.alloc oC) := (Below.refl w2.heap.size w2.drew).alloc (show w2.heap.size ≤ w2.drew.heap.size from Nat.le_refl _) oC
            have RC3 := Lib.hid (show VRow (w2.drew.alloc oC) C 75 [.int .i64 c.1, .int .i64 (c.2 : Int)] from VRow.below (w := w2.drew) RC.out ba RC.out.lt)
            have V3 := Lib.hid (show VRow (w2.drew.alloc oC) G 78 _ from VRow.below (w := w2.drew) V2.out ba V2.out.lt)
            have O3 := Lib.hid (show (w2.drew.alloc oC).ownsRow (G + 1) 75 2 (.slice Ap nP cp) nP (P.flatMap cnC) from O2.out.drew.alloc oC)
            have R3 := Lib.hid (show (w2.drew.alloc oC).rangeAt w2.heap.size 0 [.int .i64 c.1, .int .i64 (c.2 : Int)] from by rw [hoC]; exact (VRow.new w2.drew 75 [.int .i64 c.1, .int .i64 (c.2 : Int)]).range (fun q v hv => by rw [Nat.zero_add]; exact hv))
            have K3 := Lib.hid (show ∀ v ∈ [Value.int .i64 c.1, .int .i64 (c.2 : Int)], v.oneCell' = true from fun v hv => by simp only [List.mem_cons, List.not_mem_nil, or_false] at hv; rcases hv with rfl | rfl <;> rfl)
            have M3 := Lib.hid (show (nP + 1) * 16 ≤ 140737488355328 by omega)
            have N3 := Lib.hid (show nP + 1 ≤ maxLen by unfold maxLen; omega)
            have G3 := Lib.hid (show G + 1 ≤ (w2.drew.alloc oC).heap.size by have := V3.out.lt; omega)
            have T3 := Lib.hid (show Turns (fun q => q = G ∨ (Value.slice Ap nP cp).ownBlock = some q) w (w2.drew.alloc oC) from (T2.out.drew).alloc oC)
            have Z3 := Lib.hid (show C < (w2.drew.alloc oC).heap.size from RC3.out.lt)
            have hOC : (Instr.buildSlice 58 1 #[(0, .agg #[.int .i64 c.1, .int .i64 (c.2 : Int)])]).run Try.prog w2.drew = .ok (.slice (some ⟨w2.heap.size, 0, none⟩) 1 1) (w2.drew.alloc oC) := by rw [hoC]; exact one_coin _ _ _
            have c7 : w2.drew.cell? ⟨G, 7, none⟩ = some (.slice Ap nP cp) := V2.out.cell rfl
            have c8 : (w2.drew.alloc oC).cell? ⟨G, 7, none⟩ = some (.slice Ap nP cp) := V3.out.cell rfl
            have c9 : (w2.alloc oC).drew.cell? ⟨G, 7, none⟩ = some (.slice Ap nP cp) := V3.out.cell rfl
            have c10 : (w2.alloc oC).cell? ⟨G, 7, none⟩ = some (.slice Ap nP cp) := V3.out.cell rfl
            have HFM := Lib.hid (show (P ++ [c]).flatMap cnC = P.flatMap cnC ++ [.int .i64 c.1, .int .i64 (c.2 : Int)] by rw [List.flatMap_append]; rfl)
            clear hoC ba
            refine wp_region_held_drew (S := (fun w' => VRow w' C 75 [.int .i64 c.1, .int .i64 (c.2 : Int)])) (by kernel_rfl) ?_ (fun hHeld => ?_)
            · exact RC.out
            refine wpAnyH_take (i := 0) (oi := { dst := some 69, op := Go.Op.move (Go.Operand.tmp 0), type := 92, pos := "branch.go:32", after := #[], guard := none }) (v := ?av0) rfl (by kernel_rfl) (by kernel_rfl) (by kernel_rfl) (fun _ _ _ h => h) (Or.inl ⟨by rfl, ?ay0⟩) (by assumption) ?ar0
            case ay0 => (intro w hSw; (try dsimp only at hSw); go_simp; try (with_reducible rfl))
            case ar0 =>
            try simp only [Act.put, List.setIfInBounds_toArray, List.set_cons_zero, List.set_cons_succ]
            refine wpAnyH_take (i := 1) (oi := { dst := some 70, op := Go.Op.move (Go.Operand.tmp 0), type := 92, pos := "branch.go:32", after := #[], guard := none }) (v := ?av1) rfl (by kernel_rfl) (by kernel_rfl) (by kernel_rfl) (fun _ _ _ h => h) (Or.inl ⟨by rfl, ?ay1⟩) (by assumption) ?ar1
            case ay1 => (intro w hSw; (try dsimp only at hSw); go_simp; try (with_reducible rfl))
            case ar1 =>
            try simp only [Act.put, List.setIfInBounds_toArray, List.set_cons_zero, List.set_cons_succ]
            refine wpAnyH_take (i := 2) (oi := { dst := some 71, op := Go.Op.nilCheck (Go.Operand.tmp 70), type := 0, pos := "branch.go:32", after := #[{ on := 1, ground := Go.Ground.data }], guard := none }) (v := ?av2) rfl (by kernel_rfl) (by kernel_rfl) (by kernel_rfl) (fun _ _ _ h => h) (Or.inl ⟨by rfl, ?ay2⟩) (by assumption) ?ar2
            case ay2 => (intro w hSw; (try dsimp only at hSw); go_simp; try (with_reducible rfl))
            case ar2 =>
            try simp only [Act.put, List.setIfInBounds_toArray, List.set_cons_zero, List.set_cons_succ]
            refine wpAnyH_take (i := 3) (oi := { dst := some 72, op := Go.Op.fieldAddr 78 (Go.Operand.tmp 71) 1, type := 0, pos := "branch.go:32", after := #[{ on := 2, ground := Go.Ground.data }], guard := none }) (v := ?av3) rfl (by kernel_rfl) (by kernel_rfl) (by kernel_rfl) (fun _ _ _ h => h) (Or.inl ⟨by rfl, ?ay3⟩) (by assumption) ?ar3
            case ay3 => (intro w hSw; (try dsimp only at hSw); go_simp; try (with_reducible rfl))
            case ar3 =>
            try simp only [Act.put, List.setIfInBounds_toArray, List.set_cons_zero, List.set_cons_succ]
            refine wpAnyH_take (i := 5) (oi := { dst := some 74, op := Go.Op.load 75 (Go.Operand.tmp 9), type := 75, pos := "branch.go:32", after := #[], guard := none }) (v := (.agg #[.int .i64 c.1, .int .i64 (c.2 : Int)])) rfl (by kernel_rfl) (by kernel_rfl) (by kernel_rfl) (fun _ _ _ h => h) (yieldsIf_load_mid (by rfl) 75 (.tmp 9) rfl C 0 rfl [.int .i64 c.1, .int .i64 (c.2 : Int)] _ (fun w' h => VRow.range h (fun q v hv => by rw [Nat.zero_add]; exact hv)) Try.underlying75 rfl (by kernel_rfl)) (by assumption) ?_
            try simp only [Act.put, List.setIfInBounds_toArray, List.set_cons_zero, List.set_cons_succ]
            refine wpAnyH_ready (rs := [4, 6]) (by kernel_rfl) (by simp) ?_
            refine AllReadyH.cons (o := { dst := some 73, op := Go.Op.load 58 (Go.Operand.tmp 72), type := 58, pos := "branch.go:32", after := #[{ on := 3, ground := Go.Ground.data }], guard := none }) rfl (fun K hK => ?_) (AllReadyH.cons (o := { dst := some 75, op := Go.Op.buildSlice 58 1 #[(0, Go.Operand.tmp 74)], type := 58, pos := "branch.go:32", after := #[{ on := 5, ground := Go.Ground.data }], guard := none }) rfl (fun K hK => ?_) (AllReadyH.nil))
            · skip
              go_simp
              refine hK.out _ _ ?_ (fun hHeld => ?_)
              · exact hHeld
              clear hK K
              try simp only [Act.put, List.setIfInBounds_toArray, List.set_cons_zero, List.set_cons_succ]
              refine wpAnyH_ready (rs := [6]) (by kernel_rfl) (by simp) ?_
              refine AllReadyH.cons (o := { dst := some 75, op := Go.Op.buildSlice 58 1 #[(0, Go.Operand.tmp 74)], type := 58, pos := "branch.go:32", after := #[{ on := 5, ground := Go.Ground.data }], guard := none }) rfl (fun K hK => ?_) (AllReadyH.nil)
              refine wp_buildSlice _ _ _ rfl _ _ (by simp only [List.map_toArray, List.map_cons, List.map_nil]; exact hOC) ?_
              refine hK.out _ _ ?_ (fun hHeld => ?_)
              · exact RC3.out
              clear hK K
              try simp only [Act.put, List.setIfInBounds_toArray, List.set_cons_zero, List.set_cons_succ]
              refine wpAnyH_ready (rs := [7]) (by kernel_rfl) (by simp) ?_
              refine AllReadyH.cons (o := { dst := some 76, op := Go.Op.call { callee := Go.Callee.builtin Go.Builtin.append, args := #[Go.Operand.tmp 73, Go.Operand.tmp 75], argTypes := #[58, 58] }, type := 58, pos := "branch.go:32", after := #[{ on := 4, ground := Go.Ground.data }, { on := 6, ground := Go.Ground.data }], guard := none }) rfl (fun K hK => ?_) (AllReadyH.nil)
              refine op_append_row slt_coin (.tmp 73) (.tmp 75) rfl (G + 1) _ _ _ rfl O3.out _ 1 [.int .i64 c.1, .int .i64 (c.2 : Int)] rfl rfl R3.out K3.out M3.out N3.out G3.out ?_
              intro v1 w3 hown1 hg1 ho1
              obtain ⟨A1, c1, rfl⟩ := own_form hown1
              have V4 := vrow_grown V3.out O3.out hg1 (Nat.lt_succ_self _)
              have RC4 : VRow w3 C _ _ := (hg1.block C RC3.out.lt (fun q => HOB.out C q.symm rfl)).trans RC3.out
              have T4 : Turns (fun q => q = G ∨ (Value.slice Ap nP cp).ownBlock = some q) w w3 := T3.out.grown hg1 (fun k hk _ => .inr hk)
              have f7 := V4.free 7
              have x7 := V4.cell (i := 7) rfl
              refine hK.out _ _ ?_ (fun hHeld => ?_)
              · exact RC4
              clear hK K
              try simp only [Act.put, List.setIfInBounds_toArray, List.set_cons_zero, List.set_cons_succ]
              refine wpAnyH_take (i := 8) (oi := { dst := some 77, op := Go.Op.nilCheck (Go.Operand.tmp 69), type := 0, pos := "branch.go:32", after := #[{ on := 0, ground := Go.Ground.data }, { on := 0, ground := Go.Ground.phase }, { on := 1, ground := Go.Ground.phase }, { on := 2, ground := Go.Ground.phase }, { on := 3, ground := Go.Ground.phase }, { on := 4, ground := Go.Ground.phase }, { on := 5, ground := Go.Ground.phase }, { on := 6, ground := Go.Ground.phase }, { on := 7, ground := Go.Ground.phase }], guard := none }) (v := ?a_4_6_7v8) rfl (by kernel_rfl) (by kernel_rfl) (by kernel_rfl) (fun _ _ _ h => h) (Or.inl ⟨by rfl, ?a_4_6_7y8⟩) (by assumption) ?a_4_6_7r8
              case a_4_6_7y8 => (intro w hSw; (try dsimp only at hSw); go_simp; try (with_reducible rfl))
              case a_4_6_7r8 =>
              try simp only [Act.put, List.setIfInBounds_toArray, List.set_cons_zero, List.set_cons_succ]
              refine wpAnyH_take (i := 9) (oi := { dst := some 78, op := Go.Op.fieldAddr 78 (Go.Operand.tmp 77) 1, type := 0, pos := "branch.go:32", after := #[{ on := 8, ground := Go.Ground.data }, { on := 0, ground := Go.Ground.phase }, { on := 1, ground := Go.Ground.phase }, { on := 2, ground := Go.Ground.phase }, { on := 3, ground := Go.Ground.phase }, { on := 4, ground := Go.Ground.phase }, { on := 5, ground := Go.Ground.phase }, { on := 6, ground := Go.Ground.phase }, { on := 7, ground := Go.Ground.phase }], guard := none }) (v := ?a_4_6_7v9) rfl (by kernel_rfl) (by kernel_rfl) (by kernel_rfl) (fun _ _ _ h => h) (Or.inl ⟨by rfl, ?a_4_6_7y9⟩) (by assumption) ?a_4_6_7r9
              case a_4_6_7y9 => (intro w hSw; (try dsimp only at hSw); go_simp; try (with_reducible rfl))
              case a_4_6_7r9 =>
              try simp only [Act.put, List.setIfInBounds_toArray, List.set_cons_zero, List.set_cons_succ]
              refine wpAnyH_ready (rs := [10]) (by kernel_rfl) (by simp) ?_
              refine AllReadyH.cons (o := { dst := none, op := Go.Op.store 58 (Go.Operand.tmp 78) (Go.Operand.tmp 76), type := 0, pos := "branch.go:32", after := #[{ on := 9, ground := Go.Ground.data }, { on := 7, ground := Go.Ground.data }, { on := 7, ground := Go.Ground.chain }, { on := 0, ground := Go.Ground.phase }, { on := 1, ground := Go.Ground.phase }, { on := 2, ground := Go.Ground.phase }, { on := 3, ground := Go.Ground.phase }, { on := 4, ground := Go.Ground.phase }, { on := 5, ground := Go.Ground.phase }, { on := 6, ground := Go.Ground.phase }, { on := 7, ground := Go.Ground.phase }], guard := none }) rfl (fun K hK => ?_) (AllReadyH.nil)
              go_simp
              refine hK.out _ _ ?_ (fun hHeld => ?_)
              · exact RC4.turns (S := fun q => q = G) (Turns.setCell (S := fun q => q = G) (Turns.refl _ _) (p := ⟨G, 7, none⟩) (fun _ => rfl) _) (by have := LT2.out; omega)
              clear hK K
              try simp only [Act.put]
              refine wpAnyH_done (by kernel_rfl) ?_ _
              have tt : Turns (fun q => q = G) w3 (w3.setCell ⟨G, 7, none⟩ (.slice A1 (nP + 1) c1)) := Turns.setCell (S := fun q => q = G) (Turns.refl _ _) (p := ⟨G, 7, none⟩) (fun _ => rfl) _
              go_wp2_with fail
              go_meet
              exact ⟨A1, c1, rfl, Lib.hid (V4.set 7 _), Lib.hid (by rw [HFM.out]; exact own_turns hown1 tt (fun q hq e => by have := (hown1.lt q hq).1; omega)), Lib.hid hHeld, Lib.hid ⟨T4.setCell (p := ⟨G, 7, none⟩) (fun _ => .inl rfl) _, own_after ho1 HOB.out Z3.out T3.out.size⟩⟩
            · skip
              refine wp_buildSlice _ _ _ rfl _ _ (by simp only [List.map_toArray, List.map_cons, List.map_nil]; exact hOC) ?_
              refine hK.out _ _ ?_ (fun hHeld => ?_)
              · exact RC3.out
              clear hK K
              try simp only [Act.put, List.setIfInBounds_toArray, List.set_cons_zero, List.set_cons_succ]
              refine wpAnyH_ready (rs := [4]) (by kernel_rfl) (by simp) ?_
              refine AllReadyH.cons (o := { dst := some 73, op := Go.Op.load 58 (Go.Operand.tmp 72), type := 58, pos := "branch.go:32", after := #[{ on := 3, ground := Go.Ground.data }], guard := none }) rfl (fun K hK => ?_) (AllReadyH.nil)
              go_simp
              refine hK.out _ _ ?_ (fun hHeld => ?_)
              · exact hHeld
              clear hK K
              try simp only [Act.put, List.setIfInBounds_toArray, List.set_cons_zero, List.set_cons_succ]
              refine wpAnyH_ready (rs := [7]) (by kernel_rfl) (by simp) ?_
              refine AllReadyH.cons (o := { dst := some 76, op := Go.Op.call { callee := Go.Callee.builtin Go.Builtin.append, args := #[Go.Operand.tmp 73, Go.Operand.tmp 75], argTypes := #[58, 58] }, type := 58, pos := "branch.go:32", after := #[{ on := 4, ground := Go.Ground.data }, { on := 6, ground := Go.Ground.data }], guard := none }) rfl (fun K hK => ?_) (AllReadyH.nil)
              refine op_append_row slt_coin (.tmp 73) (.tmp 75) rfl (G + 1) _ _ _ rfl O3.out _ 1 [.int .i64 c.1, .int .i64 (c.2 : Int)] rfl rfl R3.out K3.out M3.out N3.out G3.out ?_
              intro v1 w3 hown1 hg1 ho1
              obtain ⟨A1, c1, rfl⟩ := own_form hown1
              have V4 := vrow_grown V3.out O3.out hg1 (Nat.lt_succ_self _)
              have RC4 : VRow w3 C _ _ := (hg1.block C RC3.out.lt (fun q => HOB.out C q.symm rfl)).trans RC3.out
              have T4 : Turns (fun q => q = G ∨ (Value.slice Ap nP cp).ownBlock = some q) w w3 := T3.out.grown hg1 (fun k hk _ => .inr hk)
              have f7 := V4.free 7
              have x7 := V4.cell (i := 7) rfl
              refine hK.out _ _ ?_ (fun hHeld => ?_)
              · exact RC4
              clear hK K
              try simp only [Act.put, List.setIfInBounds_toArray, List.set_cons_zero, List.set_cons_succ]
              refine wpAnyH_take (i := 8) (oi := { dst := some 77, op := Go.Op.nilCheck (Go.Operand.tmp 69), type := 0, pos := "branch.go:32", after := #[{ on := 0, ground := Go.Ground.data }, { on := 0, ground := Go.Ground.phase }, { on := 1, ground := Go.Ground.phase }, { on := 2, ground := Go.Ground.phase }, { on := 3, ground := Go.Ground.phase }, { on := 4, ground := Go.Ground.phase }, { on := 5, ground := Go.Ground.phase }, { on := 6, ground := Go.Ground.phase }, { on := 7, ground := Go.Ground.phase }], guard := none }) (v := ?a_6_4_7v8) rfl (by kernel_rfl) (by kernel_rfl) (by kernel_rfl) (fun _ _ _ h => h) (Or.inl ⟨by rfl, ?a_6_4_7y8⟩) (by assumption) ?a_6_4_7r8
              case a_6_4_7y8 => (intro w hSw; (try dsimp only at hSw); go_simp; try (with_reducible rfl))
              case a_6_4_7r8 =>
              try simp only [Act.put, List.setIfInBounds_toArray, List.set_cons_zero, List.set_cons_succ]
              refine wpAnyH_take (i := 9) (oi := { dst := some 78, op := Go.Op.fieldAddr 78 (Go.Operand.tmp 77) 1, type := 0, pos := "branch.go:32", after := #[{ on := 8, ground := Go.Ground.data }, { on := 0, ground := Go.Ground.phase }, { on := 1, ground := Go.Ground.phase }, { on := 2, ground := Go.Ground.phase }, { on := 3, ground := Go.Ground.phase }, { on := 4, ground := Go.Ground.phase }, { on := 5, ground := Go.Ground.phase }, { on := 6, ground := Go.Ground.phase }, { on := 7, ground := Go.Ground.phase }], guard := none }) (v := ?a_6_4_7v9) rfl (by kernel_rfl) (by kernel_rfl) (by kernel_rfl) (fun _ _ _ h => h) (Or.inl ⟨by rfl, ?a_6_4_7y9⟩) (by assumption) ?a_6_4_7r9
              case a_6_4_7y9 => (intro w hSw; (try dsimp only at hSw); go_simp; try (with_reducible rfl))
              case a_6_4_7r9 =>
              try simp only [Act.put, List.setIfInBounds_toArray, List.set_cons_zero, List.set_cons_succ]
              refine wpAnyH_ready (rs := [10]) (by kernel_rfl) (by simp) ?_
              refine AllReadyH.cons (o := { dst := none, op := Go.Op.store 58 (Go.Operand.tmp 78) (Go.Operand.tmp 76), type := 0, pos := "branch.go:32", after := #[{ on := 9, ground := Go.Ground.data }, { on := 7, ground := Go.Ground.data }, { on := 7, ground := Go.Ground.chain }, { on := 0, ground := Go.Ground.phase }, { on := 1, ground := Go.Ground.phase }, { on := 2, ground := Go.Ground.phase }, { on := 3, ground := Go.Ground.phase }, { on := 4, ground := Go.Ground.phase }, { on := 5, ground := Go.Ground.phase }, { on := 6, ground := Go.Ground.phase }, { on := 7, ground := Go.Ground.phase }], guard := none }) rfl (fun K hK => ?_) (AllReadyH.nil)
              go_simp
              refine hK.out _ _ ?_ (fun hHeld => ?_)
              · exact RC4.turns (S := fun q => q = G) (Turns.setCell (S := fun q => q = G) (Turns.refl _ _) (p := ⟨G, 7, none⟩) (fun _ => rfl) _) (by have := LT2.out; omega)
              clear hK K
              try simp only [Act.put]
              refine wpAnyH_done (by kernel_rfl) ?_ _
              have tt : Turns (fun q => q = G) w3 (w3.setCell ⟨G, 7, none⟩ (.slice A1 (nP + 1) c1)) := Turns.setCell (S := fun q => q = G) (Turns.refl _ _) (p := ⟨G, 7, none⟩) (fun _ => rfl) _
              go_wp2_with fail
              go_meet
              exact ⟨A1, c1, rfl, Lib.hid (V4.set 7 _), Lib.hid (by rw [HFM.out]; exact own_turns hown1 tt (fun q hq e => by have := (hown1.lt q hq).1; omega)), Lib.hid hHeld, Lib.hid ⟨T4.setCell (p := ⟨G, 7, none⟩) (fun _ => .inl rfl) _, own_after ho1 HOB.out Z3.out T3.out.size⟩⟩
          case rest =>
            obtain ⟨A4, c4, hs76, V5, O5, RC5, TT5⟩ := hcut
            subst hs76
            obtain ⟨w5, rfl⟩ : ∃ z : World, z = wc := ⟨_, rfl⟩
            have T5 := TT5.out.1
            have hA4 := TT5.out.2
            have hpk := HPK.out
            have b5 : Below G w w5 := T5.below_of (by have := HG.out; omega) (fun i hi h => h.elim (fun e => by omega) (fun e => by have := (hpk i e).1; omega))
            have hsum : s + c.1 + (r - c.1) ≤ 2100000000000000 := by omega
            have hlP : (P ++ [c]).length = nP + 1 := by rw [List.length_append, ← HNP.out, List.length_singleton]
            have hle : nP + 1 ≤ n + 1 := by have := HP.out; have := HNP.out; omega
            have q1 := ih (n + 1) k (s + c.1) (r - c.1) (P ++ [c]) _ w5 HD2.out (by omega) (by have := HR3.out; omega) (by omega) hsum (by omega) (by rw [hlP]; exact hle) (HU0.out.below b5) V5.out (by rw [hlP]; exact O5.out)
            have hle1 := stepF_le need extra l k (s + c.1) (r - c.1)
            have hno1 := stepF_no need extra l k (s + c.1) (r - c.1)
            have hR2 := HR2.out
            obtain ⟨R1, hR1⟩ : ∃ z, z = stepF need extra l k (s + c.1) (r - c.1) := ⟨_, rfl⟩
            rw [← hR1] at q1 hle1 hno1 hR2
            obtain ⟨b1, p1, t1⟩ := R1
            dsimp only at q1 hle1 hno1 hR2
            rw [Int.natCast_add] at q1
            have e1 : IntKind.i64.wrap (s + c.1) = s + c.1 := IntWalk.i64_in _ (by omega)
            have e2 : IntKind.i64.wrap (r - c.1) = r - c.1 := IntWalk.i64_in _ (by have := HR3.out; omega)
            have y0 : w5.cell? ⟨C, 0, none⟩ = some (.int .i64 c.1) := RC5.out.cell rfl
            have Q1 := Lib.hid q1
            have HRF := Lib.hid hR2
            have HR1 := Lib.hid hR1
            have TT := Lib.hid T5
            clear q1 hR2 hR1 HR2 T5 b5 hsum
            cases b1 with
            | true =>
              go_wp2_with (first
                | (go_at_call 41; refine Q1.out.mono ?_; rintro e w6 ⟨pk6, rfl, V6, O6, t6, o6⟩))
              go_ret
              have hR3 : R = (true, c :: p1, t1) := HRF.out
              subst hR3
              have e9 := HNP.out
              subst e9
              have hsz := TT.out.size
              refine ⟨pk6, rfl, V6, ?_, TT.out.trans t6 (fun i hi h => h.elim .inl (fun h => .inr ((hA4 i h).2.resolve_right (by omega)))), fun q hq => (o6 q hq).elim (fun h => (hA4 q h).2) (fun h => .inr (by omega))⟩
              show w6.ownsRow (G + 1) _ 2 pk6 (P ++ (c :: p1)).length ((P ++ (c :: p1)).flatMap cnC)
              rw [List.append_cons]
              exact O6
            | false =>
              obtain rfl : p1 = [] := hno1 rfl
              have hR3 : R = stepF need extra l t1 s (r - c.1) := HRF.out
              go_upto_region 12 with (first
                | (go_at_call 41; refine Q1.out.mono ?_; rintro e w6 ⟨pk6, rfl, V6, O6, t6, o6⟩))
              rw [List.append_nil] at O6
              have hn6 : 0 < (P ++ [c]).length := by rw [hlP]; omega
              obtain ⟨g6, c6, hp6, hc6⟩ := own_some O6 hn6
              subst hp6
              rw [hlP] at O6 V6 o6 hc6
              have hRC : VRow w6 C _ _ := RC5.out.turns t6 (fun h => h.elim (fun e => by have := LT2.out; omega) (fun e => (hA4 C e).1 rfl))
              have T6 := TT.out.trans t6 (S := fun q => q = G ∨ (Value.slice Ap nP cp).ownBlock = some q) (fun i hi h => h.elim .inl (fun h => .inr ((hA4 i h).2.resolve_right (by have := TT.out.size; omega))))
              have x7 : w6.cell? ⟨G, 7, none⟩ = some (.slice (some ⟨g6, 0, none⟩) (nP + 1) c6) := V6.cell rfl
              have f7 := V6.free 7
              have hsz6 : w.heap.size ≤ w5.heap.size := TT.out.size
              have hg6 : (Value.slice Ap nP cp).ownBlock = some g6 ∨ w.heap.size ≤ g6 := (o6 g6 rfl).elim (fun h => (hA4 g6 h).2) (fun h => .inr (by omega))
              have hgg : G + 1 ≤ g6 := (O6.lt g6 rfl).1
              obtain ⟨TR, hTR⟩ : ∃ z, z = Value.slice (some ⟨g6, 0, none⟩) nP c6 := ⟨_, rfl⟩
              have htb : TR.ownBlock = some g6 := by rw [hTR]; rfl
              have hO7 : w6.ownsRow (G + 1) 75 2 TR nP (P.flatMap cnC) := by
                have q := own_shrink O6 (Nat.le_succ nP) (by intro h; cases h)
                rw [flat_take cnC 2 _ (fun _ _ => rfl), HNP.out, List.take_left' rfl, ← HNP.out] at q
                rw [hTR]
                exact q
              obtain ⟨w7, hw7⟩ : ∃ z, z = (w6.setCell ⟨G, 7, none⟩ TR).drew := ⟨_, rfl⟩
              have tt7 : Turns (fun q => q = G) w6 w7 := by rw [hw7]; exact (Turns.setCell (S := fun q => q = G) (Turns.refl _ _) (p := ⟨G, 7, none⟩) (fun _ => rfl) _).drew
              have hV7 : VRow w7 G 78 (srC need extra rate t1 seed (.slice (some ⟨b', o', none⟩) H.length c') tot TR) := by rw [hw7]; exact V6.set 7 _
              have hO8 := own_turns hO7 tt7 (fun q hq e => by have := (hO7.lt q hq).1; omega)
              have T7 : Turns (fun q => q = G ∨ (Value.slice Ap nP cp).ownBlock = some q) w w7 := T6.trans tt7 (fun i hi h => .inl h)
              have b7 : Below G w w7 := T7.below_of (by have := HG.out; omega) (fun i hi h => h.elim (fun e => by omega) (fun e => by have := (hpk i e).1; omega))
              have hRC7 : VRow w7 C _ _ := hRC.turns tt7 (fun e => by have := LT2.out; omega)
              have q2 := ih (n + 1) t1 s (r - c.1) P TR w7 HD2.out (by omega) (by have := HR3.out; omega) hs0 (by omega) (by omega) (by have := HP.out; omega) (HU0.out.below b7) hV7 (by rw [← HNP.out]; exact hO8)
              rw [Int.natCast_add] at q2
              have Q2 := Lib.hid q2
              have z0 : w7.cell? ⟨C, 0, none⟩ = some (.int .i64 c.1) := hRC7.cell rfl
              have hwn : IntKind.i64.wrap (((nP + 1 : Nat) : Int) - 1) = (nP : Int) := IntWalk.i64_in _ (by omega) |>.trans (by omega)
              have HTR := Lib.hid hTR
              have HW7 := Lib.hid hw7
              clear q2 hRC7 hO8 hV7 tt7 hO7 hRC O6 V6 t6 Q1 hw7 hTR b7 T6 RC5 O5 V5 TT
              have HG6 := Lib.hid hg6
              have hwnP : IntKind.i64.wrap (nP : Int) = (nP : Int) := IntWalk.i64_in _ (by omega)
              have hsl0 : (0 : Int) ≤ (nP : Int) := by omega
              have hsl1 : (nP : Int) ≤ (c6 : Int) := by omega
              have HTB := Lib.hid htb
              have HT7 := Lib.hid T7
              clear hg6 htb T7
              refine wp_region_held_drew (S := (fun _ => True)) (by kernel_rfl) ?_ (fun hHeld => ?_)
              · exact trivial
              refine wpAnyH_take (i := 0) (oi := { dst := some 91, op := Go.Op.move (Go.Operand.tmp 0), type := 92, pos := "branch.go:36", after := #[], guard := none }) (v := ?bv0) rfl (by kernel_rfl) (by kernel_rfl) (by kernel_rfl) (fun _ _ _ h => h) (Or.inl ⟨by rfl, ?by0⟩) (by assumption) ?br0
              case by0 => (intro w hSw; (try dsimp only at hSw); go_simp; try (with_reducible rfl))
              case br0 =>
              try simp only [Act.put, List.setIfInBounds_toArray, List.set_cons_zero, List.set_cons_succ]
              refine wpAnyH_take (i := 1) (oi := { dst := some 92, op := Go.Op.move (Go.Operand.tmp 0), type := 92, pos := "branch.go:36", after := #[], guard := none }) (v := ?bv1) rfl (by kernel_rfl) (by kernel_rfl) (by kernel_rfl) (fun _ _ _ h => h) (Or.inl ⟨by rfl, ?by1⟩) (by assumption) ?br1
              case by1 => (intro w hSw; (try dsimp only at hSw); go_simp; try (with_reducible rfl))
              case br1 =>
              try simp only [Act.put, List.setIfInBounds_toArray, List.set_cons_zero, List.set_cons_succ]
              refine wpAnyH_take (i := 2) (oi := { dst := some 93, op := Go.Op.nilCheck (Go.Operand.tmp 92), type := 0, pos := "branch.go:36", after := #[{ on := 1, ground := Go.Ground.data }], guard := none }) (v := ?bv2) rfl (by kernel_rfl) (by kernel_rfl) (by kernel_rfl) (fun _ _ _ h => h) (Or.inl ⟨by rfl, ?by2⟩) (by assumption) ?br2
              case by2 => (intro w hSw; (try dsimp only at hSw); go_simp; try (with_reducible rfl))
              case br2 =>
              try simp only [Act.put, List.setIfInBounds_toArray, List.set_cons_zero, List.set_cons_succ]
              refine wpAnyH_take (i := 3) (oi := { dst := some 94, op := Go.Op.fieldAddr 78 (Go.Operand.tmp 93) 1, type := 0, pos := "branch.go:36", after := #[{ on := 2, ground := Go.Ground.data }], guard := none }) (v := ?bv3) rfl (by kernel_rfl) (by kernel_rfl) (by kernel_rfl) (fun _ _ _ h => h) (Or.inl ⟨by rfl, ?by3⟩) (by assumption) ?br3
              case by3 => (intro w hSw; (try dsimp only at hSw); go_simp; try (with_reducible rfl))
              case br3 =>
              try simp only [Act.put, List.setIfInBounds_toArray, List.set_cons_zero, List.set_cons_succ]
              refine wpAnyH_take (i := 5) (oi := { dst := some 96, op := Go.Op.move (Go.Operand.tmp 0), type := 92, pos := "branch.go:36", after := #[], guard := none }) (v := ?bv5) rfl (by kernel_rfl) (by kernel_rfl) (by kernel_rfl) (fun _ _ _ h => h) (Or.inl ⟨by rfl, ?by5⟩) (by assumption) ?br5
              case by5 => (intro w hSw; (try dsimp only at hSw); go_simp; try (with_reducible rfl))
              case br5 =>
              try simp only [Act.put, List.setIfInBounds_toArray, List.set_cons_zero, List.set_cons_succ]
              refine wpAnyH_take (i := 6) (oi := { dst := some 97, op := Go.Op.nilCheck (Go.Operand.tmp 96), type := 0, pos := "branch.go:36", after := #[{ on := 5, ground := Go.Ground.data }], guard := none }) (v := ?bv6) rfl (by kernel_rfl) (by kernel_rfl) (by kernel_rfl) (fun _ _ _ h => h) (Or.inl ⟨by rfl, ?by6⟩) (by assumption) ?br6
              case by6 => (intro w hSw; (try dsimp only at hSw); go_simp; try (with_reducible rfl))
              case br6 =>
              try simp only [Act.put, List.setIfInBounds_toArray, List.set_cons_zero, List.set_cons_succ]
              refine wpAnyH_take (i := 7) (oi := { dst := some 98, op := Go.Op.fieldAddr 78 (Go.Operand.tmp 97) 1, type := 0, pos := "branch.go:36", after := #[{ on := 6, ground := Go.Ground.data }], guard := none }) (v := ?bv7) rfl (by kernel_rfl) (by kernel_rfl) (by kernel_rfl) (fun _ _ _ h => h) (Or.inl ⟨by rfl, ?by7⟩) (by assumption) ?br7
              case by7 => (intro w hSw; (try dsimp only at hSw); go_simp; try (with_reducible rfl))
              case br7 =>
              try simp only [Act.put, List.setIfInBounds_toArray, List.set_cons_zero, List.set_cons_succ]
              refine wpAnyH_ready (rs := [4, 8]) (by kernel_rfl) (by simp) ?_
              refine AllReadyH.cons (o := { dst := some 95, op := Go.Op.load 58 (Go.Operand.tmp 94), type := 58, pos := "branch.go:36", after := #[{ on := 3, ground := Go.Ground.data }], guard := none }) rfl (fun K hK => ?_) (AllReadyH.cons (o := { dst := some 99, op := Go.Op.load 58 (Go.Operand.tmp 98), type := 58, pos := "branch.go:36", after := #[{ on := 7, ground := Go.Ground.data }], guard := none }) rfl (fun K hK => ?_) (AllReadyH.nil))
              · skip
                go_simp
                refine hK.out _ _ ?_ (fun hHeld => ?_)
                · exact trivial
                clear hK K
                try simp only [Act.put, List.setIfInBounds_toArray, List.set_cons_zero, List.set_cons_succ]
                refine wpAnyH_ready (rs := [8]) (by kernel_rfl) (by simp) ?_
                refine AllReadyH.cons (o := { dst := some 99, op := Go.Op.load 58 (Go.Operand.tmp 98), type := 58, pos := "branch.go:36", after := #[{ on := 7, ground := Go.Ground.data }], guard := none }) rfl (fun K hK => ?_) (AllReadyH.nil)
                go_simp
                refine hK.out _ _ ?_ (fun hHeld => ?_)
                · exact trivial
                clear hK K
                try simp only [Act.put, List.setIfInBounds_toArray, List.set_cons_zero, List.set_cons_succ]
                refine wpAnyH_take (i := 9) (oi := { dst := some 100, op := Go.Op.call { callee := Go.Callee.builtin Go.Builtin.len, args := #[Go.Operand.tmp 99], argTypes := #[58] }, type := 3, pos := "branch.go:36", after := #[{ on := 8, ground := Go.Ground.data }], guard := none }) (v := ?b_4_8v9) rfl (by kernel_rfl) (by kernel_rfl) (by kernel_rfl) (fun _ _ _ h => h) (Or.inl ⟨by rfl, ?b_4_8y9⟩) (by assumption) ?b_4_8r9
                case b_4_8y9 => (intro w hSw; (try dsimp only at hSw); go_simp; try (with_reducible rfl))
                case b_4_8r9 =>
                try simp only [Act.put, List.setIfInBounds_toArray, List.set_cons_zero, List.set_cons_succ]
                refine wpAnyH_take (i := 10) (oi := { dst := some 101, op := Go.Op.binOp Go.BinOp.sub 3 (Go.Operand.tmp 100) (Go.Operand.const (Go.Value.int Go.IntKind.i64 1)) 3, type := 3, pos := "branch.go:36", after := #[{ on := 9, ground := Go.Ground.data }], guard := none }) (v := (.int .i64 (nP : Int))) rfl (by kernel_rfl) (by kernel_rfl) (by kernel_rfl) (fun _ _ _ h => h) (Or.inl ⟨by rfl, ?b_4_8y10⟩) (by assumption) ?b_4_8r10
                case b_4_8y10 => (intro w hSw; (try dsimp only at hSw); go_simp; try (with_reducible rfl))
                case b_4_8r10 =>
                try simp only [Act.put, List.setIfInBounds_toArray, List.set_cons_zero, List.set_cons_succ]
                refine wpAnyH_take (i := 11) (oi := { dst := some 102, op := Go.Op.slice 58 (Go.Operand.tmp 95) none (some (Go.Operand.tmp 101)) none, type := 58, pos := "branch.go:36", after := #[{ on := 4, ground := Go.Ground.data }, { on := 10, ground := Go.Ground.data }], guard := none }) (v := (.slice (some ⟨g6, 0, none⟩) nP c6)) rfl (by kernel_rfl) (by kernel_rfl) (by kernel_rfl) (fun _ _ _ h => h) (Or.inl ⟨by rfl, ?b_4_8y11⟩) (by assumption) ?b_4_8r11
                case b_4_8y11 => (intro w hSw; (try dsimp only at hSw); go_simp; try (with_reducible rfl))
                case b_4_8r11 =>
                try simp only [Act.put, List.setIfInBounds_toArray, List.set_cons_zero, List.set_cons_succ]
                refine wpAnyH_take (i := 12) (oi := { dst := some 103, op := Go.Op.nilCheck (Go.Operand.tmp 91), type := 0, pos := "branch.go:36", after := #[{ on := 0, ground := Go.Ground.data }, { on := 0, ground := Go.Ground.phase }, { on := 1, ground := Go.Ground.phase }, { on := 2, ground := Go.Ground.phase }, { on := 3, ground := Go.Ground.phase }, { on := 4, ground := Go.Ground.phase }, { on := 5, ground := Go.Ground.phase }, { on := 6, ground := Go.Ground.phase }, { on := 7, ground := Go.Ground.phase }, { on := 8, ground := Go.Ground.phase }, { on := 9, ground := Go.Ground.phase }, { on := 10, ground := Go.Ground.phase }, { on := 11, ground := Go.Ground.phase }], guard := none }) (v := ?b_4_8v12) rfl (by kernel_rfl) (by kernel_rfl) (by kernel_rfl) (fun _ _ _ h => h) (Or.inl ⟨by rfl, ?b_4_8y12⟩) (by assumption) ?b_4_8r12
                case b_4_8y12 => (intro w hSw; (try dsimp only at hSw); go_simp; try (with_reducible rfl))
                case b_4_8r12 =>
                try simp only [Act.put, List.setIfInBounds_toArray, List.set_cons_zero, List.set_cons_succ]
                refine wpAnyH_take (i := 13) (oi := { dst := some 104, op := Go.Op.fieldAddr 78 (Go.Operand.tmp 103) 1, type := 0, pos := "branch.go:36", after := #[{ on := 12, ground := Go.Ground.data }, { on := 0, ground := Go.Ground.phase }, { on := 1, ground := Go.Ground.phase }, { on := 2, ground := Go.Ground.phase }, { on := 3, ground := Go.Ground.phase }, { on := 4, ground := Go.Ground.phase }, { on := 5, ground := Go.Ground.phase }, { on := 6, ground := Go.Ground.phase }, { on := 7, ground := Go.Ground.phase }, { on := 8, ground := Go.Ground.phase }, { on := 9, ground := Go.Ground.phase }, { on := 10, ground := Go.Ground.phase }, { on := 11, ground := Go.Ground.phase }], guard := none }) (v := ?b_4_8v13) rfl (by kernel_rfl) (by kernel_rfl) (by kernel_rfl) (fun _ _ _ h => h) (Or.inl ⟨by rfl, ?b_4_8y13⟩) (by assumption) ?b_4_8r13
                case b_4_8y13 => (intro w hSw; (try dsimp only at hSw); go_simp; try (with_reducible rfl))
                case b_4_8r13 =>
                try simp only [Act.put, List.setIfInBounds_toArray, List.set_cons_zero, List.set_cons_succ]
                refine wpAnyH_ready (rs := [14]) (by kernel_rfl) (by simp) ?_
                refine AllReadyH.cons (o := { dst := none, op := Go.Op.store 58 (Go.Operand.tmp 104) (Go.Operand.tmp 102), type := 0, pos := "branch.go:36", after := #[{ on := 13, ground := Go.Ground.data }, { on := 11, ground := Go.Ground.data }, { on := 0, ground := Go.Ground.phase }, { on := 1, ground := Go.Ground.phase }, { on := 2, ground := Go.Ground.phase }, { on := 3, ground := Go.Ground.phase }, { on := 4, ground := Go.Ground.phase }, { on := 5, ground := Go.Ground.phase }, { on := 6, ground := Go.Ground.phase }, { on := 7, ground := Go.Ground.phase }, { on := 8, ground := Go.Ground.phase }, { on := 9, ground := Go.Ground.phase }, { on := 10, ground := Go.Ground.phase }, { on := 11, ground := Go.Ground.phase }], guard := none }) rfl (fun K hK => ?_) (AllReadyH.nil)
                go_simp
                refine hK.out _ _ ?_ (fun hHeld => ?_)
                · exact trivial
                clear hK K
                try simp only [Act.put]
                refine wpAnyH_done (by kernel_rfl) ?_ _
                go_upto_region 13 with fail
                change Code.wp _ _ _ _ ((w6.setCell ⟨G, 7, none⟩ (.slice (some ⟨g6, 0, none⟩) nP c6)).drew)
                rw [← HTR.out, ← HW7.out]
                go_wp2_with (first | (go_at_call 41; refine Q2.out.mono ?_; rintro e w8 ⟨pk8, rfl, V8, O8, t8, o8⟩))
                go_ret
                subst hR3
                have e9 := HNP.out
                subst e9
                have hs8 := HT7.out.size
                have hg8 := HG6.out
                have hb8 := HTB.out
                refine ⟨pk8, rfl, V8, O8, HT7.out.trans t8 (fun i hi h => h.elim .inl (fun h => .inr (by rw [hb8] at h; injection h with h; subst h; exact hg8.resolve_right (by omega)))), fun q hq => (o8 q hq).elim (fun h => by rw [hb8] at h; injection h with h; subst h; exact hg8) (fun h => .inr (by omega))⟩
              · skip
                go_simp
                refine hK.out _ _ ?_ (fun hHeld => ?_)
                · exact trivial
                clear hK K
                try simp only [Act.put, List.setIfInBounds_toArray, List.set_cons_zero, List.set_cons_succ]
                refine wpAnyH_take (i := 9) (oi := { dst := some 100, op := Go.Op.call { callee := Go.Callee.builtin Go.Builtin.len, args := #[Go.Operand.tmp 99], argTypes := #[58] }, type := 3, pos := "branch.go:36", after := #[{ on := 8, ground := Go.Ground.data }], guard := none }) (v := ?b_8v9) rfl (by kernel_rfl) (by kernel_rfl) (by kernel_rfl) (fun _ _ _ h => h) (Or.inl ⟨by rfl, ?b_8y9⟩) (by assumption) ?b_8r9
                case b_8y9 => (intro w hSw; (try dsimp only at hSw); go_simp; try (with_reducible rfl))
                case b_8r9 =>
                try simp only [Act.put, List.setIfInBounds_toArray, List.set_cons_zero, List.set_cons_succ]
                refine wpAnyH_take (i := 10) (oi := { dst := some 101, op := Go.Op.binOp Go.BinOp.sub 3 (Go.Operand.tmp 100) (Go.Operand.const (Go.Value.int Go.IntKind.i64 1)) 3, type := 3, pos := "branch.go:36", after := #[{ on := 9, ground := Go.Ground.data }], guard := none }) (v := (.int .i64 (nP : Int))) rfl (by kernel_rfl) (by kernel_rfl) (by kernel_rfl) (fun _ _ _ h => h) (Or.inl ⟨by rfl, ?b_8y10⟩) (by assumption) ?b_8r10
                case b_8y10 => (intro w hSw; (try dsimp only at hSw); go_simp; try (with_reducible rfl))
                case b_8r10 =>
                try simp only [Act.put, List.setIfInBounds_toArray, List.set_cons_zero, List.set_cons_succ]
                refine wpAnyH_ready (rs := [4]) (by kernel_rfl) (by simp) ?_
                refine AllReadyH.cons (o := { dst := some 95, op := Go.Op.load 58 (Go.Operand.tmp 94), type := 58, pos := "branch.go:36", after := #[{ on := 3, ground := Go.Ground.data }], guard := none }) rfl (fun K hK => ?_) (AllReadyH.nil)
                go_simp
                refine hK.out _ _ ?_ (fun hHeld => ?_)
                · exact trivial
                clear hK K
                try simp only [Act.put, List.setIfInBounds_toArray, List.set_cons_zero, List.set_cons_succ]
                refine wpAnyH_take (i := 11) (oi := { dst := some 102, op := Go.Op.slice 58 (Go.Operand.tmp 95) none (some (Go.Operand.tmp 101)) none, type := 58, pos := "branch.go:36", after := #[{ on := 4, ground := Go.Ground.data }, { on := 10, ground := Go.Ground.data }], guard := none }) (v := (.slice (some ⟨g6, 0, none⟩) nP c6)) rfl (by kernel_rfl) (by kernel_rfl) (by kernel_rfl) (fun _ _ _ h => h) (Or.inl ⟨by rfl, ?b_8_4y11⟩) (by assumption) ?b_8_4r11
                case b_8_4y11 => (intro w hSw; (try dsimp only at hSw); go_simp; try (with_reducible rfl))
                case b_8_4r11 =>
                try simp only [Act.put, List.setIfInBounds_toArray, List.set_cons_zero, List.set_cons_succ]
                refine wpAnyH_take (i := 12) (oi := { dst := some 103, op := Go.Op.nilCheck (Go.Operand.tmp 91), type := 0, pos := "branch.go:36", after := #[{ on := 0, ground := Go.Ground.data }, { on := 0, ground := Go.Ground.phase }, { on := 1, ground := Go.Ground.phase }, { on := 2, ground := Go.Ground.phase }, { on := 3, ground := Go.Ground.phase }, { on := 4, ground := Go.Ground.phase }, { on := 5, ground := Go.Ground.phase }, { on := 6, ground := Go.Ground.phase }, { on := 7, ground := Go.Ground.phase }, { on := 8, ground := Go.Ground.phase }, { on := 9, ground := Go.Ground.phase }, { on := 10, ground := Go.Ground.phase }, { on := 11, ground := Go.Ground.phase }], guard := none }) (v := ?b_8_4v12) rfl (by kernel_rfl) (by kernel_rfl) (by kernel_rfl) (fun _ _ _ h => h) (Or.inl ⟨by rfl, ?b_8_4y12⟩) (by assumption) ?b_8_4r12
                case b_8_4y12 => (intro w hSw; (try dsimp only at hSw); go_simp; try (with_reducible rfl))
                case b_8_4r12 =>
                try simp only [Act.put, List.setIfInBounds_toArray, List.set_cons_zero, List.set_cons_succ]
                refine wpAnyH_take (i := 13) (oi := { dst := some 104, op := Go.Op.fieldAddr 78 (Go.Operand.tmp 103) 1, type := 0, pos := "branch.go:36", after := #[{ on := 12, ground := Go.Ground.data }, { on := 0, ground := Go.Ground.phase }, { on := 1, ground := Go.Ground.phase }, { on := 2, ground := Go.Ground.phase }, { on := 3, ground := Go.Ground.phase }, { on := 4, ground := Go.Ground.phase }, { on := 5, ground := Go.Ground.phase }, { on := 6, ground := Go.Ground.phase }, { on := 7, ground := Go.Ground.phase }, { on := 8, ground := Go.Ground.phase }, { on := 9, ground := Go.Ground.phase }, { on := 10, ground := Go.Ground.phase }, { on := 11, ground := Go.Ground.phase }], guard := none }) (v := ?b_8_4v13) rfl (by kernel_rfl) (by kernel_rfl) (by kernel_rfl) (fun _ _ _ h => h) (Or.inl ⟨by rfl, ?b_8_4y13⟩) (by assumption) ?b_8_4r13
                case b_8_4y13 => (intro w hSw; (try dsimp only at hSw); go_simp; try (with_reducible rfl))
                case b_8_4r13 =>
                try simp only [Act.put, List.setIfInBounds_toArray, List.set_cons_zero, List.set_cons_succ]
                refine wpAnyH_ready (rs := [14]) (by kernel_rfl) (by simp) ?_
                refine AllReadyH.cons (o := { dst := none, op := Go.Op.store 58 (Go.Operand.tmp 104) (Go.Operand.tmp 102), type := 0, pos := "branch.go:36", after := #[{ on := 13, ground := Go.Ground.data }, { on := 11, ground := Go.Ground.data }, { on := 0, ground := Go.Ground.phase }, { on := 1, ground := Go.Ground.phase }, { on := 2, ground := Go.Ground.phase }, { on := 3, ground := Go.Ground.phase }, { on := 4, ground := Go.Ground.phase }, { on := 5, ground := Go.Ground.phase }, { on := 6, ground := Go.Ground.phase }, { on := 7, ground := Go.Ground.phase }, { on := 8, ground := Go.Ground.phase }, { on := 9, ground := Go.Ground.phase }, { on := 10, ground := Go.Ground.phase }, { on := 11, ground := Go.Ground.phase }], guard := none }) rfl (fun K hK => ?_) (AllReadyH.nil)
                go_simp
                refine hK.out _ _ ?_ (fun hHeld => ?_)
                · exact trivial
                clear hK K
                try simp only [Act.put]
                refine wpAnyH_done (by kernel_rfl) ?_ _
                go_upto_region 13 with fail
                change Code.wp _ _ _ _ ((w6.setCell ⟨G, 7, none⟩ (.slice (some ⟨g6, 0, none⟩) nP c6)).drew)
                rw [← HTR.out, ← HW7.out]
                go_wp2_with (first | (go_at_call 41; refine Q2.out.mono ?_; rintro e w8 ⟨pk8, rfl, V8, O8, t8, o8⟩))
                go_ret
                subst hR3
                have e9 := HNP.out
                subst e9
                have hs8 := HT7.out.size
                have hg8 := HG6.out
                have hb8 := HTB.out
                refine ⟨pk8, rfl, V8, O8, HT7.out.trans t8 (fun i hi h => h.elim .inl (fun h => .inr (by rw [hb8] at h; injection h with h; subst h; exact hg8.resolve_right (by omega)))), fun q hq => (o8 q hq).elim (fun h => by rw [hb8] at h; injection h with h; subst h; exact hg8) (fun h => .inr (by omega))⟩
end Go.Proofs.Ytammeedmccblcaa.Cs
