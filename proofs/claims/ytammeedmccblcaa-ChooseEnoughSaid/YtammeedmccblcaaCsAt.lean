/-
  An attempt by chance. Conditions: at most four hundred coins.
-/
import Derived.Test.YtammeedmccblcaaCsPk
import Derived.Test.YtammeedmccblcaaCsNd
namespace Go.Proofs.Ytammeedmccblcaa.Cs
open Go.RowKit

theorem RowR.turnsD {w w' : World} {B D n : Nat} {v : Value} {cs : List Value} (h : RowR w B v n cs) (hBD : B ≤ D) (hB : B ≤ w.heap.size) (t : Turns (fun q => q = D) w w') : RowR w' B v n cs := by
  obtain ⟨A, c, hv, h1, h2, h3⟩ := h
  refine ⟨A, c, hv, h1, h2, fun hn => ?_⟩
  obtain ⟨b, o, e, hlt, hr⟩ := h3 hn
  exact ⟨b, o, e, hlt, fun j v hv => (t.cell (p := ⟨b, _, none⟩) (show b < _ by omega) (fun e2 => by have : b = D := e2; omega)).trans (hr j v hv)⟩
theorem pass_next {need x : Int} {l : List Cn} {j : Nat} {c : Cn} (hc : l[j]? = some c) : passF rollF need x (l.take (j + 1)) = passA rollF need (passF rollF need x (l.take j)) c := by
  unfold passF
  rw [List.take_add_one, hc, Option.toList_some, List.foldl_append]
  rfl
theorem build_att (need : Int) (W : World) : (Instr.build 102 #[(0, .int .i64 need), (5, .int .i64 9223372036854775807)]).run Try.prog W = .ok (.agg #[.int .i64 need, .slice none 0 0, .int .i64 0, .int .i64 0, .int .i64 0, .int .i64 0, .int .i64 9223372036854775807]) W := by kernel_rfl
/-- What an attempt keeps. -/
structure Atm (w : World) (D G : Nat) (need : Int) (pk uo : Value) (T : Pass) (wr : World) : Prop where
  v : VRow wr G 102 (atS need pk T.S)
  p : wr.ownsRow (G + 1) 75 2 pk T.S.P.length (T.S.P.flatMap cnC)
  o : wr.ownsRow (G + 1) 75 2 uo T.O.length (T.O.flatMap cnC)
  d : VRow wr D 119 [.int .u64 T.x]
  a : ∀ q, pk.ownBlock = some q → uo.ownBlock ≠ some q
  t : Turns (fun q => q = D) w wr
theorem Atm.alloc {w wr : World} {D G : Nat} {need : Int} {pk uo : Value} {T : Pass} (h : Atm w D G need pk uo T wr) (O : Obj) : Atm w D G need pk uo T (wr.alloc O) := by
  have hb : Below wr.heap.size wr (wr.alloc O) := (Below.refl _ _).alloc (Nat.le_refl _) _
  exact ⟨h.v.below hb h.v.lt, h.p.alloc O, h.o.alloc O, h.d.below hb h.d.lt, h.a, h.t.alloc O⟩
/-- The dice are thrown. -/
theorem Atm.dice {w wr w' : World} {D G : Nat} {need : Int} {pk uo : Value} {T : Pass} (h : Atm w D G need pk uo T wr) (hG : D < G) {x : Int} (hd : VRow w' D 119 [.int .u64 x]) (t : Turns (fun q => q = D) wr w') : Atm w D G need pk uo ⟨T.S, T.O, x⟩ w' :=
  ⟨h.v.turns t (by omega), own_turns h.p t (fun q hq e => by have := (h.p.lt q hq).1; omega), own_turns h.o t (fun q hq e => by have := (h.o.lt q hq).1; omega), hd, h.a, h.t.trans t (fun _ _ q => q)⟩
/-- A coin more is picked. -/
theorem Atm.pick {w wr w' : World} {D G : Nat} {need : Int} {pk pk' uo : Value} {T : Pass} (h : Atm w D G need pk uo T wr) (hG : D < G) (hw : w.heap.size ≤ G) {S : Att} (hv : VRow w' G 102 (atS need pk' S)) (ho : w'.ownsRow (G + 1) 75 2 pk' S.P.length (S.P.flatMap cnC))
    (t : Turns (fun q => q = G ∨ pk.ownBlock = some q) wr w') (hq : ∀ q, pk'.ownBlock = some q → pk.ownBlock = some q ∨ wr.heap.size ≤ q) : Atm w D G need pk' uo ⟨S, T.O, T.x⟩ w' := by
  have hpl := h.p.lt
  have hol := h.o.lt
  refine ⟨hv, ho, own_turns h.o t (fun q hq e => e.elim (fun e => by have := (hol q hq).1; omega) (fun e => h.a q e hq)), h.d.turns t (fun e => e.elim (fun e => by omega) (fun e => by have := (hpl D e).1; omega)), fun q hp ho => (hq q hp).elim (fun e => h.a q e ho) (fun e => by have := (hol q ho).2; omega), h.t.trans t (fun i hi e => e.elim (fun e => by omega) (fun e => by have := (hpl i e).1; omega))⟩
/-- A coin more is left. -/
theorem Atm.leave {w wr w' : World} {D G : Nat} {need : Int} {pk uo uo' : Value} {T : Pass} (h : Atm w D G need pk uo T wr) (hG : D < G) (hw : w.heap.size ≤ G) {O : List Cn} (ho : w'.ownsRow (G + 1) 75 2 uo' O.length (O.flatMap cnC))
    (hg : wr.grownBy w' uo.ownBlock) (hq : uo'.ownBlock = uo.ownBlock ∨ uo'.ownBlock = some wr.heap.size) : Atm w D G need pk uo' ⟨T.S, O, T.x⟩ w' := by
  have hpl := h.p.lt
  have hol := h.o.lt
  have t : Turns (fun q => uo.ownBlock = some q) wr w' := (Turns.refl _ _).grown hg (fun k hk _ => hk)
  refine ⟨h.v.turns t (fun e => by have := (hol G e).1; omega), own_turns h.p t (fun q hp e => h.a q hp e), ho, h.d.turns t (fun e => by have := (hol D e).1; omega), fun q hp e => ?_, h.t.trans t (fun i hi e => by have := (hol i e).1; omega)⟩
  rcases hq with hq | hq
  · rw [hq] at e
    exact h.a q hp e
  · rw [hq] at e
    injection e with e
    have := (hpl q hp).2
    omega
set_option maxRecDepth 100000 in
set_option maxHeartbeats 12800000 in
theorem attempt_any (B D : Nat) (need extra rate tries seed tot x : Int) (l : List Cn) (u v : Value) (w : World) (hs : CnR w B v l) (hBD : B ≤ D) (hd : VRow w D 119 [.int .u64 x]) (hp : Pos l) (hl : l.length ≤ 400) :
    Calls Try.prog 57 #[.agg (hnC (tkC need extra rate tries seed) u tot).toArray, v, .pointer (some ⟨D, 0, none⟩)] w fun e w' => ∃ G pk, e = .returned (.pointer (some ⟨G, 0, none⟩)) ∧ w.heap.size ≤ G ∧ VRow w' G 102 (atS need pk (lastF need (passF rollF need x l))) ∧ w'.ownsRow (G + 1) 75 2 pk (lastF need (passF rollF need x l)).P.length ((lastF need (passF rollF need x l)).P.flatMap cnC) ∧ VRow w' D 119 [.int .u64 (passF rollF need x l).x] ∧ Turns (fun q => q = D) w w' := by
  obtain ⟨TT, hTT⟩ : ∃ z, z = passF rollF need x l := ⟨_, rfl⟩
  rw [← hTT]
  obtain ⟨LL, hLL⟩ : ∃ z, z = lastF need TT := ⟨_, rfl⟩
  rw [← hLL]
  have HLL := Lib.hid hLL
  clear hLL
  obtain ⟨A, c, rfl, hlc, hcm⟩ := hs.form
  obtain ⟨n, hn⟩ : ∃ z, z = l.length := ⟨_, rfl⟩
  rw [← hn] at hs hl ⊢
  have hbu := build_att need
  obtain ⟨w1, hw1⟩ : ∃ z, z = w.alloc (.cells #[.int .i64 need, .int .i64 extra, .int .i64 rate, .int .i64 tries, .int .u64 seed, u, .int .i64 tot] 60) := ⟨_, rfl⟩
  obtain ⟨w2, hw2⟩ : ∃ z, z = w1.alloc (.cells #[.int .i64 need, .slice none 0 0, .int .i64 0, .int .i64 0, .int .i64 0, .int .i64 0, .int .i64 9223372036854775807] 102) := ⟨_, rfl⟩
  have hs1 : w1.heap.size = w.heap.size + 1 := by rw [hw1]; simp
  have hb1 : Below w.heap.size w w1 := by rw [hw1]; exact (Below.refl _ _).alloc (Nat.le_refl _) _
  have hv1 : VRow w1 w.heap.size 60 (hnC (tkC need extra rate tries seed) u tot) := by rw [hw1]; exact VRow.new _ _ (hnC (tkC need extra rate tries seed) u tot)
  have hb2 : Below w1.heap.size w1 w2 := by rw [hw2]; exact (Below.refl _ _).alloc (Nat.le_refl _) _
  have hv2 : VRow w2 (w.heap.size + 1) 102 (atS need (.slice none 0 0) att0) := by rw [hw2, ← hs1]; exact VRow.new _ _ (atS need (.slice none 0 0) att0)
  have hbb : Below w.heap.size w w2 := hb1.trans (hb2.mono (by omega))
  have hdw := hd.lt
  obtain ⟨G, hG⟩ : ∃ z, z = w.heap.size + 1 := ⟨_, rfl⟩
  rw [← hG] at hv2
  have hA0 : Atm w D G need (.slice none 0 0) (.slice none 0 0) (passF rollF need x (l.take 0)) w2 :=
    ⟨hv2, World.ownsRow_nil _ _ _ _, World.ownsRow_nil _ _ _ _, hd.below hbb hdw, (fun q hq => by cases hq), Turns.of_below hbb⟩
  have x0 : w1.cell? ⟨w.heap.size, 0, none⟩ = some (.int .i64 need) := hv1.cell rfl
  have HA0 := Lib.hid hA0
  have HS := Lib.hid hs
  have HN := Lib.hid hn
  have HTT := Lib.hid hTT
  have HP := Lib.hid hp
  have HW1 := Lib.hid hw1
  have HW2 := Lib.hid hw2
  have HG := Lib.hid hG
  have HDW := Lib.hid hdw
  clear hA0 hs hn hTT hp hw1 hw2 hb1 hb2 hbb hv1 hv2 hd
  unfold tkC hnC
  go_enter Try.func57, Try.ntmps57
  go_upto_region 1 with fail
  change Code.wp _ _ _ _ (w.alloc (.cells #[.int .i64 need, .int .i64 extra, .int .i64 rate, .int .i64 tries, .int .u64 seed, u, .int .i64 tot] 60))
  rw [← HW1.out]
  go_upto_region 2 with fail
  change Code.wp _ _ _ _ (w1.alloc (.cells #[.int .i64 need, .slice none 0 0, .int .i64 0, .int .i64 0, .int .i64 0, .int .i64 0, .int .i64 9223372036854775807] 102))
  rw [← HW2.out]
  (try rw [hs1])
  rw [← HG.out]
  have HGE := Lib.hid (show w.heap.size ≤ G by rw [hG]; omega)
  have hDG : D < G := by rw [hG]; omega
  have HDG := Lib.hid hDG
  clear x0 hs1 hG hDG HW1 HW2 HG hdw hbu
  go_wp2_with fail
  go_loopw [8, 20] (fun so si wr => ∃ (j : Nat) (uo pk : Value), uo = so ∧ j ≤ n ∧ si = .int .i64 (j : Int) ∧ Hid (Atm w D G need pk uo (passF rollF need x (l.take j)) wr)) (fun _ si _ => n - (intOf si).toNat)
  case atStart => exact ⟨0, _, _, rfl, Nat.zero_le _, rfl, HA0⟩
  case round =>
    obtain ⟨j, uo, pk, huo, hj, rfl, hat⟩ := hrel
    subst huo
    obtain ⟨w3, rfl⟩ : ∃ z : World, z = wr := ⟨_, rfl⟩
    by_cases hlt : j < n
    · have dj : decide ((j : Int) < (n : Int)) = true := decide_eq_true (by omega)
      obtain ⟨y, hy⟩ : ∃ y, l[j]? = some y := ⟨_, List.getElem?_eq_getElem (by rw [← HN.out]; exact hlt)⟩
      have hSw : CnR w3 B (.slice A n c) l := by have := HS.out; exact RowR.turnsD this hBD (by have := HDW.out; omega) hat.out.t
      obtain ⟨b', o', c', ef, _, _, hbl, hc0, hc1⟩ := hSw.at hy
      injection ef with ef1 ef2 ef3
      subst ef1
      clear ef2 ef3
      have hnx := pass_next (need := need) (x := x) hy
      have hok := pass_ok rollF need x (l := l.take j) (fun c hc => HP.out c (List.mem_of_mem_take hc))
      have hy0 := HP.out y (List.mem_of_getElem? hy)
      obtain ⟨T, hT⟩ : ∃ z, z = passF rollF need x (l.take j) := ⟨_, rfl⟩
      rw [← hT] at hat hnx hok
      have hk1 : (l.take j).length ≤ 1000 := by rw [List.length_take]; omega
      obtain ⟨w4, hw4⟩ : ∃ z, z = w3.alloc (.cells #[.int .i64 y.1, .int .i64 (y.2 : Int)] 75) := ⟨_, rfl⟩
      have A4 := Lib.hid (show Atm w D G need pk uo T w4 by rw [hw4]; exact hat.out.alloc _)
      have C4 := Lib.hid (show VRow w4 w3.heap.size 75 (cnC y) by rw [hw4]; exact VRow.new _ _ (cnC y))
      have HW4 := Lib.hid hw4
      have HC3 := Lib.hid (show w.heap.size ≤ w3.heap.size ∧ D < w3.heap.size from ⟨hat.out.t.size, hat.out.d.lt⟩)
      have HNX := Lib.hid hnx
      have HOK := Lib.hid hok
      clear hat hSw hT hw4 hy hnx hok hbl
      go_upto_region 6 with fail
      change Code.wp _ _ _ _ (w3.alloc (.cells #[.int .i64 y.1, .int .i64 (y.2 : Int)] 75))
      rw [← HW4.out]
      obtain ⟨C, hC⟩ : ∃ z, z = w3.heap.size := ⟨_, rfl⟩
      rw [← hC] at C4 HC3
      rw [← hC]
      clear HW4 hC hc0 hc1
      by_cases hr : 9223372036854775808 ≤ rollF T.x
      · as_aux_lemma =>
        have dr : decide (9223372036854775808 ≤ rollF T.x) = true := decide_eq_true hr
        have TH := Lib.hid (throw_any D T.x w4 A4.out.d)
        rw [dr] at TH
        have HRL := Lib.hid hr
        clear hr dr
        go_upto_region 7 with (first | (go_at_call 73; refine TH.out.mono ?_; rintro e w5 ⟨rfl, hd5, t5⟩))
        have A5 := Lib.hid (A4.out.dice HDG.out hd5 t5)
        have C5 := C4.out.turns t5 (by have := HC3.out.2; omega)
        have PK := Lib.hid (apick_any G need (l.take j).length T.S y pk w5 hk1 HOK.out.s hy0 A5.out.v A5.out.p)
        clear t5 hd5 TH
        go_wp2_with (first
          | (refine wpList_load_vrow rfl 75 (.tmp 10) rfl rfl C5 Try.underlying75 (by kernel_rfl) ?_)
          | (go_at_call 74; refine PK.out.mono ?_; rintro e w6 ⟨pk6, rfl, V6, O6, t6, q6⟩))
        refine ⟨⟨j + 1, uo, pk6, rfl, hlt, by first | rfl | exact next (by omega), Lib.hid ?_⟩, by first | exact meas hlt (by omega) | (show n - ((j : Int) + 1).toNat < n - (j : Int).toNat; omega)⟩
        rw [HNX.out]
        unfold passA
        rw [if_pos HRL.out]
        exact A5.out.pick HDG.out HGE.out V6 O6 t6 q6
      · as_aux_lemma =>
        have dr : decide (9223372036854775808 ≤ rollF T.x) = false := decide_eq_false hr
        have TH := Lib.hid (throw_any D T.x w4 A4.out.d)
        rw [dr] at TH
        have HRL := Lib.hid hr
        clear hr dr
        go_upto_region 8 with (first | (go_at_call 73; refine TH.out.mono ?_; rintro e w5 ⟨rfl, hd5, t5⟩))
        have A5 := A4.out.dice HDG.out hd5 t5
        have C5 : VRow w5 C 75 [.int .i64 y.1, .int .i64 (y.2 : Int)] := C4.out.turns t5 (by have := HC3.out.2; omega)
        have A6 := Lib.hid (A5.alloc (.cells #[.int .i64 y.1, .int .i64 (y.2 : Int)] 75))
        have R7 := Lib.hid (show (w5.alloc (.cells #[.int .i64 y.1, .int .i64 (y.2 : Int)] 75)).rangeAt w5.heap.size 0 [.int .i64 y.1, .int .i64 (y.2 : Int)] from (VRow.new w5 75 [.int .i64 y.1, .int .i64 (y.2 : Int)]).range (fun q v hv => by rw [Nat.zero_add]; exact hv))
        have K7 := Lib.hid (show ∀ v ∈ [Value.int .i64 y.1, .int .i64 (y.2 : Int)], v.oneCell' = true from fun v hv => by simp only [List.mem_cons, List.not_mem_nil, or_false] at hv; rcases hv with rfl | rfl <;> rfl)
        have hOl : T.O.length ≤ 400 := by have h1 := HOK.out.n; rw [List.length_take] at h1; omega
        have M7 := Lib.hid (show (T.O.length + 1) * 16 ≤ 140737488355328 by omega)
        have N7 := Lib.hid (show T.O.length + 1 ≤ maxLen by unfold maxLen; omega)
        have G7 := Lib.hid (show G + 1 ≤ (w5.alloc (.cells #[.int .i64 y.1, .int .i64 (y.2 : Int)] 75)).heap.size from A6.out.v.lt)
        have HFM := Lib.hid (show (T.O ++ [y]).flatMap cnC = T.O.flatMap cnC ++ [.int .i64 y.1, .int .i64 (y.2 : Int)] by rw [List.flatMap_append]; rfl)
        have HLN := Lib.hid (show (T.O ++ [y]).length = T.O.length + 1 by rw [List.length_append]; rfl)
        clear t5 hd5 TH A5
        obtain ⟨Au, cu, hform⟩ := own_form A6.out.o
        subst hform
        go_wp2_with (first
          | (refine wpList_load_vrow rfl 75 (.tmp 10) rfl rfl C5 Try.underlying75 (by kernel_rfl) ?_)
          | (at_builtin; refine wpList_append_row slt_coin rfl (.tmp 29) (.tmp 31) rfl (G + 1) _ _ _ rfl A6.out.o _ 1 [.int .i64 y.1, .int .i64 (y.2 : Int)] rfl rfl R7.out K7.out M7.out N7.out G7.out ?_; intro v1 w8 hown1 hg1 ho1))
        refine ⟨⟨j + 1, v1, pk, rfl, hlt, by first | rfl | exact next (by omega), Lib.hid ?_⟩, by first | exact meas hlt (by omega) | (show n - ((j : Int) + 1).toNat < n - (j : Int).toNat; omega)⟩
        rw [HNX.out]
        unfold passA
        rw [if_neg (by have := HRL.out; omega)]
        exact A6.out.leave HDG.out HGE.out (by rw [HFM.out, HLN.out]; exact hown1) hg1 ho1
    · as_aux_lemma =>
      have dj : decide ((j : Int) < (n : Int)) = false := decide_eq_false (by omega)
      have hA3 : Atm w D G need pk uo TT w3 := by
        have q := hat.out
        rw [List.take_of_length_le (by rw [← HN.out]; omega), ← HTT.out] at q
        exact q
      have hok := pass_ok rollF need x HP.out
      rw [← HTT.out, ← HN.out] at hok
      have HOK := Lib.hid hok
      obtain ⟨Au, cu, hform⟩ := own_form hA3.o
      subst hform
      have hOl : TT.O.length ≤ 400 := by have h1 := HOK.out.n; omega
      have HA3 := Lib.hid hA3
      have x6 : w3.cell? ⟨G, 6, none⟩ = some (.int .i64 TT.S.m) := hA3.v.cell rfl
      clear hat hA3 hok
      by_cases hm : TT.S.m = endless
      · as_aux_lemma =>
        have dm : decide (TT.S.m = 9223372036854775807) = true := decide_eq_true hm
        have dm2 : (TT.S.m == 9223372036854775807) = true := beq_iff_eq.2 hm
        have hlf : LL = TT.O.foldl (pickA need) TT.S := HLL.out.trans (if_pos hm)
        clear HLL hm
        subst hlf
        obtain ⟨nO, hnO⟩ : ∃ z, z = TT.O.length := ⟨_, rfl⟩
        rw [← hnO] at hOl HA3 ⊢
        have HNO := Lib.hid hnO
        clear hnO
        go_wp2_with fail
        go_loopw [41] (fun si wr => ∃ (i : Nat) (pk2 : Value), i ≤ nO ∧ si = .int .i64 (i : Int) ∧ Hid (Atm w D G need pk2 (.slice Au nO cu) ⟨(TT.O.take i).foldl (pickA need) TT.S, TT.O, TT.x⟩ wr)) (fun si _ => nO - (intOf si).toNat)
        case atStart => exact ⟨0, pk, Nat.zero_le _, rfl, HA3⟩
        case round =>
          obtain ⟨i, pk2, hi, rfl, hat⟩ := hrel
          obtain ⟨w3, rfl⟩ : ∃ z : World, z = wr := ⟨_, rfl⟩
          by_cases hlt : i < nO
          · as_aux_lemma =>
            have dj : decide ((i : Int) < (nO : Int)) = true := decide_eq_true (by omega)
            obtain ⟨y, hy⟩ : ∃ y, TT.O[i]? = some y := ⟨_, List.getElem?_eq_getElem (by rw [← HNO.out]; exact hlt)⟩
            have hSw : CnR w3 w3.heap.size (.slice Au nO cu) TT.O := RowR.of_own hat.out.o
            obtain ⟨b', o', c', ef, _, _, hbl, hc0, hc1⟩ := hSw.at hy
            injection ef with ef1 ef2 ef3
            subst ef1
            clear ef2 ef3
            have hok := AtOk.fold need (TT.O.take i) HOK.out.s (fun c hc => HOK.out.o c (List.mem_of_mem_take hc))
            have hy0 := HOK.out.o y (List.mem_of_getElem? hy)
            have hnx : (TT.O.take (i + 1)).foldl (pickA need) TT.S = pickA need ((TT.O.take i).foldl (pickA need) TT.S) y := by
              rw [List.take_add_one, hy, Option.toList_some, List.foldl_append]
              rfl
            obtain ⟨S2, hS2⟩ : ∃ z, z = (TT.O.take i).foldl (pickA need) TT.S := ⟨_, rfl⟩
            rw [← hS2] at hat hnx hok
            have hk1 : n + (TT.O.take i).length ≤ 1000 := by rw [List.length_take]; omega
            obtain ⟨w4, hw4⟩ : ∃ z, z = w3.alloc (.cells #[.int .i64 y.1, .int .i64 (y.2 : Int)] 75) := ⟨_, rfl⟩
            have A4 := Lib.hid (show Atm w D G need pk2 (.slice (some ⟨b', o', none⟩) nO cu) ⟨S2, TT.O, TT.x⟩ w4 by rw [hw4]; exact hat.out.alloc _)
            have C4 := Lib.hid (show VRow w4 w3.heap.size 75 (cnC y) by rw [hw4]; exact VRow.new _ _ (cnC y))
            have HW4 := Lib.hid hw4
            have HNX := Lib.hid hnx
            have PK := Lib.hid (apick_any G need (n + (TT.O.take i).length) S2 y pk2 w4 hk1 hok hy0 A4.out.v A4.out.p)
            clear hat hSw hS2 hw4 hy hnx hok hbl
            go_upto_region 14 with fail
            change Code.wp _ _ _ _ (w3.alloc (.cells #[.int .i64 y.1, .int .i64 (y.2 : Int)] 75))
            rw [← HW4.out]
            obtain ⟨C, hC⟩ : ∃ z, z = w3.heap.size := ⟨_, rfl⟩
            rw [← hC] at C4
            rw [← hC]
            have C5 := C4.out
            clear HW4 hC hc0 hc1
            go_wp2_with (first
              | (refine wpList_load_vrow rfl 75 (.tmp 12) rfl rfl C5 Try.underlying75 (by kernel_rfl) ?_)
              | (go_at_call 74; refine PK.out.mono ?_; rintro e w6 ⟨pk6, rfl, V6, O6, t6, q6⟩))
            refine ⟨⟨i + 1, pk6, hlt, by first | rfl | exact next (by omega), Lib.hid ?_⟩, by first | exact meas hlt (by omega) | (show nO - ((i : Int) + 1).toNat < nO - (i : Int).toNat; omega)⟩
            rw [HNX.out]
            exact A4.out.pick HDG.out HGE.out V6 O6 t6 q6
          · as_aux_lemma =>
            have dj : decide ((i : Int) < (nO : Int)) = false := decide_eq_false (by omega)
            have hq := hat.out
            rw [List.take_of_length_le (by rw [← HNO.out]; omega)] at hq
            have HQ := Lib.hid hq
            clear hat hq
            go_wp2_with fail
            go_ret
            exact ⟨G, pk2, rfl, HGE.out, HQ.out.v, HQ.out.p, HQ.out.d, HQ.out.t⟩
      · as_aux_lemma =>
        have dm : decide (TT.S.m = 9223372036854775807) = false := decide_eq_false hm
        have dm2 : (TT.S.m == 9223372036854775807) = false := beq_eq_false_iff_ne.2 hm
        have hlf : LL = TT.S := HLL.out.trans (if_neg hm)
        clear HLL hm
        subst hlf
        go_wp2_with fail
        go_ret
        exact ⟨G, pk, rfl, HGE.out, HA3.out.v, HA3.out.p, HA3.out.d, HA3.out.t⟩
end Go.Proofs.Ytammeedmccblcaa.Cs
