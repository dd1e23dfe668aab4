/-
  The law on parsing. Conditions: none.
-/
import Derived.Test.YtadgaeokiolmmaaSnRpushes
import Derived.BigQuiet
import Derived.Deep.QuietTactic
namespace Go.Proofs.Ytadgaeokiolmmaa
open Go.RowKit

theorem byt_drewN {w : World} {B : Nat} {v : Value} {xs : List UInt8} (h : Byt w B v xs) (n : Nat) : Byt (w.drewN n) B v xs := h.keep fun _ _ _ => rfl

/-- The blocks of the first i operations' bytes. -/
def Of (L : List Piece) (i : Nat) (k : Nat) : Prop := ∃ q ∈ L.take i, q.at_.ownBlock = some k
theorem Of.next {L : List Piece} {i k : Nat} (h : Of L i k) : Of L (i + 1) k := by
  obtain ⟨q, hq, hk⟩ := h
  exact ⟨q, (List.take_subset_take_left L (Nat.le_succ i)) hq, hk⟩
theorem Of.mem {L : List Piece} {i k : Nat} (h : Of L i k) : ∃ q ∈ L, q.at_.ownBlock = some k := by
  obtain ⟨q, hq, hk⟩ := h
  exact ⟨q, List.mem_of_mem_take hq, hk⟩
theorem of_self {L : List Piece} {i k : Nat} (h : i < L.length) (hk : L[i].at_.ownBlock = some k) : Of L (i + 1) k := ⟨L[i], by rw [List.take_succ_eq_append_getElem h]; exact List.mem_append.2 (.inr (List.mem_singleton.2 rfl)), hk⟩
/-- The i-th one's block is none of the first i ones'. -/
theorem of_apart {w : World} {base : Nat} {v : Value} {L : List Piece} (h : OpsAt w base v L) {i k : Nat} (hi : i < L.length) (hk : L[i].at_.ownBlock = some k) : ¬ Of L i k := by
  rintro ⟨q, hq, hqk⟩
  obtain ⟨j, hj, e⟩ := List.getElem_of_mem hq
  rw [List.length_take] at hj
  rw [List.getElem_take] at e
  have := List.pairwise_iff_getElem.1 h.2.2 j i (by omega) hi (by omega)
  exact this k (by rw [e]; exact hqk) hk
theorem of_row {w : World} {base : Nat} {v : Value} {L : List Piece} (h : OpsAt w base v L) {i k : Nat} (hv : v.ownBlock = some k) : ¬ Of L i k := by
  intro ho
  obtain ⟨q, hq, hk⟩ := ho.mem
  exact own_types h.1 (h.2.1 q hq) (by decide) hv hk
theorem of_low {w : World} {base : Nat} {v : Value} {L : List Piece} (h : OpsAt w base v L) {i k : Nat} (ho : Of L i k) : base ≤ k ∧ k < w.heap.size := by
  obtain ⟨q, hq, hk⟩ := ho.mem
  exact World.ownsRow.lt (h.2.1 q hq) k hk

theorem pair_at {L R : List Piece} (h : L.map Piece.pair = R.map Piece.pair) {i : Nat} (h1 : i < L.length) (h2 : i < R.length) : L[i].code = R[i].code ∧ L[i].data = R[i].data := by
  have : (L.map Piece.pair)[i]'(by simp; exact h1) = (R.map Piece.pair)[i]'(by simp; exact h2) := by simp only [h]
  rw [List.getElem_map, List.getElem_map] at this
  unfold Piece.pair at this
  exact ⟨(Prod.mk.inj this).1, (Prod.mk.inj this).2⟩

set_option maxRecDepth 100000 in
set_option maxHeartbeats 12800000 in
theorem parses_law (B : Nat) (x : Value) (bs : List UInt8) (w : World) (hx : Byt w B x bs) (hB : B ≤ w.heap.size) :
    Calls Try.prog 3 #[x] w fun e w' => e = .returned (.bool true) ∧ Below w.heap.size w w' := by
  obtain ⟨cs, hcs⟩ : ∃ cs, cs = bs.take 2000 := ⟨_, rfl⟩
  have hcl : cs.length ≤ 2000 := by rw [hcs]; exact List.length_take_le _ _
  have HX := Lib.hid hx
  obtain ⟨A, c, rfl⟩ := hx.form
  have HCS := Lib.hid hcs
  clear hx hcs
  go_enter Try.func3, Try.ntmps3
  go_wp2_with fail
  refine (awake_any w).mono ?_
  rintro e w1 ⟨rfl, hb1⟩
  have HB1 := Lib.hid hb1
  clear hb1
  go_wp2_with fail
  refine (shorts_any B _ bs 2000 (by omega) w1 (HX.out.below (HB1.out.mono hB))).mono ?_
  rintro e w2 ⟨⟨y1, rfl, hy1⟩, rfl⟩
  rw [← HCS.out] at hy1
  obtain ⟨A3, c3, rfl⟩ := hy1.form
  have HD := Lib.hid hy1
  clear hy1 HX HCS
  go_wp2_with fail
  refine (spare_any B _ cs w1 HD.out (Nat.le_trans hB HB1.out.size) (by omega)).mono ?_
  rintro e w2 ⟨rfl, hrow, hb2⟩
  obtain ⟨hin, hall⟩ := row_tinted hrow (by omega)
  have HIN := Lib.hid hin
  have HAL := Lib.hid hall
  have HB2 := Lib.hid (HB1.out.trans (hb2.mono HB1.out.size))
  have HD2 := Lib.hid (HD.out.below (hb2.mono (Nat.le_trans hB HB1.out.size)))
  clear hin hall hrow hb2 HD
  go_wp2_with fail
  refine (parse_any _ _ cs w2 HIN.out (by omega)).mono ?_
  intro e w3 hpr
  obtain ⟨Av, cv, L, k, rfl, hops, hb3, hk⟩ := parsed_both hpr
  have HO3 := Lib.hid hops
  have HB3 := Lib.hid (HB2.out.trans (hb3.mono HB2.out.size))
  have HB23 := Lib.hid hb3
  have HD3 := Lib.hid (HD2.out.below (hb3.mono (Nat.le_trans hB HB2.out.size)))
  have HK := Lib.hid hk
  clear hpr hops hb3 hk HD2
  go_wp2_with fail
  refine (rparse_any B _ cs w3 HD3.out (Nat.le_trans hB HB3.out.size) (by omega)).mono ?_
  intro e w4 hpr
  obtain ⟨Ar, cr, R, b, he, hrops, hb4, hkr⟩ := rparsed_both hpr
  have hkb : (k = 4 ∧ b = false ∨ k = 0 ∧ b = true) ∧ L.map Piece.pair = R.map Piece.pair := by
    rcases HK.out with ⟨h1, h2, h3⟩ | ⟨h1, h2⟩
    · rcases hkr with ⟨k1, k2, k3⟩ | ⟨k1, k2⟩
      · exact ⟨.inl ⟨h1, k1⟩, by rw [h3, k3]⟩
      · rw [h2] at k2; cases k2
    · rcases hkr with ⟨k1, k2, k3⟩ | ⟨k1, k2⟩
      · rw [h2] at k2; cases k2
      · rw [h2] at k2
        exact ⟨.inr ⟨h1, k1⟩, Option.some.inj k2⟩
  obtain ⟨hkb, hpair⟩ := hkb
  have hRL : R.length = L.length := by have := congrArg List.length hpair; simpa using this.symm
  rw [hRL] at he hrops
  subst he
  have HPAIR := Lib.hid hpair
  have HRL := Lib.hid hRL
  have HLOW := Lib.hid (fun (i k : Nat) (h : Of L i k) => of_low HO3.out h)
  have HO4 := Lib.hid (HO3.out.below hb4)
  have HR4 := Lib.hid hrops
  have HS34 := Lib.hid hb4.size
  have HB4 := Lib.hid (HB3.out.trans (hb4.mono HB3.out.size))
  have HB24 := Lib.hid (HB23.out.trans (hb4.mono HB23.out.size))
  have HD4 := Lib.hid (HD3.out.below (hb4.mono (Nat.le_trans hB HB3.out.size)))
  have hLl := (OpsR.of_at HO3.out).len
  clear hpr hrops hb4 hkr hpair hRL HK HO3 HD3 HB3 HB23
  have HIN4 := Lib.hid (HIN.out.below HB24.out)
  have HPU := Lib.hid (fun W hh => pushes_any w2.heap.size (.slice (some ⟨w1.heap.size, 0, none⟩) cs.length (cs.length + 9)) cs W hh (by omega))
  have HPR := Lib.hid (fun W hh hs => rpushes_any B (.slice A3 cs.length c3) cs W hh hs (by omega))
  obtain ⟨t, ht⟩ : ∃ t, t = pushesB cs := ⟨_, rfl⟩
  rw [← ht] at HPU HPR
  clear ht
  rcases hkb with ⟨rfl, rfl⟩ | ⟨rfl, rfl⟩
  all_goals
    go_wp2_with fail
    refine (HPU.out _ HIN4.out).mono ?_
    rintro e w5 ⟨rfl, hb5⟩
    have HB5 := Lib.hid hb5
    clear hb5
    go_wp2_with fail
    refine (HPR.out _ (HD4.out.below (HB5.out.mono (Nat.le_trans hB HB4.out.size))) (Nat.le_trans (Nat.le_trans hB HB4.out.size) HB5.out.size)).mono ?_
    rintro e w6 ⟨rfl, hb6⟩
    have HB6 := Lib.hid (HB5.out.trans (hb6.mono HB5.out.size))
    clear hb6 HB5
    have HTL : Hid ((tinted cs).length = cs.length + 9) := Lib.hid (tinted_length cs)
    go_wp2_with fail
    refine (kept_any _ _ _ _ cs w6 (HAL.out.below (HB24.out.trans (HB6.out.mono HB24.out.size))) (HD4.out.below (HB6.out.mono (Nat.le_trans hB HB4.out.size))) (by omega)).mono ?_
    rintro e w7 ⟨rfl, hb7, _⟩
    have HB7 := Lib.hid (HB6.out.trans (hb7.mono HB6.out.size))
    clear hb7 HB6
    have ops7 := HO4.out.below HB7.out
    have rops7 := HR4.out.below HB7.out
    have hro := OpsR.of_at ops7
    have hrr := OpsR.of_rat rops7
    have HOPS := Lib.hid ops7
    have HROPS := Lib.hid rops7
    have HRO := Lib.hid hro
    have HRR := Lib.hid hrr
    have s23 := HB24.out.size
    clear ops7 rops7 hro hrr HO4 HR4 HPU HPR HIN4
    go_wp2_with fail
    go_loopw [64] (fun s wr => ∃ i : Nat, i ≤ L.length ∧ s = .int .i64 (i : Int) ∧ Hid (Turns (Of L i) w7 wr)) (fun s _ => L.length - (intOf s).toNat)
    case atStart => exact ⟨0, Nat.zero_le _, rfl, Lib.hid (Turns.refl _ _)⟩
    case round =>
      obtain ⟨i, hi, rfl, hT⟩ := hrel
      by_cases hlt : i < L.length
      · have hlt2 : i < R.length := by rw [HRL.out]; exact hlt
        obtain ⟨A', c', e0, _, _, h4⟩ := HRO.out
        obtain ⟨e1, e2, e3⟩ := Value.slice.inj e0
        subst e1 e3
        clear e2
        obtain ⟨gb, go_, rfl, hgb, hc⟩ := h4 (by rintro rfl; simp at hlt)
        obtain ⟨A', c', e0', _, _, h5⟩ := HRR.out
        obtain ⟨e1, e2, e3⟩ := Value.slice.inj e0'
        subst e1 e3
        clear e2
        obtain ⟨rb, ro, rfl, hrb, hc2⟩ := h5 (by rintro rfl; simp at hlt2)
        obtain ⟨q0, q1, Ap, cp, hp⟩ := hc i _ (List.getElem?_eq_getElem hlt)
        obtain ⟨r0, r1, Aq, cq, hq⟩ := hc2 i _ (List.getElem?_eq_getElem hlt2)
        obtain ⟨hcode, hdata⟩ := pair_at HPAIR.out hlt hlt2
        have nOf : ∀ j, ¬ Of L j gb := fun j => of_row HOPS.out rfl
        have nOfr : ∀ j k, w3.heap.size ≤ k → ¬ Of L j k := fun j k hk ho => by have := (HLOW.out j k ho).2; omega
        have hrb3 : w3.heap.size ≤ rb := (HROPS.out.1.lt rb rfl).1
        have ownp : OwnB wr w2.heap.size L[i].at_ L[i].data := own_turns (HOPS.out.2.1 _ (List.getElem_mem hlt)) hT.out (fun k hk => of_apart HOPS.out hlt hk)
        have ownq : OwnB wr w3.heap.size R[i].at_ R[i].data := own_turns (HROPS.out.2.1 _ (List.getElem_mem hlt2)) hT.out (fun k hk => nOfr _ k (World.ownsRow.lt (HROPS.out.2.1 _ (List.getElem_mem hlt2)) k hk).1)
        have hself := Lib.hid (fun k (hk : L[i].at_.ownBlock = some k) => of_self hlt hk)
        obtain ⟨⟨pc, pa, pd⟩, hpe⟩ : ∃ q, q = L[i] := ⟨_, rfl⟩
        obtain ⟨⟨qc, qa, qd⟩, hqe⟩ : ∃ q, q = R[i] := ⟨_, rfl⟩
        rw [← hpe] at q0 q1 hp hcode hdata ownp hself
        rw [← hqe] at r0 r1 hq hcode hdata ownq
        dsimp only at q0 q1 hp hcode hdata ownp hself r0 r1 hq ownq
        subst hcode hdata hp hq
        have k0 : wr.cell? ⟨gb, go_ + i * 2, none⟩ = some (.int .u8 (pc.toNat : Int)) := (hT.out.cell (p := ⟨gb, _, none⟩) hgb (nOf i)).trans q0
        have k1 : wr.cell? ⟨gb, go_ + i * 2 + 1, none⟩ = some (.slice Ap pd.length cp) := (hT.out.cell (p := ⟨gb, _, none⟩) hgb (nOf i)).trans q1
        have k2 : wr.cell? ⟨rb, ro + i * 2, none⟩ = some (.int .u8 (pc.toNat : Int)) := (hT.out.cell (p := ⟨rb, _, none⟩) hrb (nOfr i rb hrb3)).trans r0
        have k3 : wr.cell? ⟨rb, ro + i * 2 + 1, none⟩ = some (.slice Aq pd.length cq) := (hT.out.cell (p := ⟨rb, _, none⟩) hrb (nOfr i rb hrb3)).trans r1
        have HEQ := Lib.hid (fun n => (equal_yes _ _ _ _ pd pd (wr.drewN n) (byt_drewN ownp.byt n) (byt_drewN ownq.byt n) rfl).mono (R' := fun e w' => e = .returned (.bool true) ∧ w' = wr.drewN n) (fun e w' ⟨h1, h2⟩ => ⟨h1, h2.symm⟩))
        have HP := Lib.hid ownp
        have HQ1 := Lib.hid q1
        have HNOF := Lib.hid nOf
        have hd : decide (i < L.length) = true := decide_eq_true hlt
        have hcne : ((pc.toNat : Int) != (pc.toNat : Int)) = false := by simp
        clear hc hc2 h4 h5 e0 e0' q0 q1 r0 r1 nOf nOfr ownp ownq hpe hqe hrb3
        go_wp2_with fail
        go_quiet ((go_at_call 17; exact Calls.quiet_of_same (HEQ.out _)))
        obtain ⟨wo, hwo⟩ : ∃ wo, wo = wr.drewN nq := ⟨_, rfl⟩
        rw [← hwo]
        have TO : Turns (Of L i) w7 wo := by rw [hwo]; exact hT.out.drewN nq
        have ko1 : wo.cell? ⟨gb, go_ + i * 2 + 1, none⟩ = some (.slice Ap pd.length cp) := by rw [hwo]; exact k1
        have HPO := Lib.hid (by rw [hwo]; exact HP.out : OwnB wo w2.heap.size (.slice Ap pd.length cp) pd)
        have HTO := Lib.hid (TO.mono (fun k _ h => h.next))
        have hpl := HPO.out.byt.len
        unfold maxLen at hpl
        clear k0 k1 k2 k3 HEQ HP TO hwo
        go_wp2_with fail
        clear ko1
        go_loopw [98] (fun s wx => ∃ (k : Nat) (ys : List UInt8), k ≤ pd.length ∧ s = .int .i64 (k : Int) ∧ Hid (ys.length = pd.length) ∧ Hid (OwnB wx w2.heap.size (.slice Ap pd.length cp) ys) ∧ Hid (Turns (Of L (i + 1)) w7 wx)) (fun s _ => pd.length - (intOf s).toNat)
        case atStart => exact ⟨0, pd, Nat.zero_le _, rfl, Lib.hid rfl, HPO, HTO⟩
        case round =>
          obtain ⟨k, ys, hk, rfl, hyl, hown, hTx⟩ := hrel
          by_cases hkl : k < pd.length
          · have hky : k < ys.length := by rw [hyl.out]; exact hkl
            have ho2 := hown.out
            rw [← hyl.out] at ho2
            obtain ⟨gd, cd, e, g1, g2, g3⟩ := ho2.block (by omega)
            obtain ⟨e1, e2, e3⟩ := Value.slice.inj e
            subst e1 e3
            clear e2 e
            have hcd := ho2.cell (List.getElem?_eq_getElem hky)
            have hfr := ho2.free k
            obtain ⟨z, hz⟩ : ∃ z, z = ys[k] := ⟨_, rfl⟩
            rw [← hz] at hcd
            have kr1 : wr.cell? ⟨gb, go_ + i * 2 + 1, none⟩ = some (.slice (some ⟨gd, 0, none⟩) pd.length cp) := (hTx.out.cell (p := ⟨gb, _, none⟩) hgb (HNOF.out (i + 1))).trans HQ1.out
            have hcd2 : wr.cell? ⟨gd, k, none⟩ = some (.int .u8 (z.toNat : Int)) := hcd
            have hxor := xor255 z
            have hset := ho2.set k (UInt8.ofNat (255 - z.toNat))
            have hbv : bv (UInt8.ofNat (255 - z.toNat)) = .int .u8 ((255 - z.toNat : Nat) : Int) := by unfold bv; rw [UInt8.toNat_ofNat', Nat.mod_eq_of_lt (by omega)]
            rw [hbv] at hset
            rw [hyl.out] at hset
            have HSET := Lib.hid hset
            have hz256 := z.toNat_lt
            have hsub : ((255 - z.toNat : Nat) : Int) = 255 - (z.toNat : Int) := by omega
            rw [hsub] at hxor HSET
            have HTY := Lib.hid (fun u => hTx.out.setCell (p := ⟨gd, k, none⟩) (fun _ => hself.out gd rfl) u)
            have hdk : decide (k < pd.length) = true := decide_eq_true hkl
            clear hcd hset hbv ho2 hz hsub g1 g2 g3
            go_wp2_with fail
            go_roundw
            case rel => exact ⟨k + 1, ys.set k (UInt8.ofNat (255 - z.toNat)), by omega, by go_num, Lib.hid (by rw [List.length_set]; exact hyl.out), HSET, Lib.hid (HTY.out _)⟩
            case measure => simp [intOf]; omega
          · obtain rfl : k = pd.length := by omega
            go_wp2_with fail
            go_roundw
            case rel => exact ⟨i + 1, by omega, by go_num, hTx⟩
            case measure => simp [intOf]; omega
      · obtain rfl : i = L.length := by omega
        have hal := (HAL.out.below (HB24.out.trans (HB7.out.mono HB24.out.size))).keep (w' := wr) (fun b o hb => hT.out.cell (p := ⟨b, o, none⟩) (by show b < _; have := HB24.out.size; have := HB7.out.size; omega) (fun ho => by have := (HLOW.out _ b ho).1; omega))
        have hds := (HD4.out.below (HB7.out.mono (Nat.le_trans hB HB4.out.size))).keep (w' := wr) (fun b o hb => hT.out.cell (p := ⟨b, o, none⟩) (by show b < _; have := HB4.out.size; have := HB7.out.size; omega) (fun ho => by have := (HLOW.out _ b ho).1; have := HB2.out.size; omega))
        have HA9 := Lib.hid hal
        have HD9 := Lib.hid hds
        have HB9 := Lib.hid ((HB4.out.trans (HB7.out.mono HB4.out.size)).trans (hT.out.below_of (by have := HB4.out.size; have := HB7.out.size; omega) (fun k hk ho => by have := (HLOW.out _ k ho).1; have := HB2.out.size; omega)))
        clear hal hds
        go_wp2_with fail
        refine (kept_any _ _ _ _ cs wr HA9.out HD9.out (by omega)).mono ?_
        rintro e w9 ⟨rfl, hb9, _⟩
        have HB10 := Lib.hid (HB9.out.trans (hb9.mono HB9.out.size))
        clear hb9
        go_wp2_with fail
        go_ret
        exact ⟨rfl, HB10.out⟩
end Go.Proofs.Ytadgaeokiolmmaa
