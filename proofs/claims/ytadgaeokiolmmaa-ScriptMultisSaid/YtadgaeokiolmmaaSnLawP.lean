/-
  The law on pushes. Conditions: none.
-/
import Derived.Test.YtadgaeokiolmmaaSnRpush
import Derived.Test.YtadgaeokiolmmaaTKept
import Derived.BigQuiet
import Derived.Deep.QuietTactic
namespace Go.Proofs.Ytadgaeokiolmmaa
open Go.RowKit

theorem kept_any (B B' : Nat) (x y : Value) (bs : List UInt8) (w : World) (hx : Byt w B x (tinted bs)) (hy : Byt w B' y bs) (hl : bs.length ≤ 60000000) :
    Calls Try.prog 16 #[x, y] w fun e w' => e = .returned (.bool true) ∧ Below w.heap.size w w' ∧ w'.heap = w.heap :=
  (kept_yes B B' x y bs w hx hy hl).mono fun e w' ⟨he, k, hk⟩ => ⟨he, by subst hk; exact ⟨rfl, rfl, rfl, Nat.le_refl _, fun _ _ => rfl⟩, by subst hk; rfl⟩

/-- Parse of two pushes. -/
def TwoOps (w : World) (c1 : UInt8) (ds : List UInt8) (e : Ending) (w' : World) : Prop :=
  ∃ A c p q, e = .returned (.tuple #[.slice A 2 c, .int .i64 0]) ∧ p.code = c1 ∧ p.data = ds ∧ OpsAt w' w.heap.size (.slice A 2 c) [p, q] ∧ Below w.heap.size w w'
theorem parse_two (B : Nat) (x : Value) (zs ds es : List UInt8) (c1 c2 : UInt8) (h : parseP zs = some [(c1, ds), (c2, es)]) (w : World) (hx : Byt w B x zs) (hl : zs.length ≤ 60000000) :
    Calls Try.prog 12 #[x] w (TwoOps w c1 ds) := by
  refine (parse_any B x zs w hx hl).mono fun e w' hp => ?_
  unfold Parsed at hp
  rw [h] at hp
  obtain ⟨A, c, L, he, hL, ho, hb⟩ := hp
  match L, hL with
  | [p, q], hL =>
    simp only [List.map_cons, List.map_nil, Piece.pair, List.cons.injEq, Prod.mk.injEq] at hL
    exact ⟨A, c, p, q, he, hL.1.1, hL.1.2, ho, hb⟩

theorem row_tinted {w : World} {g : Nat} {bs : List UInt8} (h : Row w g (tinted bs)) (hl : bs.length ≤ 60000000) :
    Byt w w.heap.size (.slice (some ⟨g, 0, none⟩) bs.length (bs.length + 9)) bs ∧ Byt w w.heap.size (.slice (some ⟨g, 0, none⟩) (bs.length + 9) (bs.length + 9)) (tinted bs) := by
  have h1 := h.byt (n := bs.length) (c := bs.length + 9) (by rw [tinted_length]; omega) (by omega) (by unfold maxLen; omega)
  have h2 := h.byt (n := bs.length + 9) (c := bs.length + 9) (by rw [tinted_length]; omega) (by omega) (by unfold maxLen; omega)
  have e1 : (tinted bs).take bs.length = bs := by unfold tinted; exact List.take_left
  have e2 : (tinted bs).take (bs.length + 9) = tinted bs := List.take_of_length_le (by rw [tinted_length]; exact Nat.le_refl _)
  rw [e1] at h1
  rw [e2] at h2
  exact ⟨h1, h2⟩

set_option maxRecDepth 100000 in
set_option maxHeartbeats 6400000 in
theorem pushes_law (B : Nat) (x y : Value) (bs ms : List UInt8) (w : World) (hx : Byt w B x bs) (hy : Byt w B y ms) (hB : B ≤ w.heap.size) :
    Calls Try.prog 4 #[x, y] w fun e w' => e = .returned (.bool true) ∧ Below w.heap.size w w' := by
  obtain ⟨i0, hi, hz0, hz1, hz2⟩ := info_parts info_u8
  obtain ⟨cs, hcs⟩ : ∃ cs, cs = bs.take 70000 := ⟨_, rfl⟩
  obtain ⟨es, hes⟩ : ∃ es, es = ms.take 300 := ⟨_, rfl⟩
  have hcl : cs.length ≤ 70000 := by rw [hcs]; exact List.length_take_le _ _
  have hel : es.length ≤ 300 := by rw [hes]; exact List.length_take_le _ _
  have HX := Lib.hid hx
  have HY := Lib.hid hy
  obtain ⟨A, c, rfl⟩ := hx.form
  obtain ⟨A2, c2, rfl⟩ := hy.form
  have HCS := Lib.hid hcs
  have HES := Lib.hid hes
  clear hx hy hcs hes
  obtain ⟨k1, k2, hpt, hk1, hk2⟩ := push_two cs es (by omega) (by omega)
  have hpl : (pushB cs).length ≤ cs.length + 5 := by
    unfold pushB
    cases aloneB cs with
    | some c => simp
    | none =>
      unfold headB
      rw [List.length_append]
      split
      · simp; omega
      split
      · simp; omega
      split <;> simp [low_length] <;> omega
  have hql : (pushB es).length ≤ es.length + 5 := by
    unfold pushB
    cases aloneB es with
    | some c => simp
    | none =>
      unfold headB
      rw [List.length_append]
      split
      · simp; omega
      split
      · simp; omega
      split <;> simp [low_length] <;> omega
  have hpp := push_pushes cs (by omega)
  have HPT := Lib.hid hpt
  have HK1 := Lib.hid hk1
  have HK2 := Lib.hid hk2
  have HPP := Lib.hid hpp
  have HPL := Lib.hid (And.intro hpl hql)
  clear hpt hk1 hk2 hpp hpl hql
  go_enter Try.func4, Try.ntmps4
  go_wp2_with fail
  refine (awake_any w).mono ?_
  rintro e w1 ⟨rfl, hb1⟩
  have HB1 := Lib.hid hb1
  have HY1 := Lib.hid (HY.out.below (hb1.mono hB))
  clear hb1 HY
  go_wp2_with fail
  refine (shorts_any B _ bs 70000 (by omega) w1 (HX.out.below (HB1.out.mono hB))).mono ?_
  rintro e w2 ⟨⟨y1, rfl, hy1⟩, rfl⟩
  rw [← HCS.out] at hy1
  obtain ⟨A3, c3, rfl⟩ := hy1.form
  have HD := Lib.hid hy1
  clear hy1 HX HCS
  go_wp2_with fail
  refine (spare_any B _ cs w1 HD.out (Nat.le_trans hB HB1.out.size) (by omega)).mono ?_
  rintro e w2 ⟨rfl, hrow, hb2⟩
  obtain ⟨hin, hall⟩ := row_tinted hrow (by omega)
  have HIN := Lib.hid hin
  have HAL := Lib.hid hall
  have HB2 := Lib.hid (HB1.out.trans (hb2.mono HB1.out.size))
  have HD2 := Lib.hid (HD.out.below (hb2.mono (Nat.le_trans hB HB1.out.size)))
  have HY2 := Lib.hid (HY1.out.below (hb2.mono (Nat.le_trans hB HB1.out.size)))
  clear hin hall hrow hb2 HD HY1
  go_wp2_with fail
  refine (push_any _ _ cs w2 HIN.out (Nat.le_refl _) (by omega)).mono ?_
  intro e w3 hfr
  obtain ⟨u3, rfl, hown3, hb3⟩ := fresh_v hfr
  obtain ⟨A4, c4, rfl⟩ := hown3.form
  have HP3 := Lib.hid (Byt.of_own hown3)
  have HB3 := Lib.hid (HB2.out.trans (hb3.mono HB2.out.size))
  have HD3 := Lib.hid (HD2.out.below (hb3.mono (Nat.le_trans hB HB2.out.size)))
  have HY3 := Lib.hid (HY2.out.below (hb3.mono (Nat.le_trans hB HB2.out.size)))
  have HAL3 := Lib.hid ((HAL.out.below hb3).more hb3.size)
  clear hfr hown3 hb3 HIN HAL HD2 HY2
  go_wp2_with fail
  refine (rpush_any B _ cs w3 HD3.out (Nat.le_trans hB HB3.out.size) (by omega)).mono ?_
  intro e w4 hfr
  obtain ⟨u4, rfl, hown4, hb4⟩ := fresh_v hfr
  obtain ⟨A5, c5, rfl⟩ := hown4.form
  have HQ4 := Lib.hid (Byt.of_own hown4)
  have HP4 := Lib.hid ((HP3.out.below hb4).more hb4.size)
  have HB4 := Lib.hid (HB3.out.trans (hb4.mono HB3.out.size))
  have HD4 := Lib.hid (HD3.out.below (hb4.mono (Nat.le_trans hB HB3.out.size)))
  have HY4 := Lib.hid (HY3.out.below (hb4.mono (Nat.le_trans hB HB3.out.size)))
  have HAL4 := Lib.hid ((HAL3.out.below hb4).more hb4.size)
  clear hfr hown4 hb4 HP3 HD3 HY3 HAL3
  go_wp2_with fail
  refine (equal_yes _ _ _ _ _ _ w4 HP4.out HQ4.out rfl).mono ?_
  rintro e w5 ⟨rfl, rfl⟩
  clear HQ4
  have HTL : Hid ((tinted cs).length = cs.length + 9) := Lib.hid (tinted_length cs)
  go_wp2_with fail
  refine (kept_any _ _ _ _ cs w4 HAL4.out HD4.out (by omega)).mono ?_
  rintro e w5 ⟨rfl, hb5, hh5⟩
  have HP5 := Lib.hid ((HP4.out.below hb5).more hb5.size)
  have HB5 := Lib.hid (HB4.out.trans (hb5.mono HB4.out.size))
  have HD5 := Lib.hid (HD4.out.below (hb5.mono (Nat.le_trans hB HB4.out.size)))
  have HY5 := Lib.hid (HY4.out.below (hb5.mono (Nat.le_trans hB HB4.out.size)))
  clear hb5 hh5 HP4 HD4 HY4 HAL4
  go_wp2_with fail
  refine (shorts_any B _ ms 300 (by omega) w5 HY5.out).mono ?_
  rintro e w6 ⟨⟨y6, rfl, hy6⟩, rfl⟩
  rw [← HES.out] at hy6
  obtain ⟨A6, c6, rfl⟩ := hy6.form
  have HE6 := Lib.hid hy6
  clear hy6 HES HY5
  go_wp2_with fail
  refine (push_any B _ es w5 HE6.out (Nat.le_trans hB HB5.out.size) (by omega)).mono ?_
  intro e w7 hfr
  obtain ⟨u7, rfl, hown7, hb7⟩ := fresh_v hfr
  obtain ⟨A7, c7, rfl⟩ := hown7.form
  have HQ7 := Lib.hid (Byt.of_own hown7)
  have HP7 := Lib.hid ((HP5.out.below hb7).more hb7.size)
  have HB7 := Lib.hid (HB5.out.trans (hb7.mono HB5.out.size))
  have HD7 := Lib.hid (HD5.out.below (hb7.mono (Nat.le_trans hB HB5.out.size)))
  clear hfr hown7 hb7 HP5 HD5 HE6
  have hown8 : (w7.alloc (.cells #[] 5)).ownsRow w7.heap.size 5 1 (.slice (some ⟨w7.heap.size, 0, none⟩) 0 0) 0 [] := World.ownsRow_made w7 #[] 0 (Nat.le_refl _) (by unfold maxLen; omega) rfl
  have HO8 := Lib.hid hown8
  have HP8 := Lib.hid (HP7.out.below ((Below.refl w7.heap.size w7).alloc (Nat.le_refl _) (.cells #[] 5)))
  have HQ8 := Lib.hid (HQ7.out.below ((Below.refl w7.heap.size w7).alloc (Nat.le_refl _) (.cells #[] 5)))
  have HB8 := Lib.hid ((Below.refl w7.heap.size w7).alloc (Nat.le_refl _) (.cells #[] 5))
  have HS8 : Hid (w7.heap.size ≤ (w7.alloc (.cells #[] 5)).heap.size) := Lib.hid (by simp)
  clear hown8 HQ7
  go_wp2_with (first | (at_builtin; refine wpList_append_bytes rfl (.tmp 37) (.tmp 38) 22 rfl w7.heap.size 5 i0 slice_u8 hi hz0 hz1 hz2 _ 0 [] rfl HO8.out _ _ (pushB cs) rfl HP8.out (by have := HPL.out; omega) HS8.out ?_; intro v9 w9 hown9 hg9 hat9; have ho9 : OwnB w9 w7.heap.size v9 (pushB cs) := (by rw [Nat.zero_add, List.nil_append] at hown9; exact hown9); have hT9 := ((Turns.refl (fun k => (Value.slice (some ⟨w7.heap.size, 0, none⟩) 0 0).ownBlock = some k) _).grown hg9 (fun k hk _ => hk)); have hb9 : Below w7.heap.size w7 w9 := HB8.out.trans (hT9.below_of HS8.out (fun i hi e => by simp [Value.ownBlock] at e; omega)); have HO9 := Lib.hid ho9; have HB9 := Lib.hid hb9; have HQ9 := Lib.hid (HQ8.out.below (hT9.below_of (by simp) (fun i hi e => by simp [Value.ownBlock] at e; omega))); clear hown9 hg9 hat9 ho9 hT9 hb9) | (at_builtin; refine wpList_append_bytes rfl (.tmp 39) (.tmp 40) 22 rfl w7.heap.size 5 i0 slice_u8 hi hz0 hz1 hz2 _ _ _ rfl HO9.out _ _ (pushB es) rfl HQ9.out (by have := HPL.out; omega) HB9.out.size ?_; intro v10 w10 hown10 hg10 hat10))
  have ho10 : OwnB w10 w7.heap.size v10 (pushB cs ++ pushB es) := own_b hown10 rfl
  have hT10 := ((Turns.refl (fun k => v9.ownBlock = some k) w9).grown hg10 (fun k hk _ => hk))
  have hb10 : Below w7.heap.size w7 w10 := HB9.out.trans (hT10.below_of HB9.out.size (fun i hi e => by have := (World.ownsRow.lt HO9.out i e).1; omega))
  obtain ⟨A10, c10, rfl⟩ := ho10.form
  have HZ10 := Lib.hid (Byt.of_own ho10)
  have HP10 := Lib.hid (HP7.out.below hb10)
  have HB10 := Lib.hid (HB7.out.trans (hb10.mono HB7.out.size))
  have HD10 := Lib.hid (HD7.out.below (hb10.mono (Nat.le_trans hB HB7.out.size)))
  have HS10 := Lib.hid hb10.size
  clear hown10 hg10 hat10 ho10 hT10 hb10 HO8 HP8 HQ8 HB8 HS8 HO9 HB9 HQ9 HP7 HD7
  have HZL : Hid ((pushB cs ++ pushB es).length ≤ 60000000) := Lib.hid (by rw [List.length_append]; have := HPL.out; omega)
  refine (parse_two _ _ _ (behind cs) (behind es) k1 k2 HPT.out w10 HZ10.out HZL.out).mono ?_
  rintro e w11 ⟨A11, c11, ⟨pc, pa, pd⟩, q, rfl, hpc, hpd, hops, hb11⟩
  dsimp only at hpc hpd
  subst hpc hpd
  have hown11 := hops.2.1 ⟨pc, pa, behind cs⟩ (by simp)
  dsimp only at hown11
  obtain ⟨Ad, cd, rfl⟩ := hown11.form
  have HDT := Lib.hid (Byt.of_own hown11)
  obtain ⟨A', c', e0, _, _, h4⟩ := OpsR.of_at hops
  obtain ⟨e1, e2, e3⟩ := Value.slice.inj e0
  subst e1 e3
  clear e2 e0
  obtain ⟨gb, go_, rfl, hgb, hcc⟩ := h4 (by simp)
  obtain ⟨q0, q1, _⟩ := hcc 0 _ rfl
  have r0 : w11.cell? ⟨gb, go_, none⟩ = some (.int .u8 (pc.toNat : Int)) := q0
  have r1 : w11.cell? ⟨gb, go_ + 1, none⟩ = some (.slice Ad (behind cs).length cd) := q1
  have HR0 := Lib.hid r0
  have HR1 := Lib.hid r1
  have HGB := Lib.hid hgb
  have HP11 := Lib.hid (HP10.out.below (hb11.mono HS10.out))
  have HB11 := Lib.hid (HB10.out.trans (hb11.mono HB10.out.size))
  have HD11 := Lib.hid (HD10.out.below (hb11.mono (Nat.le_trans hB HB10.out.size)))
  have HS11 := Lib.hid (Nat.le_trans HS10.out hb11.size)
  clear hcc h4 q0 q1 r0 r1 hgb hops hown11 hb11 HZ10 HP10 HB10 HD10 HS10 HZL
  have hpu := pushes_any w7.heap.size _ (pushB cs) w11 HP11.out (by have := HPL.out; omega)
  rw [HPP.out] at hpu
  have HPU := Lib.hid hpu
  clear hpu
  go_wp2_with fail
  refine HPU.out.mono ?_
  rintro e w12 ⟨rfl, hb12⟩
  have hr0 : w12.cell? ⟨gb, go_, none⟩ = some (.int .u8 (pc.toNat : Int)) := (hb12.cell (p := ⟨gb, _, none⟩) HGB.out).trans HR0.out
  have hr1 : w12.cell? ⟨gb, go_ + 1, none⟩ = some (.slice Ad (behind cs).length cd) := (hb12.cell (p := ⟨gb, _, none⟩) HGB.out).trans HR1.out
  have HDT12 := Lib.hid (HDT.out.below hb12)
  have HB12 := Lib.hid (HB11.out.trans (hb12.mono HB11.out.size))
  have HD12 := Lib.hid (HD11.out.below (hb12.mono (Nat.le_trans hB HB11.out.size)))
  clear hb12 HPU HP11 HDT HR0 HR1 HD11
  cases hal : aloneB cs with
  | none =>
    have hlt := HK1.out hal
    have hbe : behind cs = cs := by unfold behind; rw [if_pos hal]
    have d1 : decide ((81 : Int) ≤ (pc.toNat : Int)) = false := decide_eq_false (by omega)
    have d2 : ((pc.toNat : Int) == 79) = false := by simp only [beq_eq_false_iff_ne, ne_eq]; omega
    rw [hbe] at hr1 HDT12
    clear hlt hbe hal
    go_wp2_with fail
    refine (equal_yes _ _ _ _ _ _ w12 HDT12.out HD12.out rfl).mono ?_
    rintro e w13 ⟨rfl, rfl⟩
    go_wp2_with fail
    go_ret
    exact ⟨rfl, HB12.out⟩
  | some k =>
    obtain rfl := HK2.out k hal
    match cs, hal, HD12 with
    | [], hal, HD12 =>
      cases hal
      have hbe : behind [] = [] := rfl
      rw [hbe] at hr1 HDT12
      have d1 : decide ((81 : Int) ≤ ((0 : UInt8).toNat : Int)) = false := rfl
      have d2 : (((0 : UInt8).toNat : Int) == 79) = false := rfl
      go_wp2_with fail
      refine (equal_yes _ _ _ _ _ _ w12 HDT12.out HD12.out rfl).mono ?_
      rintro e w13 ⟨rfl, rfl⟩
      go_wp2_with fail
      go_ret
      exact ⟨rfl, HB12.out⟩
    | [z], hal, HD12 =>
      obtain ⟨A', c', e0, _, _, _, h4⟩ := HD12.out
      obtain ⟨e1, e2, e3⟩ := Value.slice.inj e0
      subst e1 e3
      clear e2 e0
      obtain ⟨zb, zo, rfl, hzb, hzc⟩ := h4 (by simp)
      have hzcell : w12.cell? ⟨zb, zo, none⟩ = some (.int .u8 (z.toNat : Int)) := hzc 0 z rfl
      clear hzc h4 HD12 HDT12 hr1
      have hz256 := z.toNat_lt
      rw [alone_one] at hal
      by_cases h0 : z = 129
      · rw [if_pos h0] at hal
        cases hal
        subst h0
        have d1 : decide ((81 : Int) ≤ ((79 : UInt8).toNat : Int)) = false := rfl
        have d2 : (((79 : UInt8).toNat : Int) == 79) = true := rfl
        have d3 : (((129 : UInt8).toNat : Int) == 129) = true := rfl
        go_wp2_with fail
        go_ret
        exact ⟨rfl, HB12.out⟩
      · rw [if_neg h0] at hal
        by_cases h1 : 1 ≤ z.toNat ∧ z.toNat ≤ 16
        · rw [if_pos h1] at hal
          cases hal
          have hv : (UInt8.ofNat (80 + z.toNat)).toNat = 80 + z.toNat := by rw [UInt8.toNat_ofNat', Nat.mod_eq_of_lt (by omega)]
          rw [hv] at hr0
          have d1 : decide ((81 : Int) ≤ ((80 + z.toNat : Nat) : Int)) = true := decide_eq_true (by omega)
          clear hv
          go_wp2_with fail
          go_quiet (fail)
          go_wp2_with fail
          go_ret
          refine ⟨?_, HB12.out.os, HB12.out.tape, HB12.out.output, HB12.out.size, HB12.out.block⟩
          show Ending.returned (.bool ((z.toNat : Int) == 80 + (z.toNat : Int) - 80)) = _
          rw [show ((z.toNat : Int) == 80 + (z.toNat : Int) - 80) = true by simp only [beq_iff_eq]; omega]
        · rw [if_neg h1] at hal
          cases hal
    | _ :: _ :: _, hal, _ => cases hal
end Go.Proofs.Ytadgaeokiolmmaa
