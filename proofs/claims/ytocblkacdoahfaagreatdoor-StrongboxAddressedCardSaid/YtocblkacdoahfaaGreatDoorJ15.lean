/-
  Texts joined: SnPayM, SnRpayM, SnMulti. Conditions: those of each.
-/
import Derived.Test.YtocblkacdoahfaaGreatDoorJ14
import Derived.Test.YtocblkacdoahfaaGreatDoorJ5
/-
  PayMulti, of the program. Conditions: twenty keys at most, forty bytes each.
-/
namespace Go.Proofs.YtocblkacdoahfaaGreatDoor.Sn
open Go.RowKit

def flatK (ks : List (List UInt8)) : List UInt8 := (ks.map (fun k => 33 :: k)).flatten
def multiForm (m : Int) (ks : List (List UInt8)) : List UInt8 := (vcode m :: flatK ks) ++ [vcode (ks.length : Int)] ++ [174]
def mE (m : Int) (ks : List (List UInt8)) : Int := if m < 1 ∨ (ks.length : Int) < m ∨ 16 < ks.length then 1 else if ks.any (fun k => k.length != 33) = true then 3 else 0
def mF (m : Int) (ks : List (List UInt8)) : List UInt8 := if mE m ks = 0 then multiForm m ks else []
/-- What PayMulti answers. -/
def PayMV (w : World) (m : Int) (ks : List (List UInt8)) (e : Ending) (w' : World) : Prop :=
  ∃ A c, e = .returned (.tuple #[.slice A (mF m ks).length c, .int .i64 (mE m ks)]) ∧ Byt w' w'.heap.size (.slice A (mF m ks).length c) (mF m ks) ∧ Below w.heap.size w w'
theorem payMV_no {w w' : World} {m k : Int} {ks : List (List UInt8)} (h : mE m ks = k) (hk : k ≠ 0) (hb : Below w.heap.size w w') : PayMV w m ks (.returned (.tuple #[.slice none 0 0, .int .i64 k])) w' := by
  subst h
  unfold PayMV mF
  rw [if_neg hk]
  exact ⟨none, 0, rfl, Byt.nil _ _, hb⟩
theorem payMV_ok {w w' : World} {m : Int} {ks : List (List UInt8)} {u : Value} (h : mE m ks = 0) (ho : OwnB w' w.heap.size u (multiForm m ks)) (hb : Below w.heap.size w w') : PayMV w m ks (.returned (.tuple #[u, .int .i64 0])) w' := by
  unfold PayMV mF
  rw [if_pos h, h]
  obtain ⟨A, c, rfl⟩ := own_form ho
  exact ⟨A, c, rfl, Byt.of_own ho, hb⟩
theorem flatK_snoc (ks : List (List UInt8)) (k : List UInt8) : flatK (ks ++ [k]) = flatK ks ++ (33 :: k) := by unfold flatK; simp
theorem flatK_len {ks : List (List UInt8)} (h : ks.any (fun k => k.length != 33) = false) : (flatK ks).length = 34 * ks.length := by
  induction ks with
  | nil => rfl
  | cons k ks ih =>
    rw [List.any_cons, Bool.or_eq_false_iff] at h
    have hk : k.length = 33 := by simpa using h.1
    have := ih h.2
    unfold flatK at this ⊢
    rw [List.map_cons, List.flatten_cons, List.length_append, this, List.length_cons, hk, List.length_cons]
    omega
theorem anyk_take {ks : List (List UInt8)} {f : List UInt8 → Bool} (h : ks.any f = false) (n : Nat) : (ks.take n).any f = false := by
  rw [List.any_eq_false] at h ⊢
  exact fun x hx => h x (List.mem_of_mem_take hx)
theorem push_key {k : List UInt8} (h : k.length = 33) : pushB k = 33 :: k := by
  have := push_prog k (by omega) (by omega)
  rw [h] at this
  exact this

set_option maxRecDepth 100000 in
set_option maxHeartbeats 6400000 in
theorem payMulti_all (m : Int) (B : Nat) (x : Value) (L : List (Value × List UInt8)) (w : World) (h0 : -9223372036854775808 ≤ m) (h1 : m ≤ 9223372036854775807) (hx : BagR w B x L) (hB : B ≤ w.heap.size) (hl : L.length ≤ 20) (_hk40 : ∀ p ∈ L, p.2.length ≤ 9223372036854775807) :
    Calls Tryz.prog 5 #[.int .i64 m, x] w (PayMV w m (L.map (·.2))) := by
  obtain ⟨i0, hi, hz0, hz1, hz2⟩ := info_parts info_u8
  have HX := Lib.hid hx
  obtain ⟨A, c, rfl⟩ := hx.form
  have hE0 : mE m (L.map (·.2)) = if m < 1 ∨ (L.length : Int) < m ∨ 16 < L.length then 1 else if L.any (fun p => p.2.length != 33) = true then 3 else 0 := by
    unfold mE
    rw [List.length_map, List.any_map]
    rfl
  clear hx
  by_cases a1 : m < 1
  · rw [if_pos (.inl a1)] at hE0
    have HE := Lib.hid hE0
    clear hE0
    go_enter Tryz.func5, Tryz.ntmps5
    go_wp2_with fail
    go_ret2
    exact payMV_no HE.out (by decide) (Below.refl _ _)
  have d1 : decide (m < 1) = false := decide_eq_false a1
  by_cases a2 : (L.length : Int) < m
  · rw [if_pos (.inr (.inl a2))] at hE0
    have HE := Lib.hid hE0
    clear hE0 a1
    go_enter Tryz.func5, Tryz.ntmps5
    go_wp2_with fail
    go_ret2
    exact payMV_no HE.out (by decide) (Below.refl _ _)
  have d2 : decide ((L.length : Int) < m) = false := decide_eq_false a2
  by_cases a3 : 16 < L.length
  · rw [if_pos (.inr (.inr a3))] at hE0
    have d3 : decide ((16 : Int) < (L.length : Int)) = true := decide_eq_true (by omega)
    have HE := Lib.hid hE0
    clear hE0 a1 a2 a3
    go_enter Tryz.func5, Tryz.ntmps5
    go_wp2_with fail
    go_ret2
    exact payMV_no HE.out (by decide) (Below.refl _ _)
  have d3 : decide ((16 : Int) < (L.length : Int)) = false := decide_eq_false (by omega)
  rw [if_neg (by omega)] at hE0
  have HC := Lib.hid (contains_long B _ L w HX.out hB)
  obtain ⟨R, hR⟩ : ∃ R, R = L.any (fun p => p.2.length != 33) := ⟨_, rfl⟩
  rw [← hR] at hE0 HC
  have HR := Lib.hid hR
  have m0 : 0 ≤ m := by omega
  have m16 : m ≤ 16 := by omega
  have l16 : L.length ≤ 16 := by omega
  have hpm := push_small m m0 m16
  have hpn := push_small (L.length : Int) (by omega) (by omega)
  have HM := Lib.hid (fun W => pushNumber_any m W h0 h1)
  have HN := Lib.hid (fun W => pushNumber_any (L.length : Int) W (by omega) (by omega))
  rw [hpm] at HM
  rw [hpn] at HN
  have HE := Lib.hid hE0
  clear hE0 a1 a2 a3 hR hpm hpn
  cases R with
  | true =>
    go_enter Tryz.func5, Tryz.ntmps5
    go_wp2_with fail
    refine HC.out.mono ?_
    rintro e w1 ⟨rfl, hb1⟩
    go_wp2_with fail
    go_ret2
    exact payMV_no (by rw [HE.out]; exact if_pos trivial) (by decide) hb1
  | false =>
    have hall : ∀ p ∈ L, p.2.length = 33 := fun p hp => by
      have h := HR.out.symm
      rw [List.any_eq_false] at h
      simpa using h p hp
    have hks : (L.map (·.2)).any (fun k => k.length != 33) = false := by rw [List.any_map]; exact HR.out.symm
    have HALL := Lib.hid hall
    have HKS := Lib.hid hks
    clear hall hks
    go_enter Tryz.func5, Tryz.ntmps5
    go_wp2_with fail
    refine HC.out.mono ?_
    rintro e w1 ⟨rfl, hb1⟩
    have HB1 := Lib.hid hb1
    clear hb1
    go_wp2_with fail
    refine (HM.out _).mono ?_
    intro e w2 hfr
    obtain ⟨u2, rfl, hown2, hb2⟩ := fresh_v hfr
    have HO2 := Lib.hid (own_base hown2 HB1.out.size)
    have HB2 := Lib.hid (HB1.out.trans (hb2.mono HB1.out.size))
    clear hfr hown2 hb2
    go_wp2_with fail
    go_loopw [6, 28] (fun s t wr => ∃ (k : Nat) (v : Value), v = s ∧ k ≤ L.length ∧ t = .int .i64 (k : Int) ∧ Hid (OwnB wr w.heap.size v (vcode m :: flatK ((L.map (·.2)).take k))) ∧ Hid (Below w.heap.size w wr)) (fun _ t _ => L.length - (intOf t).toNat)
    case atStart => exact ⟨0, _, rfl, Nat.zero_le _, rfl, HO2, HB2⟩
    case round =>
      obtain ⟨k, v, hv, hk, rfl, hown, hbel⟩ := hrel
      subst hv
      by_cases hlt : k < L.length
      · obtain ⟨⟨A', c', e0, _, _, h4⟩, h5⟩ := HX.out.below (hbel.out.mono hB)
        obtain ⟨e1, e2, e3⟩ := Value.slice.inj e0
        subst e1 e3
        clear e2
        obtain ⟨b, o, rfl, hb, hc⟩ := h4 (by rintro rfl; simp at hlt)
        have hc0 := hc k _ (List.getElem?_eq_getElem hlt)
        have hby := h5 _ (List.getElem_mem hlt)
        have h33 := HALL.out _ (List.getElem_mem hlt)
        have hjt : flatK ((L.map (·.2)).take (k + 1)) = flatK ((L.map (·.2)).take k) ++ (33 :: L[k].2) := by
          rw [List.take_succ_eq_append_getElem (by rw [List.length_map]; exact hlt), flatK_snoc, List.getElem_map]
        have hfl := flatK_len (anyk_take HKS.out k)
        rw [List.length_take, List.length_map, Nat.min_eq_left (by omega)] at hfl
        obtain ⟨⟨pd, ys⟩, hpe⟩ : ∃ p, p = L[k] := ⟨_, rfl⟩
        rw [← hpe] at hc0 hby hjt h33
        dsimp only at hc0 hby hjt h33
        obtain ⟨Ad, cd, rfl⟩ := hby.form
        have HP := Lib.hid (push_any B _ ys wr hby (Nat.le_trans hB hbel.out.size) (by omega))
        rw [push_key h33] at HP
        have HJT := Lib.hid hjt
        have hdk : decide (k < L.length) = true := decide_eq_true hlt
        have HBN := Lib.hid (And.intro hfl h33)
        clear hc h4 h5 e0 hby hjt hpe hfl h33
        go_wp2_with fail
        refine HP.out.mono ?_
        intro e w3 hfr
        obtain ⟨u3, rfl, hown3, hb3⟩ := fresh_v hfr
        have HO3 := Lib.hid (own_turns hown.out (Turns.of_below (S := fun _ => False) hb3) (fun _ _ h => h))
        have HY3 := Lib.hid (Byt.of_own hown3)
        have HB3 := Lib.hid (hbel.out.trans (hb3.mono hbel.out.size))
        clear hfr hown3 hb3
        go_wp2_with (at_builtin; refine wpList_append_bytes rfl (.tmp 32) (.tmp 34) 23 rfl w.heap.size 5 i0 slice_u8 hi hz0 hz1 hz2 _ _ _ rfl HO3.out _ _ (33 :: ys) rfl HY3.out (by have := HBN.out; simp; omega) HB3.out.size ?_; intro v5 w5 hown5 hg5 hat5)
        have ho5 : OwnB w5 w.heap.size v5 (vcode m :: flatK ((L.map (·.2)).take (k + 1))) := by rw [HJT.out]; exact own_b hown5 rfl
        have hb5 : Below w.heap.size w w5 := HB3.out.grown hg5 HB3.out.size (fun j hj => (World.ownsRow.lt HO3.out j hj).1)
        have HO5 := Lib.hid ho5
        have HB5 := Lib.hid hb5
        clear hown5 hg5 hat5 ho5 hb5
        go_roundw
        case rel => exact ⟨k + 1, _, rfl, by omega, by go_num, HO5, HB5⟩
        case measure => simp [intOf]; omega
      · obtain rfl : k = L.length := by omega
        have ho := hown.out
        rw [List.take_of_length_le (by rw [List.length_map]; exact Nat.le_refl _)] at ho
        obtain ⟨A6, c6, rfl⟩ := own_form ho
        have HO := Lib.hid ho
        clear ho
        have hfl := flatK_len HKS.out
        rw [List.length_map] at hfl
        have hvl : (vcode m :: flatK (L.map (·.2))).length = 34 * L.length + 1 := by rw [List.length_cons, hfl]
        go_wp2_with fail
        refine (HN.out _).mono ?_
        intro e w6 hfr
        obtain ⟨u6, rfl, hown6, hb6⟩ := fresh_v hfr
        obtain ⟨A7, c7, rfl⟩ := own_form hown6
        have B6 := Lib.hid (hbel.out.trans (hb6.mono hbel.out.size))
        have y1 : Byt (w6.alloc (.cells #[.int .u8 174] 5)) (w6.alloc (.cells #[.int .u8 174] 5)).heap.size _ _ := (byt_later ((Byt.of_own HO.out).below hb6) (.cells #[.int .u8 174] 5)).more (by have := hb6.size; simp; omega)
        have y2 : Byt (w6.alloc (.cells #[.int .u8 174] 5)) (w6.alloc (.cells #[.int .u8 174] 5)).heap.size _ _ := (byt_later (Byt.of_own hown6) (.cells #[.int .u8 174] 5)).more (by simp)
        have y3 : Byt (w6.alloc (.cells #[.int .u8 174] 5)) (w6.alloc (.cells #[.int .u8 174] 5)).heap.size (.slice (some ⟨w6.heap.size, 0, none⟩) 1 1) [174] := (Byt.made w6 5 [.int .u8 174] [174] rfl (by unfold maxLen; simp)).more (by simp)
        obtain ⟨F, hF⟩ : ∃ F, F = vcode m :: flatK (L.map (·.2)) := ⟨_, rfl⟩
        rw [← hF] at y1 hvl
        have bag := BagR.made (w6.alloc (.cells #[.int .u8 174] 5)) 23 [.slice A6 F.length c6, .slice A7 [vcode (L.length : Int)].length c7, .slice (some ⟨w6.heap.size, 0, none⟩) 1 1]
          [(.slice A6 F.length c6, F), (.slice A7 [vcode (L.length : Int)].length c7, [vcode (L.length : Int)]), (.slice (some ⟨w6.heap.size, 0, none⟩) 1 1, [174])] rfl (by unfold maxLen; simp)
          (by intro p hp; simp only [List.mem_cons, List.not_mem_nil, or_false] at hp; rcases hp with rfl | rfl | rfl; exact y1; exact y2; exact y3)
        rw [World.size_alloc] at bag
        have ej : joined [((.slice A6 F.length c6 : Value), F), (.slice A7 [vcode (L.length : Int)].length c7, [vcode (L.length : Int)]), (.slice (some ⟨w6.heap.size, 0, none⟩) 1 1, [174])] = multiForm m (L.map (·.2)) := by
          unfold joined multiForm
          rw [hF, List.length_map]
          simp
        have hconc := concat_any _ _ _ _ bag (by simp) (by unfold total; simp; omega)
        rw [ej] at hconc
        have CONC := Lib.hid hconc
        have hl1 : [vcode (L.length : Int)].length = 1 := rfl
        rw [hl1] at CONC
        rw [hl1, ← hF]
        clear hconc ej bag y1 y2 y3 hl1 hF hvl hfl hfr hown6 hb6
        go_wp2_with fail
        refine CONC.out.mono ?_
        intro e w8 hfr
        obtain ⟨u8, rfl, hown8, hb8⟩ := fresh_v hfr
        have HO8 := Lib.hid (own_base hown8 (by have := B6.out.size; simp; omega : w.heap.size ≤ _))
        have B8 := Lib.hid (((B6.out.alloc B6.out.size (.cells #[.int .u8 174] 5)).alloc (by have := B6.out.size; simp; omega) (.cells #[.slice A6 F.length c6, .slice A7 1 c7, .slice (some ⟨w6.heap.size, 0, none⟩) 1 1] 23)).trans (hb8.mono (by have := B6.out.size; simp; omega)))
        clear hfr hown8 hb8
        go_wp2_with fail
        go_ret2
        exact payMV_ok (by rw [HE.out, if_neg (by decide)]) HO8.out B8.out
theorem payMulti_any (m : Int) (B : Nat) (x : Value) (L : List (Value × List UInt8)) (w : World) (h0 : -9223372036854775808 ≤ m) (h1 : m ≤ 9223372036854775807) (hx : BagR w B x L) (hB : B ≤ w.heap.size) (hl : L.length ≤ 20) (hk40 : ∀ p ∈ L, p.2.length ≤ 40) :
    Calls Tryz.prog 5 #[.int .i64 m, x] w (PayMV w m (L.map (·.2))) :=
  payMulti_all m B x L w h0 h1 hx hB hl (fun p hp => Nat.le_trans (hk40 p hp) (by decide))
end Go.Proofs.YtocblkacdoahfaaGreatDoor.Sn

/-
  PayMulti, of the reference. Conditions: twenty keys at most, forty bytes each.
-/
namespace Go.Proofs.YtocblkacdoahfaaGreatDoor.Sn
open Go.RowKit

theorem cell_ad {w : World} {o : Obj} {b off : Nat} {v : Value} (h : w.cell? ⟨b, off, none⟩ = some v) (hb : b < w.heap.size) : ((w.alloc o).drew).cell? ⟨b, off, none⟩ = some v :=
  (((Below.refl _ w).alloc (Nat.le_refl _) o).cell (p := ⟨b, off, none⟩) hb).trans h
theorem bv_vcode {v : Int} (h0 : 0 < v) (h1 : v ≤ 16) : bv (vcode v) = .int .u8 (80 + v) := by
  unfold vcode bv
  rw [if_neg (by omega), UInt8.toNat_ofNat', Nat.mod_eq_of_lt (by omega)]
  congr 1
  omega

set_option maxRecDepth 100000 in
set_option maxHeartbeats 12800000 in
theorem rpayMulti_all (m : Int) (B : Nat) (x : Value) (L : List (Value × List UInt8)) (w : World) (_h0 : -9223372036854775808 ≤ m) (_h1 : m ≤ 9223372036854775807) (hx : BagR w B x L) (hB : B ≤ w.heap.size) (hl : L.length ≤ 20) (hk40 : ∀ p ∈ L, p.2.length ≤ 9223372036854775807) :
    Calls Tryz.prog 6 #[.int .i64 m, x] w (PayMV w m (L.map (·.2))) := by
  obtain ⟨i0, hi, hz0, hz1, hz2⟩ := info_parts info_u8
  have HX := Lib.hid hx
  have HK40 := Lib.hid hk40
  obtain ⟨A, c, rfl⟩ := hx.form
  have hE0 : mE m (L.map (·.2)) = if m < 1 ∨ (L.length : Int) < m ∨ 16 < L.length then 1 else if L.any (fun p => p.2.length != 33) = true then 3 else 0 := by
    unfold mE
    rw [List.length_map, List.any_map]
    rfl
  clear hx hk40
  by_cases a0 : L.length < 1
  · rw [if_pos (by omega)] at hE0
    have d0 : decide ((L.length : Int) < 1) = true := decide_eq_true (by omega)
    have HE := Lib.hid hE0
    clear hE0 a0
    go_enter Tryz.func6, Tryz.ntmps6
    go_wp2_with fail
    go_ret2
    exact payMV_no HE.out (by decide) (Below.refl _ _)
  have d0 : decide ((L.length : Int) < 1) = false := decide_eq_false (by omega)
  by_cases a3 : 16 < L.length
  · rw [if_pos (.inr (.inr a3))] at hE0
    have d3 : decide ((16 : Int) < (L.length : Int)) = true := decide_eq_true (by omega)
    have HE := Lib.hid hE0
    clear hE0 a0 a3
    go_enter Tryz.func6, Tryz.ntmps6
    go_wp2_with fail
    go_ret2
    exact payMV_no HE.out (by decide) (Below.refl _ _)
  have d3 : decide ((16 : Int) < (L.length : Int)) = false := decide_eq_false (by omega)
  by_cases a1 : m < 1
  · rw [if_pos (.inl a1)] at hE0
    have HE := Lib.hid hE0
    clear hE0 a0
    go_enter Tryz.func6, Tryz.ntmps6
    go_wp2_with fail
    go_ret2
    exact payMV_no HE.out (by decide) (Below.refl _ _)
  have d1 : decide (m < 1) = false := decide_eq_false a1
  by_cases a2 : (L.length : Int) < m
  · rw [if_pos (.inr (.inl a2))] at hE0
    have HE := Lib.hid hE0
    clear hE0 a1 a0
    go_enter Tryz.func6, Tryz.ntmps6
    go_wp2_with fail
    go_ret2
    exact payMV_no HE.out (by decide) (Below.refl _ _)
  have d2 : decide ((L.length : Int) < m) = false := decide_eq_false a2
  rw [if_neg (by omega)] at hE0
  have m0 : 0 ≤ m := by omega
  have m16 : m ≤ 16 := by omega
  have l16 : (L.length : Int) ≤ 16 := by omega
  have hbm : bv (vcode m) = .int .u8 (80 + m) := bv_vcode (by omega) m16
  have hbn : bv (vcode (L.length : Int)) = .int .u8 (80 + (L.length : Int)) := bv_vcode (by omega) l16
  have HO2 := Lib.hid (own_made w 5 [.int .u8 (80 + m)] [vcode m] (by rw [List.map_cons, hbm]; rfl) (by unfold maxLen; simp))
  have HB2 := Lib.hid ((Below.refl _ w).alloc (Nat.le_refl _) (.cells #[.int .u8 (80 + m)] 5))
  have HE := Lib.hid hE0
  have HBN := Lib.hid hbn
  clear hE0 a0 a1 a2 a3 hbm hbn
  go_enter Tryz.func6, Tryz.ntmps6
  go_wp2_with fail
  go_loopw [6, 7] (fun s t wr => ∃ (k : Nat) (v : Value), v = s ∧ k ≤ L.length ∧ t = .int .i64 (k : Int) ∧ Hid ((((L.map (·.2)).take k).any (fun k => k.length != 33)) = false) ∧ Hid (OwnB wr w.heap.size v (vcode m :: flatK ((L.map (·.2)).take k))) ∧ Hid (Below w.heap.size w wr)) (fun _ t _ => L.length - (intOf t).toNat)
  case atStart => exact ⟨0, _, rfl, Nat.zero_le _, rfl, Lib.hid (by simp), HO2, HB2⟩
  case round =>
    obtain ⟨k, v, hv, hk, rfl, hno, hown, hbel⟩ := hrel
    subst hv
    by_cases hlt : k < L.length
    · obtain ⟨⟨A', c', e0, _, _, h4⟩, h5⟩ := HX.out.below (hbel.out.mono hB)
      obtain ⟨e1, e2, e3⟩ := Value.slice.inj e0
      subst e1 e3
      clear e2
      obtain ⟨b, o, rfl, hb, hc⟩ := h4 (by rintro rfl; simp at hlt)
      have hc0 := hc k _ (List.getElem?_eq_getElem hlt)
      have hby := h5 _ (List.getElem_mem hlt)
      have h40 := HK40.out _ (List.getElem_mem hlt)
      have htk : (L.map (·.2)).take (k + 1) = (L.map (·.2)).take k ++ [L[k].2] := by
        rw [List.take_succ_eq_append_getElem (by rw [List.length_map]; exact hlt), List.getElem_map]
      have hany : L.any (fun p => p.2.length != 33) = true ∨ L[k].2.length = 33 := by
        by_cases e : L[k].2.length = 33
        · exact .inr e
        · refine .inl (List.any_eq_true.2 ⟨L[k], List.getElem_mem hlt, by simpa using e⟩)
      have hfl := flatK_len hno.out
      rw [List.length_take, List.length_map, Nat.min_eq_left (by omega)] at hfl
      obtain ⟨⟨pd, ys⟩, hpe⟩ : ∃ p, p = L[k] := ⟨_, rfl⟩
      rw [← hpe] at hc0 hby htk h40 hany
      dsimp only at hc0 hby htk h40 hany
      obtain ⟨Ad, cd, rfl⟩ := hby.form
      have HBY := Lib.hid hby
      have HTK := Lib.hid htk
      have hdk : decide ((k : Int) < (L.length : Int)) = true := decide_eq_true (by omega)
      have hdk2 : decide (k < L.length) = true := decide_eq_true hlt
      have hki : (0 : Int) ≤ (k : Int) := by omega
      have hkl : (k : Int) < (L.length : Int) := by omega
      have hbw : b < wr.heap.size := by have := hbel.out.size; omega
      clear hc h4 h5 e0 hby htk hpe
      by_cases h33 : ys.length = 33
      · have hn : ((ys.length : Int) != 33) = false := by rw [h33]; rfl
        have H33 := Lib.hid h33
        have HFL := Lib.hid hfl
        have hmade : Byt (wr.alloc (.cells #[.int .u8 33] 5)).drew (wr.heap.size + 1) (.slice (some ⟨wr.heap.size, 0, none⟩) 1 1) [33] := (Byt.made wr 5 [.int .u8 33] [33] rfl (by unfold maxLen; simp)).keep (fun _ _ _ => rfl)
        have hod : OwnB (wr.alloc (.cells #[.int .u8 33] 5)).drew w.heap.size v (vcode m :: flatK ((L.map (·.2)).take k)) := (World.ownsRow.alloc hown.out _).drew
        have hbd : Below w.heap.size w (wr.alloc (.cells #[.int .u8 33] 5)).drew := (hbel.out.alloc hbel.out.size _).drew
        have HMADE := Lib.hid hmade
        have HOD := Lib.hid hod
        have HBD := Lib.hid hbd
        clear h33 hfl hany hmade hod hbd
        go_wp2_with fail
        refine wp_region_held_drew (S := (fun w' => w'.cell? ⟨b, o + k, none⟩ = some (.slice Ad ys.length cd))) (by kernel_rfl) ?_ (fun hHeld => ?_)
        · exact hc0
        refine wpAnyH_take (i := 0) (oi := { dst := some 42, op := Go.Op.move (Go.Operand.tmp 6), type := 23, pos := "ref.go:252", after := #[], guard := none }) (v := ?av0) rfl (by kernel_rfl) (by kernel_rfl) (by kernel_rfl) (fun _ _ _ h => h) (Or.inl ⟨by rfl, ?ay0⟩) (by assumption) ?ar0
        case ay0 => (intro w hSw; (try dsimp only at hSw); go_simp; try (with_reducible rfl))
        case ar0 =>
        try simp only [Act.put, List.setIfInBounds_toArray, List.set_cons_zero, List.set_cons_succ]
        refine wpAnyH_take (i := 3) (oi := { dst := some 45, op := Go.Op.move (Go.Operand.tmp 1), type := 22, pos := "ref.go:252", after := #[], guard := none }) (v := ?av3) rfl (by kernel_rfl) (by kernel_rfl) (by kernel_rfl) (fun _ _ _ h => h) (Or.inl ⟨by rfl, ?ay3⟩) (by assumption) ?ar3
        case ay3 => (intro w hSw; (try dsimp only at hSw); go_simp; try (with_reducible rfl))
        case ar3 =>
        try simp only [Act.put, List.setIfInBounds_toArray, List.set_cons_zero, List.set_cons_succ]
        refine wpAnyH_take (i := 4) (oi := { dst := some 46, op := Go.Op.move (Go.Operand.tmp 7), type := 3, pos := "ref.go:252", after := #[], guard := none }) (v := ?av4) rfl (by kernel_rfl) (by kernel_rfl) (by kernel_rfl) (fun _ _ _ h => h) (Or.inl ⟨by rfl, ?ay4⟩) (by assumption) ?ar4
        case ay4 => (intro w hSw; (try dsimp only at hSw); go_simp; try (with_reducible rfl))
        case ar4 =>
        try simp only [Act.put, List.setIfInBounds_toArray, List.set_cons_zero, List.set_cons_succ]
        refine wpAnyH_take (i := 5) (oi := { dst := some 47, op := Go.Op.indexAddr 22 (Go.Operand.tmp 45) (Go.Operand.tmp 46), type := 0, pos := "ref.go:252", after := #[{ on := 3, ground := Go.Ground.data }, { on := 4, ground := Go.Ground.data }], guard := none }) (v := ?av5) rfl (by kernel_rfl) (by kernel_rfl) (by kernel_rfl) (fun _ _ _ h => h) (Or.inl ⟨by rfl, ?ay5⟩) (by assumption) ?ar5
        case ay5 => (intro w hSw; (try dsimp only at hSw); go_simp; try (with_reducible rfl))
        case ar5 =>
        try simp only [Act.put, List.setIfInBounds_toArray, List.set_cons_zero, List.set_cons_succ]
        refine wpAnyH_take (i := 6) (oi := { dst := some 48, op := Go.Op.load 23 (Go.Operand.tmp 47), type := 23, pos := "ref.go:252", after := #[{ on := 5, ground := Go.Ground.data }], guard := none }) (v := ?av6) rfl (by kernel_rfl) (by kernel_rfl) (by kernel_rfl) (fun _ _ _ h => h) (Or.inl ⟨by rfl, ?ay6⟩) (by assumption) ?ar6
        case ay6 => (intro w hSw; (try dsimp only at hSw); go_simp; try (with_reducible rfl))
        case ar6 =>
        try simp only [Act.put, List.setIfInBounds_toArray, List.set_cons_zero, List.set_cons_succ]
        refine wpAnyH_ready (rs := [1]) (by kernel_rfl) (by simp) ?_
        refine AllReadyH.cons (o := { dst := some 43, op := Go.Op.buildSlice 23 1 #[(0, Go.Operand.const (Go.Value.int Go.IntKind.u8 33))], type := 23, pos := "ref.go:252", after := #[], guard := none }) rfl (fun K hK => ?_) (AllReadyH.nil)
        go_simp
        refine hK.out _ _ ?_ (fun hHeld => ?_)
        · exact cell_ad hc0 hbw
        clear hK K
        try simp only [Act.put, List.setIfInBounds_toArray, List.set_cons_zero, List.set_cons_succ]
        refine wpAnyH_ready (rs := [2]) (by kernel_rfl) (by simp) ?_
        refine AllReadyH.cons (o := { dst := some 44, op := Go.Op.call { callee := Go.Callee.builtin Go.Builtin.append, args := #[Go.Operand.tmp 42, Go.Operand.tmp 43], argTypes := #[23, 23] }, type := 23, pos := "ref.go:252", after := #[{ on := 0, ground := Go.Ground.data }, { on := 1, ground := Go.Ground.data }], guard := none }) rfl (fun K hK => ?_) (AllReadyH.nil)
        simp only [Region.wanted, if_true]
        refine op_append_bytes (.tmp 42) (.tmp 43) 23 rfl w.heap.size 5 i0 slice_u8 hi hz0 hz1 hz2 _ _ _ rfl HOD.out _ _ [33] rfl HMADE.out (by have := HFL.out; simp; omega) HBD.out.size ?_
        intro v5 w5 hown5 hg5 hat5
        have ho5 : OwnB w5 w.heap.size v5 ((vcode m :: flatK ((L.map (·.2)).take k)) ++ [33]) := own_b hown5 rfl
        have hb5 : Below w.heap.size w w5 := HBD.out.grown hg5 HBD.out.size (fun j hj => (World.ownsRow.lt HOD.out j hj).1)
        have hq5 : Below w.heap.size wr w5 := ((((Below.refl w.heap.size wr).alloc hbel.out.size (.cells #[.int .u8 33] 5)).drew)).grown hg5 (by have := hbel.out.size; simp; omega) (fun j hj => (World.ownsRow.lt HOD.out j hj).1)
        have hc5 := (hq5.cell (p := ⟨b, o + k, none⟩) (by show b < _; omega)).trans hc0
        have HO5 := Lib.hid ho5
        have HB5 := Lib.hid hb5
        have HY5 := Lib.hid (HBY.out.below (hq5.mono hB))
        clear hown5 hg5 hat5 ho5 hb5
        refine hK.out _ _ ?_ (fun hHeld => ?_)
        · exact hc5
        clear hK K
        try simp only [Act.put, List.setIfInBounds_toArray, List.set_cons_zero, List.set_cons_succ]
        refine wpAnyH_ready (rs := [7]) (by kernel_rfl) (by simp) ?_
        refine AllReadyH.cons (o := { dst := some 49, op := Go.Op.call { callee := Go.Callee.builtin Go.Builtin.append, args := #[Go.Operand.tmp 44, Go.Operand.tmp 48], argTypes := #[23, 23] }, type := 23, pos := "ref.go:252", after := #[{ on := 2, ground := Go.Ground.data }, { on := 6, ground := Go.Ground.data }, { on := 2, ground := Go.Ground.chain }], guard := none }) rfl (fun K hK => ?_) (AllReadyH.nil)
        simp only [Region.wanted, if_true]
        refine op_append_bytes (.tmp 44) (.tmp 48) 23 rfl w.heap.size 5 i0 slice_u8 hi hz0 hz1 hz2 _ _ _ rfl HO5.out _ _ ys rfl HY5.out (by have := HFL.out; have := H33.out; simp; omega) HB5.out.size ?_
        intro v7 w7 hown7 hg7 hat7
        have ho7 : OwnB w7 w.heap.size v7 (((vcode m :: flatK ((L.map (·.2)).take k)) ++ [33]) ++ ys) := own_b hown7 rfl
        have hb7 : Below w.heap.size w w7 := HB5.out.grown hg7 HB5.out.size (fun j hj => (World.ownsRow.lt HO5.out j hj).1)
        have hq7 : Below w.heap.size w5 w7 := (Below.refl w.heap.size w5).grown hg7 HB5.out.size (fun j hj => (World.ownsRow.lt HO5.out j hj).1)
        have hc7 := (hq7.cell (p := ⟨b, o + k, none⟩) (by show b < _; omega)).trans hc5
        have HO7 := Lib.hid ho7
        have HB7 := Lib.hid hb7
        clear hown7 hg7 hat7 ho7 hb7
        refine hK.out _ _ ?_ (fun hHeld => ?_)
        · exact hc7
        clear hK K
        try simp only [Act.put, List.setIfInBounds_toArray, List.set_cons_zero, List.set_cons_succ]
        refine wpAnyH_take (i := 8) (oi := { dst := some 6, op := Go.Op.assign (Go.Operand.tmp 49), type := 23, pos := "ref.go:252", after := #[{ on := 7, ground := Go.Ground.data }, { on := 7, ground := Go.Ground.chain }, { on := 0, ground := Go.Ground.phase }, { on := 1, ground := Go.Ground.phase }, { on := 2, ground := Go.Ground.phase }, { on := 3, ground := Go.Ground.phase }, { on := 4, ground := Go.Ground.phase }, { on := 5, ground := Go.Ground.phase }, { on := 6, ground := Go.Ground.phase }, { on := 7, ground := Go.Ground.phase }], guard := none }) (v := ?a_1_2_7v8) rfl (by kernel_rfl) (by kernel_rfl) (by kernel_rfl) (fun _ _ _ h => h) (Or.inl ⟨by rfl, ?a_1_2_7y8⟩) (by assumption) ?a_1_2_7r8
        case a_1_2_7y8 => (intro w hSw; (try dsimp only at hSw); go_simp; try (with_reducible rfl))
        case a_1_2_7r8 =>
        try simp only [Act.put, List.setIfInBounds_toArray, List.set_cons_zero, List.set_cons_succ]
        refine wpAnyH_done (by kernel_rfl) ?_ _
        clear hHeld
        have hn1 : ((L.map (·.2)).take (k + 1)).any (fun k => k.length != 33) = false := by rw [HTK.out, List.any_append, hno.out]; simp [H33.out]
        have hn2 : OwnB w7 w.heap.size v7 (vcode m :: flatK ((L.map (·.2)).take (k + 1))) := by rw [HTK.out, flatK_snoc]; have := HO7.out; simpa using this
        have HN1 := Lib.hid hn1
        have HN2 := Lib.hid hn2
        clear hn1 hn2
        go_wp2_with fail
        go_roundw
        case rel => exact ⟨k + 1, _, rfl, by omega, by go_num, HN1, HN2, HB7⟩
        case measure => simp [intOf]; omega
      · have hn : ((ys.length : Int) != 33) = true := by simp only [bne_iff_ne, ne_eq]; omega
        have hat : L.any (fun p => p.2.length != 33) = true := by rcases hany with h | h; exact h; exact absurd h h33
        have HAT := Lib.hid hat
        clear h33 hany hat hfl
        go_wp2_with fail
        go_ret2
        exact payMV_no (by rw [HE.out]; exact if_pos HAT.out) (by decide) hbel.out
    · obtain rfl : k = L.length := by omega
      have hno2 := hno.out
      have ho := hown.out
      rw [List.take_of_length_le (by rw [List.length_map]; exact Nat.le_refl _)] at ho hno2
      have hfl := flatK_len hno2
      rw [List.length_map] at hfl
      have hae : L.any (fun p => p.2.length != 33) = false := by rw [List.any_map] at hno2; exact hno2
      have HAE := Lib.hid hae
      have HFL := Lib.hid hfl
      have HO := Lib.hid (World.ownsRow.alloc ho (.cells #[.int .u8 (80 + (L.length : Int)), .int .u8 174] 5))
      have HY := Lib.hid (Byt.made wr 5 [.int .u8 (80 + (L.length : Int)), .int .u8 174] [vcode (L.length : Int), 174] (by rw [List.map_cons, HBN.out]; rfl) (by unfold maxLen; simp))
      have HBB := Lib.hid (hbel.out.alloc hbel.out.size (.cells #[.int .u8 (80 + (L.length : Int)), .int .u8 174] 5))
      have hln : (0 : Int) ≤ (L.length : Int) := by omega
      clear ho hno2 hfl hae hlt
      go_wp2_with (at_builtin; refine wpList_append_bytes rfl (.tmp 50) (.tmp 55) 23 rfl w.heap.size 5 i0 slice_u8 hi hz0 hz1 hz2 _ _ _ rfl HO.out _ _ [vcode (L.length : Int), 174] rfl HY.out (by have := HFL.out; simp; omega) HBB.out.size ?_; intro v5 w5 hown5 hg5 hat5)
      go_ret2
      refine payMV_ok (by rw [HE.out]; exact if_neg (by rw [HAE.out]; decide)) ?_ (HBB.out.grown hg5 HBB.out.size (fun j hj => (World.ownsRow.lt HO.out j hj).1))
      have ho5 : OwnB w5 w.heap.size v5 ((vcode m :: flatK (L.map (·.2))) ++ [vcode (L.length : Int), 174]) := own_b hown5 rfl
      unfold multiForm
      rw [List.length_map]
      simpa using ho5
theorem rpayMulti_any (m : Int) (B : Nat) (x : Value) (L : List (Value × List UInt8)) (w : World) (_h0 : -9223372036854775808 ≤ m) (_h1 : m ≤ 9223372036854775807) (hx : BagR w B x L) (hB : B ≤ w.heap.size) (hl : L.length ≤ 20) (hk40 : ∀ p ∈ L, p.2.length ≤ 40) :
    Calls Tryz.prog 6 #[.int .i64 m, x] w (PayMV w m (L.map (·.2))) :=
  rpayMulti_all m B x L w _h0 _h1 hx hB hl (fun p hp => Nat.le_trans (hk40 p hp) (by decide))
end Go.Proofs.YtocblkacdoahfaaGreatDoor.Sn

/-
  script.multi: are operations of the form of many keys. Conditions: none.
-/
namespace Go.Proofs.YtocblkacdoahfaaGreatDoor.Sn
open Go.RowKit

def multiB (cs : List UInt8) : Bool :=
  if cs.length < 4 then false
  else (cs.getD (cs.length - 1) 0 == 174) && decide (smallB (cs.getD (cs.length - 2) 0) = (cs.length : Int) - 3) && decide (1 ≤ smallB (cs.getD 0 0)) && decide (smallB (cs.getD 0 0) ≤ (cs.length : Int) - 3) && !((cs.drop 1).take (cs.length - 3)).any (· != 33)
theorem code_at {L : List Piece} {i : Nat} {p : Piece} (h : L[i]? = some p) : (L.map Piece.code).getD i 0 = p.code := by
  rw [List.getD, List.getElem?_map, h]
  rfl
theorem ops_drop {w : World} {B N c o b : Nat} {L : List Piece} (h : OpsR w B (.slice (some ⟨b, o, none⟩) L.length c) L) (hl : L.length = N + 3) : OpsR w B (.slice (some ⟨b, o + 2, none⟩) N (c - 1)) ((L.drop 1).take N) := by
  obtain ⟨A', c', e, h1, h2, h3⟩ := h
  obtain ⟨e1, _, e3⟩ := Value.slice.inj e
  subst e1 e3
  obtain ⟨b', o', e', hb, hc⟩ := h3 (by rintro rfl; simp at hl)
  injection e' with e'
  obtain ⟨e1', e2', _⟩ := Addr.mk.inj e'
  subst e1' e2'
  have hlen : ((L.drop 1).take N).length = N := by simp; omega
  refine ⟨_, _, by rw [hlen], by rw [hlen]; omega, by omega, fun _ => ⟨b, o + 2, rfl, hb, fun i p hp => ?_⟩⟩
  rw [List.getElem?_take] at hp
  split at hp
  · rw [List.getElem?_drop] at hp
    have := hc (1 + i) p hp
    rw [show o + 2 + i * 2 = o + (1 + i) * 2 by omega]
    exact this
  · cases hp

set_option maxRecDepth 100000 in
set_option maxHeartbeats 6400000 in
theorem multi_any (B : Nat) (x : Value) (L : List Piece) (w : World) (hx : OpsR w B x L) (hB : B ≤ w.heap.size) (hl : L.length ≤ 60000000) :
    Calls Tryz.prog 37 #[x] w fun e w' => e = .returned (.bool (multiB (L.map Piece.code))) ∧ Below w.heap.size w w' := by
  obtain ⟨A, c, rfl⟩ := hx.form
  by_cases h4 : L.length < 4
  · have hM : multiB (L.map Piece.code) = false := by unfold multiB; rw [List.length_map, if_pos h4]
    rw [hM]
    have hw : IntKind.i64.wrap ((L.length : Int) - 3) = (L.length : Int) - 3 := IntWalk.i64_in _ (by omega)
    have hd : decide ((L.length : Int) - 3 < 1) = true := decide_eq_true (by omega)
    clear hx hM h4
    go_enter Tryz.func37, Tryz.ntmps37
    go_wp2_with fail
    go_ret
    exact ⟨rfl, Below.refl _ _⟩
  obtain ⟨N, hN⟩ : ∃ N, L.length = N + 3 := ⟨L.length - 3, by omega⟩
  obtain ⟨p0, hp0⟩ : ∃ p, L[0]? = some p := ⟨_, List.getElem?_eq_getElem (by omega)⟩
  obtain ⟨p1, hp1⟩ : ∃ p, L[N + 1]? = some p := ⟨_, List.getElem?_eq_getElem (by omega)⟩
  obtain ⟨p2, hp2⟩ : ∃ p, L[N + 2]? = some p := ⟨_, List.getElem?_eq_getElem (by omega)⟩
  have hM : multiB (L.map Piece.code) = ((p2.code == 174) && decide (smallB p1.code = (N : Int)) && decide (1 ≤ smallB p0.code) && decide (smallB p0.code ≤ (N : Int)) && !((L.drop 1).take N).any (fun p => p.code != 33)) := by
    unfold multiB
    rw [List.length_map, if_neg h4, hN, show N + 3 - 1 = N + 2 by omega, show N + 3 - 2 = N + 1 by omega, show N + 3 - 3 = N by omega, code_at hp0, code_at hp1, code_at hp2, show ((N + 3 : Nat) : Int) - 3 = (N : Int) by omega, ← List.map_drop, ← List.map_take, List.any_map]
    rfl
  obtain ⟨A', c', e, h1, h2, h3⟩ := hx
  obtain ⟨e1, _, e3⟩ := Value.slice.inj e
  subst e1 e3
  obtain ⟨b, o, rfl, hb, hc⟩ := h3 (by rintro rfl; simp at hN)
  have q0 : w.cell? ⟨b, o, none⟩ = some (.int .u8 (p0.code.toNat : Int)) := (hc 0 _ hp0).1
  have q1 : w.cell? ⟨b, o + (N + 1) * 2, none⟩ = some (.int .u8 (p1.code.toNat : Int)) := (hc _ _ hp1).1
  have q2 : w.cell? ⟨b, o + (N + 2) * 2, none⟩ = some (.int .u8 (p2.code.toNat : Int)) := (hc _ _ hp2).1
  have HSUB := Lib.hid (ops_drop ⟨_, _, rfl, h1, h2, fun _ => ⟨b, o, rfl, hb, hc⟩⟩ hN)
  rw [hM, hN]
  rw [hN] at h1
  have hN1 : 1 ≤ N := by omega
  have hNb : N ≤ 60000000 := by omega
  unfold maxLen at h2
  have hw : IntKind.i64.wrap ((N : Int) + 3 - 3) = (N : Int) := by rw [show (N : Int) + 3 - 3 = (N : Int) by omega]; exact IntWalk.i64_in _ (by omega)
  have d0 : decide ((N : Int) < 1) = false := decide_eq_false (by omega)
  have t2 : ((N : Int) + 2).toNat = N + 2 := by omega
  have t1 : ((N : Int) + 1).toNat = N + 1 := by omega
  have i2 : (0 : Int) ≤ (N : Int) + 2 := by omega
  have i2' : (N : Int) + 2 < (N : Int) + 3 := by omega
  have i1 : (0 : Int) ≤ (N : Int) + 1 := by omega
  have i1' : (N : Int) + 1 < (N : Int) + 3 := by omega
  have i0' : (0 : Int) < (N : Int) + 3 := by omega
  have b2 := p2.code.toNat_lt
  have HS1 := Lib.hid (fun W => small_any p1.code W)
  have HS0 := Lib.hid (fun W => small_any p0.code W)
  have sb1 := smallB_bd p1.code
  have sb0 := smallB_bd p0.code
  obtain ⟨s1, hs1⟩ : ∃ s, s = smallB p1.code := ⟨_, rfl⟩
  obtain ⟨s0, hs0⟩ : ∃ s, s = smallB p0.code := ⟨_, rfl⟩
  obtain ⟨u1, hu1⟩ : ∃ s : Int, s = (p1.code.toNat : Int) := ⟨_, rfl⟩
  obtain ⟨u0, hu0⟩ : ∃ s : Int, s = (p0.code.toNat : Int) := ⟨_, rfl⟩
  rw [← hu1] at q1 HS1
  rw [← hu0] at q0 HS0
  rw [← hs1] at HS1 sb1 ⊢
  rw [← hs0] at HS0 sb0 ⊢
  clear hc h3 e hM hp0 hp1 hp2 hN h4 hl hs1 hs0 hu1 hu0
  by_cases c2 : p2.code = 174
  · rw [c2] at q2 ⊢
    have q2' : w.cell? ⟨b, o + (N + 2) * 2, none⟩ = some (.int .u8 174) := q2
    clear q2 c2
    by_cases c1 : s1 = (N : Int)
    · subst c1
      have e1 : decide (1 ≤ s0) = false ∨ decide (1 ≤ s0) = true := by cases decide (1 ≤ s0) <;> simp
      by_cases c0 : 1 ≤ s0
      · have e1 : decide (1 ≤ s0) = true := decide_eq_true c0
        by_cases c3 : s0 ≤ (N : Int)
        · have e3 : decide (s0 ≤ (N : Int)) = true := decide_eq_true c3
          have HC := Lib.hid (contains_key B _ ((L.drop 1).take N) w HSUB.out hB)
          obtain ⟨R, hR⟩ : ∃ R, R = ((L.drop 1).take N).any (fun p => p.code != 33) := ⟨_, rfl⟩
          rw [← hR] at HC ⊢
          rw [e1, e3]
          clear hR
          go_enter Tryz.func37, Tryz.ntmps37
          go_wp2_with fail
          refine (HS1.out _).mono ?_
          rintro e w1 ⟨rfl, rfl⟩
          go_wp2_with fail
          refine (HS0.out _).mono ?_
          rintro e w1 ⟨rfl, rfl⟩
          go_wp2_with fail
          refine HC.out.mono ?_
          rintro e w1 ⟨rfl, hb1⟩
          go_wp2_with fail
          go_ret
          exact ⟨by cases R <;> simp, hb1⟩
        · have e3 : decide (s0 ≤ (N : Int)) = false := decide_eq_false c3
          rw [e1, e3]
          go_enter Tryz.func37, Tryz.ntmps37
          go_wp2_with fail
          refine (HS1.out _).mono ?_
          rintro e w1 ⟨rfl, rfl⟩
          go_wp2_with fail
          refine (HS0.out _).mono ?_
          rintro e w1 ⟨rfl, rfl⟩
          go_wp2_with fail
          go_ret
          exact ⟨by simp, Below.refl _ _⟩
      · have e1 : decide (1 ≤ s0) = false := decide_eq_false c0
        rw [e1]
        go_enter Tryz.func37, Tryz.ntmps37
        go_wp2_with fail
        refine (HS1.out _).mono ?_
        rintro e w1 ⟨rfl, rfl⟩
        go_wp2_with fail
        refine (HS0.out _).mono ?_
        rintro e w1 ⟨rfl, rfl⟩
        go_wp2_with fail
        go_ret
        exact ⟨by simp, Below.refl _ _⟩
    · have e1 : (s1 != (N : Int)) = true := by simpa using c1
      rw [decide_eq_false c1]
      go_enter Tryz.func37, Tryz.ntmps37
      go_wp2_with fail
      refine (HS1.out _).mono ?_
      rintro e w1 ⟨rfl, rfl⟩
      go_wp2_with fail
      go_ret
      exact ⟨by simp, Below.refl _ _⟩
  · have e2 : ((p2.code.toNat : Int) != 174) = true := by
      simp only [bne_iff_ne, ne_eq]
      intro h
      exact c2 (u8_ext (by show p2.code.toNat = 174; omega))
    have e2b : (p2.code == 174) = false := by simpa using c2
    rw [e2b]
    clear c2 e2b
    go_enter Tryz.func37, Tryz.ntmps37
    go_wp2_with fail
    go_ret
    exact ⟨by simp, Below.refl _ _⟩
end Go.Proofs.YtocblkacdoahfaaGreatDoor.Sn
