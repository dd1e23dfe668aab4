/-
  PayMulti, of the program. Conditions: twenty keys at most, forty bytes each.
-/
import Derived.Test.YtadgaeokiolmmaaSnBag
namespace Go.Proofs.Ytadgaeokiolmmaa
open Go.RowKit

def flatK (ks : List (List UInt8)) : List UInt8 := (ks.map (fun k => 33 :: k)).flatten
def multiForm (m : Int) (ks : List (List UInt8)) : List UInt8 := (vcode m :: flatK ks) ++ [vcode (ks.length : Int)] ++ [174]
def mE (m : Int) (ks : List (List UInt8)) : Int := if m < 1 ∨ (ks.length : Int) < m ∨ 16 < ks.length then 1 else if ks.any (fun k => k.length != 33) = true then 3 else 0
def mF (m : Int) (ks : List (List UInt8)) : List UInt8 := if mE m ks = 0 then multiForm m ks else []
/-- What PayMulti answers. -/
def PayMV (w : World) (m : Int) (ks : List (List UInt8)) (e : Ending) (w' : World) : Prop :=
  ∃ A c, e = .returned (.tuple #[.slice A (mF m ks).length c, .int .i64 (mE m ks)]) ∧ Byt w' w'.heap.size (.slice A (mF m ks).length c) (mF m ks) ∧ Below w.heap.size w w'
theorem payMV_no {w w' : World} {m k : Int} {ks : List (List UInt8)} (h : mE m ks = k) (hk : k ≠ 0) (hb : Below w.heap.size w w') : PayMV w m ks (.returned (.tuple #[.slice none 0 0, .int .i64 k])) w' := by
  subst h
  unfold PayMV mF
  rw [if_neg hk]
  exact ⟨none, 0, rfl, Byt.nil _ _, hb⟩
theorem payMV_ok {w w' : World} {m : Int} {ks : List (List UInt8)} {u : Value} (h : mE m ks = 0) (ho : OwnB w' w.heap.size u (multiForm m ks)) (hb : Below w.heap.size w w') : PayMV w m ks (.returned (.tuple #[u, .int .i64 0])) w' := by
  unfold PayMV mF
  rw [if_pos h, h]
  obtain ⟨A, c, rfl⟩ := own_form ho
  exact ⟨A, c, rfl, Byt.of_own ho, hb⟩
theorem flatK_snoc (ks : List (List UInt8)) (k : List UInt8) : flatK (ks ++ [k]) = flatK ks ++ (33 :: k) := by unfold flatK; simp
theorem flatK_len {ks : List (List UInt8)} (h : ks.any (fun k => k.length != 33) = false) : (flatK ks).length = 34 * ks.length := by
  induction ks with
  | nil => rfl
  | cons k ks ih =>
    rw [List.any_cons, Bool.or_eq_false_iff] at h
    have hk : k.length = 33 := by simpa using h.1
    have := ih h.2
    unfold flatK at this ⊢
    rw [List.map_cons, List.flatten_cons, List.length_append, this, List.length_cons, hk, List.length_cons]
    omega
theorem anyk_take {ks : List (List UInt8)} {f : List UInt8 → Bool} (h : ks.any f = false) (n : Nat) : (ks.take n).any f = false := by
  rw [List.any_eq_false] at h ⊢
  exact fun x hx => h x (List.mem_of_mem_take hx)
theorem push_key {k : List UInt8} (h : k.length = 33) : pushB k = 33 :: k := by
  have := push_prog k (by omega) (by omega)
  rw [h] at this
  exact this

set_option maxRecDepth 100000 in
set_option maxHeartbeats 6400000 in
theorem payMulti_any (m : Int) (B : Nat) (x : Value) (L : List (Value × List UInt8)) (w : World) (h0 : -9223372036854775808 ≤ m) (h1 : m ≤ 9223372036854775807) (hx : BagR w B x L) (hB : B ≤ w.heap.size) (hl : L.length ≤ 20) (hk40 : ∀ p ∈ L, p.2.length ≤ 40) :
    Calls Try.prog 39 #[.int .i64 m, x] w (PayMV w m (L.map (·.2))) := by
  obtain ⟨i0, hi, hz0, hz1, hz2⟩ := info_parts info_u8
  have HX := Lib.hid hx
  obtain ⟨A, c, rfl⟩ := hx.form
  have hE0 : mE m (L.map (·.2)) = if m < 1 ∨ (L.length : Int) < m ∨ 16 < L.length then 1 else if L.any (fun p => p.2.length != 33) = true then 3 else 0 := by
    unfold mE
    rw [List.length_map, List.any_map]
    rfl
  clear hx
  by_cases a1 : m < 1
  · rw [if_pos (.inl a1)] at hE0
    have HE := Lib.hid hE0
    clear hE0
    go_enter Try.func39, Try.ntmps39
    go_wp2_with fail
    go_ret2
    exact payMV_no HE.out (by decide) (Below.refl _ _)
  have d1 : decide (m < 1) = false := decide_eq_false a1
  by_cases a2 : (L.length : Int) < m
  · rw [if_pos (.inr (.inl a2))] at hE0
    have HE := Lib.hid hE0
    clear hE0 a1
    go_enter Try.func39, Try.ntmps39
    go_wp2_with fail
    go_ret2
    exact payMV_no HE.out (by decide) (Below.refl _ _)
  have d2 : decide ((L.length : Int) < m) = false := decide_eq_false a2
  by_cases a3 : 16 < L.length
  · rw [if_pos (.inr (.inr a3))] at hE0
    have d3 : decide ((16 : Int) < (L.length : Int)) = true := decide_eq_true (by omega)
    have HE := Lib.hid hE0
    clear hE0 a1 a2 a3
    go_enter Try.func39, Try.ntmps39
    go_wp2_with fail
    go_ret2
    exact payMV_no HE.out (by decide) (Below.refl _ _)
  have d3 : decide ((16 : Int) < (L.length : Int)) = false := decide_eq_false (by omega)
  rw [if_neg (by omega)] at hE0
  have HC := Lib.hid (contains_long B _ L w HX.out hB)
  obtain ⟨R, hR⟩ : ∃ R, R = L.any (fun p => p.2.length != 33) := ⟨_, rfl⟩
  rw [← hR] at hE0 HC
  have HR := Lib.hid hR
  have m0 : 0 ≤ m := by omega
  have m16 : m ≤ 16 := by omega
  have l16 : L.length ≤ 16 := by omega
  have hpm := push_small m m0 m16
  have hpn := push_small (L.length : Int) (by omega) (by omega)
  have HM := Lib.hid (fun W => pushNumber_any m W h0 h1)
  have HN := Lib.hid (fun W => pushNumber_any (L.length : Int) W (by omega) (by omega))
  rw [hpm] at HM
  rw [hpn] at HN
  have HE := Lib.hid hE0
  clear hE0 a1 a2 a3 hR hpm hpn
  cases R with
  | true =>
    go_enter Try.func39, Try.ntmps39
    go_wp2_with fail
    refine HC.out.mono ?_
    rintro e w1 ⟨rfl, hb1⟩
    go_wp2_with fail
    go_ret2
    exact payMV_no (by rw [HE.out]; exact if_pos trivial) (by decide) hb1
  | false =>
    have hall : ∀ p ∈ L, p.2.length = 33 := fun p hp => by
      have h := HR.out.symm
      rw [List.any_eq_false] at h
      simpa using h p hp
    have hks : (L.map (·.2)).any (fun k => k.length != 33) = false := by rw [List.any_map]; exact HR.out.symm
    have HALL := Lib.hid hall
    have HKS := Lib.hid hks
    clear hall hks
    go_enter Try.func39, Try.ntmps39
    go_wp2_with fail
    refine HC.out.mono ?_
    rintro e w1 ⟨rfl, hb1⟩
    have HB1 := Lib.hid hb1
    clear hb1
    go_wp2_with fail
    refine (HM.out _).mono ?_
    intro e w2 hfr
    obtain ⟨u2, rfl, hown2, hb2⟩ := fresh_v hfr
    have HO2 := Lib.hid (own_base hown2 HB1.out.size)
    have HB2 := Lib.hid (HB1.out.trans (hb2.mono HB1.out.size))
    clear hfr hown2 hb2
    go_wp2_with fail
    go_loopw [6, 28] (fun s t wr => ∃ (k : Nat) (v : Value), v = s ∧ k ≤ L.length ∧ t = .int .i64 (k : Int) ∧ Hid (OwnB wr w.heap.size v (vcode m :: flatK ((L.map (·.2)).take k))) ∧ Hid (Below w.heap.size w wr)) (fun _ t _ => L.length - (intOf t).toNat)
    case atStart => exact ⟨0, _, rfl, Nat.zero_le _, rfl, HO2, HB2⟩
    case round =>
      obtain ⟨k, v, hv, hk, rfl, hown, hbel⟩ := hrel
      subst hv
      by_cases hlt : k < L.length
      · obtain ⟨⟨A', c', e0, _, _, h4⟩, h5⟩ := HX.out.below (hbel.out.mono hB)
        obtain ⟨e1, e2, e3⟩ := Value.slice.inj e0
        subst e1 e3
        clear e2
        obtain ⟨b, o, rfl, hb, hc⟩ := h4 (by rintro rfl; simp at hlt)
        have hc0 := hc k _ (List.getElem?_eq_getElem hlt)
        have hby := h5 _ (List.getElem_mem hlt)
        have h33 := HALL.out _ (List.getElem_mem hlt)
        have hjt : flatK ((L.map (·.2)).take (k + 1)) = flatK ((L.map (·.2)).take k) ++ (33 :: L[k].2) := by
          rw [List.take_succ_eq_append_getElem (by rw [List.length_map]; exact hlt), flatK_snoc, List.getElem_map]
        have hfl := flatK_len (anyk_take HKS.out k)
        rw [List.length_take, List.length_map, Nat.min_eq_left (by omega)] at hfl
        obtain ⟨⟨pd, ys⟩, hpe⟩ : ∃ p, p = L[k] := ⟨_, rfl⟩
        rw [← hpe] at hc0 hby hjt h33
        dsimp only at hc0 hby hjt h33
        obtain ⟨Ad, cd, rfl⟩ := hby.form
        have HP := Lib.hid (push_any B _ ys wr hby (Nat.le_trans hB hbel.out.size) (by omega))
        rw [push_key h33] at HP
        have HJT := Lib.hid hjt
        have hdk : decide (k < L.length) = true := decide_eq_true hlt
        have HBN := Lib.hid (And.intro hfl h33)
        clear hc h4 h5 e0 hby hjt hpe hfl h33
        go_wp2_with fail
        refine HP.out.mono ?_
        intro e w3 hfr
        obtain ⟨u3, rfl, hown3, hb3⟩ := fresh_v hfr
        have HO3 := Lib.hid (own_turns hown.out (Turns.of_below (S := fun _ => False) hb3) (fun _ _ h => h))
        have HY3 := Lib.hid (Byt.of_own hown3)
        have HB3 := Lib.hid (hbel.out.trans (hb3.mono hbel.out.size))
        clear hfr hown3 hb3
        go_wp2_with (at_builtin; refine wpList_append_bytes rfl (.tmp 32) (.tmp 34) 22 rfl w.heap.size 5 i0 slice_u8 hi hz0 hz1 hz2 _ _ _ rfl HO3.out _ _ (33 :: ys) rfl HY3.out (by have := HBN.out; simp; omega) HB3.out.size ?_; intro v5 w5 hown5 hg5 hat5)
        have ho5 : OwnB w5 w.heap.size v5 (vcode m :: flatK ((L.map (·.2)).take (k + 1))) := by rw [HJT.out]; exact own_b hown5 rfl
        have hb5 : Below w.heap.size w w5 := HB3.out.grown hg5 HB3.out.size (fun j hj => (World.ownsRow.lt HO3.out j hj).1)
        have HO5 := Lib.hid ho5
        have HB5 := Lib.hid hb5
        clear hown5 hg5 hat5 ho5 hb5
        go_roundw
        case rel => exact ⟨k + 1, _, rfl, by omega, by go_num, HO5, HB5⟩
        case measure => simp [intOf]; omega
      · obtain rfl : k = L.length := by omega
        have ho := hown.out
        rw [List.take_of_length_le (by rw [List.length_map]; exact Nat.le_refl _)] at ho
        obtain ⟨A6, c6, rfl⟩ := own_form ho
        have HO := Lib.hid ho
        clear ho
        have hfl := flatK_len HKS.out
        rw [List.length_map] at hfl
        have hvl : (vcode m :: flatK (L.map (·.2))).length = 34 * L.length + 1 := by rw [List.length_cons, hfl]
        go_wp2_with fail
        refine (HN.out _).mono ?_
        intro e w6 hfr
        obtain ⟨u6, rfl, hown6, hb6⟩ := fresh_v hfr
        obtain ⟨A7, c7, rfl⟩ := own_form hown6
        have B6 := Lib.hid (hbel.out.trans (hb6.mono hbel.out.size))
        have y1 : Byt (w6.alloc (.cells #[.int .u8 174] 5)) (w6.alloc (.cells #[.int .u8 174] 5)).heap.size _ _ := (byt_later ((Byt.of_own HO.out).below hb6) (.cells #[.int .u8 174] 5)).more (by have := hb6.size; simp; omega)
        have y2 : Byt (w6.alloc (.cells #[.int .u8 174] 5)) (w6.alloc (.cells #[.int .u8 174] 5)).heap.size _ _ := (byt_later (Byt.of_own hown6) (.cells #[.int .u8 174] 5)).more (by simp)
        have y3 : Byt (w6.alloc (.cells #[.int .u8 174] 5)) (w6.alloc (.cells #[.int .u8 174] 5)).heap.size (.slice (some ⟨w6.heap.size, 0, none⟩) 1 1) [174] := (Byt.made w6 5 [.int .u8 174] [174] rfl (by unfold maxLen; simp)).more (by simp)
        obtain ⟨F, hF⟩ : ∃ F, F = vcode m :: flatK (L.map (·.2)) := ⟨_, rfl⟩
        rw [← hF] at y1 hvl
        have bag := BagR.made (w6.alloc (.cells #[.int .u8 174] 5)) 22 [.slice A6 F.length c6, .slice A7 [vcode (L.length : Int)].length c7, .slice (some ⟨w6.heap.size, 0, none⟩) 1 1]
          [(.slice A6 F.length c6, F), (.slice A7 [vcode (L.length : Int)].length c7, [vcode (L.length : Int)]), (.slice (some ⟨w6.heap.size, 0, none⟩) 1 1, [174])] rfl (by unfold maxLen; simp)
          (by intro p hp; simp only [List.mem_cons, List.not_mem_nil, or_false] at hp; rcases hp with rfl | rfl | rfl; exact y1; exact y2; exact y3)
        rw [World.size_alloc] at bag
        have ej : joined [((.slice A6 F.length c6 : Value), F), (.slice A7 [vcode (L.length : Int)].length c7, [vcode (L.length : Int)]), (.slice (some ⟨w6.heap.size, 0, none⟩) 1 1, [174])] = multiForm m (L.map (·.2)) := by
          unfold joined multiForm
          rw [hF, List.length_map]
          simp
        have hconc := concat_any _ _ _ _ bag (by simp) (by unfold total; simp; omega)
        rw [ej] at hconc
        have CONC := Lib.hid hconc
        have hl1 : [vcode (L.length : Int)].length = 1 := rfl
        rw [hl1] at CONC
        rw [hl1, ← hF]
        clear hconc ej bag y1 y2 y3 hl1 hF hvl hfl hfr hown6 hb6
        go_wp2_with fail
        refine CONC.out.mono ?_
        intro e w8 hfr
        obtain ⟨u8, rfl, hown8, hb8⟩ := fresh_v hfr
        have HO8 := Lib.hid (own_base hown8 (by have := B6.out.size; simp; omega : w.heap.size ≤ _))
        have B8 := Lib.hid (((B6.out.alloc B6.out.size (.cells #[.int .u8 174] 5)).alloc (by have := B6.out.size; simp; omega) (.cells #[.slice A6 F.length c6, .slice A7 1 c7, .slice (some ⟨w6.heap.size, 0, none⟩) 1 1] 22)).trans (hb8.mono (by have := B6.out.size; simp; omega)))
        clear hfr hown8 hb8
        go_wp2_with fail
        go_ret2
        exact payMV_ok (by rw [HE.out, if_neg (by decide)]) HO8.out B8.out
end Go.Proofs.Ytadgaeokiolmmaa
