/-
  FeesEstimates and FeesGrows return true. Conditions: the acts are data.
-/
import Derived.Test.YtjhlkcbcgjcdlaaFeAwake
import Derived.Test.YtjhlkcbcgjcdlaaFePlay
namespace Go.Proofs.Ytjhlkcbcgjcdlaa
open Go.RowKit

theorem ok_played {al : List AcP} (h : ∀ a ∈ al, a.ok) : Ok 60 (playF al) := by
  have := ok_play (al.take 60) ok_zero (fun x hx => h x (List.mem_of_mem_take hx))
  exact Ok.more this (by rw [List.length_take]; omega)
/-- Played, and what came of it laid beside. -/
theorem beside {w w2 : World} {g : Nat} {m : Option Nat} {S : Bs} {us zs : List Value} (ho : Owned w w2 7 g m S) (hr : RefV w2 7 us S) :
    Owned w ((w2.alloc (.cells zs.toArray 31)).setRow w2.heap.size us.toArray) 7 g m S ∧ RefV ((w2.alloc (.cells zs.toArray 31)).setRow w2.heap.size us.toArray) 7 us S ∧
      VRow ((w2.alloc (.cells zs.toArray 31)).setRow w2.heap.size us.toArray) w2.heap.size 31 us := by
  have b : Below w2.heap.size w2 ((w2.alloc (.cells zs.toArray 31)).setRow w2.heap.size us.toArray) := below_setRow ((Below.refl _ w2).alloc (Nat.le_refl _) _) (Nat.le_refl _) _
  exact ⟨ho.below b, hr.below b, (VRow.new w2 _ zs).setRow us⟩

set_option maxRecDepth 100000 in
set_option maxHeartbeats 6400000 in
theorem lawE_any (v : Value) (al : List AcP) (t p : Int) (w : World) (hv : ActS w w.heap.size v al) (ht1 : -9223372036854775808 ≤ t) (ht2 : t ≤ 9223372036854775807) (hp1 : -9223372036854775808 ≤ p) (hp2 : p ≤ 9223372036854775807) :
    Calls Try.prog 4 #[v, .int .i64 t, .int .i64 p] w fun e w' => e = .returned (.bool true) ∧ Below w.heap.size w w' := by
  have hok : Ok 60 (playF al) := by obtain ⟨_, _, _, _, h, _⟩ := hv; exact ok_played h
  have hzr := zero_ref
  have hzl := zRef_len
  have hzi : (Try.prog.info? 31).map (·.size) = some zRef.length := by rw [zRef_len]; exact info_refbook
  have HPL := Lib.hid (fun W h => played_any v al w W h hv)
  have HES := Lib.hid (fun g m S n W h1 h2 h3 => estimate_any 7 g n m S t p W h1 h2 h3 ht1 ht2 hp1 hp2)
  have HRE := Lib.hid (fun us S n W h1 h2 h3 => rest_any 7 n us S t p W h1 h2 h3 ht1 ht2)
  obtain ⟨ZS, hZS⟩ : ∃ ZS, ZS = zRef := ⟨_, rfl⟩
  rw [← hZS] at hzl hzi hzr
  obtain ⟨T, hT⟩ : ∃ T, T = playF al := ⟨_, rfl⟩
  rw [← hT] at hok
  simp only [← hT] at HPL
  have HOK := Lib.hid hok
  have HZL := Lib.hid hzl
  have HZI := Lib.hid hzi
  obtain ⟨X, hX⟩ : ∃ X, X = estX T t p := ⟨_, rfl⟩
  obtain ⟨E, hE⟩ : ∃ E, E = estE T t p := ⟨_, rfl⟩
  have HX := Lib.hid hX
  have HE := Lib.hid hE
  clear hv hok hzl hzi hZS hT hX hE
  go_enter Try.func4, Try.ntmps4
  go_wp2_with fail
  refine (awake_any _).mono ?_
  rintro e w1 ⟨rfl, hb1⟩
  have HB1 := Lib.hid hb1
  clear hb1
  go_wp2_with fail
  refine (HPL.out _ HB1.out).mono ?_
  rintro e w2 ⟨g, m, us, rfl, ho, hr⟩
  have HO := Lib.hid ho
  have HR := Lib.hid hr
  have HSZ := Lib.hid hr.size
  have H1 := Lib.hid hr.one
  have HL := Lib.hid (show ZS.length = us.length by rw [HZL.out, hr.1.len])
  clear ho hr
  go_upto_region 4 with (first
    | (refine wpList_store_vrow rfl 31 _ _ rfl rfl rfl (VRow.new _ _ ZS) HSZ.out HL.out H1.out ?_))
  change Code.wp _ _ _ _ ((w2.alloc (.cells ZS.toArray 31)).setRow w2.heap.size us.toArray)
  have hbs := beside (zs := ZS) HO.out HR.out
  obtain ⟨w3, hw3⟩ : ∃ z, z = ((w2.alloc (.cells ZS.toArray 31)).setRow w2.heap.size us.toArray) := ⟨_, rfl⟩
  obtain ⟨G, hG⟩ : ∃ z, z = w2.heap.size := ⟨_, rfl⟩
  rw [← hw3, ← hG] at hbs ⊢
  have HBS := Lib.hid hbs
  clear hbs hw3 hG
  go_wp2_with fail
  refine (HES.out _ _ _ _ _ HBS.out.1.1 HOK.out (by omega)).mono ?_
  rintro e w4 ⟨rfl, rfl⟩
  rw [← HX.out, ← HE.out]
  go_wp2_with (first
    | (refine wpList_load_vrow rfl 31 _ rfl rfl HBS.out.2.2 Try.underlying31 HSZ.out ?_))
  refine (HRE.out _ _ _ _ HBS.out.2.1 HOK.out (by omega)).mono ?_
  rintro e w5 ⟨rfl, hb5⟩
  rw [← HX.out, ← HE.out]
  have q1 : (X == X) = true := by simp
  have q2 : (E == E) = true := by simp
  have HB5 := Lib.hid (HBS.out.1.below hb5).2.1
  clear hb5
  go_wp2_with fail
  exact bodyPost_ret (results_tmp rfl _ _ _) rfl ⟨rfl, HB5.out⟩

theorem grows_t {n : Nat} {S : Bs} {t p : Int} (hS : Ok n S) (hE : estE S t p = 0) (ht : t < 12) : estE S (t + 1) p = 0 ∧ estX S (t + 1) p ≤ estX S t p := by
  unfold estE at hE ⊢
  unfold estX
  by_cases h : EArg t p
  · rw [if_pos h] at hE; cases hE
  · rw [if_neg h] at hE
    have h' : ¬ EArg (t + 1) p := by unfold EArg at h ⊢; omega
    have h1 : 1 ≤ t := by unfold EArg at h; omega
    rw [if_neg h', if_neg h', if_neg h]
    have hn : estB S t p ≠ 0 := fun q => by rw [if_pos q] at hE; cases hE
    have hg := est_grows hS (t := (t - 1).toNat) (t' := (t + 1 - 1).toNat) (by omega) (by omega) (p := p) (p' := p) (fun k hk => by
      have := hS.mo k (t - 1).toNat hk (by omega)
      rwa [show (t - 1).toNat + 1 = (t + 1 - 1).toNat by omega] at this) (Int.le_refl _) 24 (by omega) 0 0 0 0 (by omega) (by omega) (.inl rfl)
    have hg' : estB S (t + 1) p = estB S t p ∨ (0 < estB S (t + 1) p ∧ (estB S t p = 0 ∨ estB S (t + 1) p ≤ estB S t p)) := hg
    generalize estB S (t + 1) p = y at *
    generalize estB S t p = x at *
    exact ⟨if_neg (by omega), by omega⟩
theorem grows_p {n : Nat} {S : Bs} {t p : Int} (hS : Ok n S) (hE : estE S t p = 0) (hp : 1 < p) : estE S t (p - 1) = 0 ∧ estX S t (p - 1) ≤ estX S t p := by
  unfold estE at hE ⊢
  unfold estX
  by_cases h : EArg t p
  · rw [if_pos h] at hE; cases hE
  · rw [if_neg h] at hE
    have h' : ¬ EArg t (p - 1) := by unfold EArg at h ⊢; omega
    have h1 : 1 ≤ t ∧ t ≤ 12 := by unfold EArg at h; omega
    rw [if_neg h', if_neg h', if_neg h]
    have hn : estB S t p ≠ 0 := fun q => by rw [if_pos q] at hE; cases hE
    have hg := est_grows hS (t := (t - 1).toNat) (t' := (t - 1).toNat) (by omega) (by omega) (p := p) (p' := p - 1) (fun k hk => Int.le_refl _) (by omega) 24 (by omega) 0 0 0 0 (by omega) (by omega) (.inl rfl)
    have hg' : estB S t (p - 1) = estB S t p ∨ (0 < estB S t (p - 1) ∧ (estB S t p = 0 ∨ estB S t (p - 1) ≤ estB S t p)) := hg
    generalize estB S t (p - 1) = y at *
    generalize estB S t p = x at *
    exact ⟨if_neg (by omega), by omega⟩

set_option maxRecDepth 100000 in
set_option maxHeartbeats 6400000 in
theorem lawG_any (v : Value) (al : List AcP) (t p : Int) (w : World) (hv : ActS w w.heap.size v al) (ht1 : -9223372036854775808 ≤ t) (ht2 : t ≤ 9223372036854775807) (hp1 : -9223372036854775808 ≤ p) (hp2 : p ≤ 9223372036854775807) :
    Calls Try.prog 5 #[v, .int .i64 t, .int .i64 p] w fun e w' => e = .returned (.bool true) ∧ Below w.heap.size w w' := by
  have hok : Ok 60 (playF al) := by obtain ⟨_, _, _, _, h, _⟩ := hv; exact ok_played h
  have hzr := zero_ref
  have hzl := zRef_len
  have hzi : (Try.prog.info? 31).map (·.size) = some zRef.length := by rw [zRef_len]; exact info_refbook
  have HPL := Lib.hid (fun W h => played_any v al w W h hv)
  have HES := Lib.hid (fun g m S n W h1 h2 h3 => estimate_any 7 g n m S t p W h1 h2 h3 ht1 ht2 hp1 hp2)
  have HE1 := Lib.hid (fun g m S n W h1 h2 h3 h4 => estimate_any 7 g n m S (t + 1) p W h1 h2 h3 (by omega) (Int.add_one_le_of_lt (Int.lt_of_lt_of_le h4 (by decide : (12 : Int) ≤ 9223372036854775807))) hp1 hp2)
  have HE2 := Lib.hid (fun g m S n W h1 h2 h3 (h4 : 1 < p) => estimate_any 7 g n m S t (p - 1) W h1 h2 h3 ht1 ht2 (by omega) (by omega))
  obtain ⟨ZS, hZS⟩ : ∃ ZS, ZS = zRef := ⟨_, rfl⟩
  rw [← hZS] at hzl hzi hzr
  obtain ⟨T, hT⟩ : ∃ T, T = playF al := ⟨_, rfl⟩
  rw [← hT] at hok
  simp only [← hT] at HPL
  have HOK := Lib.hid hok
  have HZL := Lib.hid hzl
  have HZI := Lib.hid hzi
  have HGT := Lib.hid (fun q h => grows_t (t := t) (p := p) hok q h)
  have HGP := Lib.hid (fun q h => grows_p (t := t) (p := p) hok q h)
  have HT1 := Lib.hid (show estE T t p = 0 → 1 ≤ t ∧ 1 ≤ p ∧ t ≤ 12 ∧ p ≤ 100 from fun q => by
    unfold estE at q
    by_cases h : EArg t p
    · rw [if_pos h] at q; cases q
    · unfold EArg at h; omega)
  obtain ⟨X, hX⟩ : ∃ X, X = estX T t p := ⟨_, rfl⟩
  obtain ⟨E, hE⟩ : ∃ E, E = estE T t p := ⟨_, rfl⟩
  have HX := Lib.hid hX
  have HE := Lib.hid hE
  have HX2 := Lib.hid ht2
  clear hv hok hzl hzi hZS hT hX hE
  go_enter Try.func5, Try.ntmps5
  go_wp2_with fail
  refine (awake_any _).mono ?_
  rintro e w1 ⟨rfl, hb1⟩
  have HB1 := Lib.hid hb1
  clear hb1
  go_wp2_with fail
  refine (HPL.out _ HB1.out).mono ?_
  rintro e w2 ⟨g, m, us, rfl, ho, hr⟩
  have HO := Lib.hid ho
  have HR := Lib.hid hr
  have HSZ := Lib.hid hr.size
  have H1 := Lib.hid hr.one
  have HL := Lib.hid (show ZS.length = us.length by rw [HZL.out, hr.1.len])
  clear ho hr
  go_upto_region 4 with (first
    | (refine wpList_store_vrow rfl 31 _ _ rfl rfl rfl (VRow.new _ _ ZS) HSZ.out HL.out H1.out ?_))
  change Code.wp _ _ _ _ ((w2.alloc (.cells ZS.toArray 31)).setRow w2.heap.size us.toArray)
  have hbs := beside (zs := ZS) HO.out HR.out
  obtain ⟨w3, hw3⟩ : ∃ z, z = ((w2.alloc (.cells ZS.toArray 31)).setRow w2.heap.size us.toArray) := ⟨_, rfl⟩
  obtain ⟨G, hG⟩ : ∃ z, z = w2.heap.size := ⟨_, rfl⟩
  rw [← hw3, ← hG] at hbs ⊢
  have HBS := Lib.hid hbs
  clear hbs hw3 hG
  go_wp2_with fail
  refine (HES.out _ _ _ _ _ HBS.out.1.1 HOK.out (by omega)).mono ?_
  rintro e w4 ⟨rfl, rfl⟩
  rw [← HX.out, ← HE.out]
  by_cases hE0 : E = 0
  · have q1 : (E == 0) = true := by rw [hE0]; rfl
    have q3 : estE T t p = 0 := by rw [← HE.out]; exact hE0
    obtain ⟨t1, p1, t12, p100⟩ := HT1.out q3
    have Q3 := Lib.hid q3
    clear hE0 q3
    by_cases c1 : t < 12
    · have d1 : decide (t < 12) = true := decide_eq_true c1
      obtain ⟨e1, x1⟩ := HGT.out Q3.out c1
      have EE1 := Lib.hid e1
      have XX1 := Lib.hid x1
      have C1 := Lib.hid c1
      clear e1 x1
      go_wp2_with fail
      refine (HE1.out _ _ _ _ _ HBS.out.1.1 HOK.out (by omega) C1.out).mono ?_
      rintro e w5 ⟨rfl, rfl⟩
      rw [EE1.out]
      obtain ⟨Y, hY⟩ : ∃ Y, Y = estX T (t + 1) p := ⟨_, rfl⟩
      rw [← hY]
      have d2 : decide (X < Y) = false := decide_eq_false (by have := XX1.out; rw [← hY, ← HX.out] at this; omega)
      clear hY
      by_cases c2 : 1 < p
      · have d3 : decide (1 < p) = true := decide_eq_true c2
        obtain ⟨e1, x1⟩ := HGP.out Q3.out c2
        have EE2 := Lib.hid e1
        have XX2 := Lib.hid x1
        have C2 := Lib.hid c2
        clear e1 x1
        go_wp2_with fail
        refine (HE2.out _ _ _ _ _ HBS.out.1.1 HOK.out (by omega) C2.out).mono ?_
        rintro e w6 ⟨rfl, rfl⟩
        rw [EE2.out]
        obtain ⟨Z, hZ⟩ : ∃ Z, Z = estX T t (p - 1) := ⟨_, rfl⟩
        rw [← hZ]
        have d4 : decide (X < Z) = false := decide_eq_false (by have := XX2.out; rw [← hZ, ← HX.out] at this; omega)
        clear hZ
        go_wp2_with fail
        exact bodyPost_ret (results_tmp rfl _ _ _) rfl ⟨rfl, HBS.out.1.2.1⟩
      · have d3 : decide (1 < p) = false := decide_eq_false c2
        go_wp2_with fail
        exact bodyPost_ret (results_tmp rfl _ _ _) rfl ⟨rfl, HBS.out.1.2.1⟩
    · have d1 : decide (t < 12) = false := decide_eq_false c1
      by_cases c2 : 1 < p
      · have d3 : decide (1 < p) = true := decide_eq_true c2
        obtain ⟨e1, x1⟩ := HGP.out Q3.out c2
        have EE2 := Lib.hid e1
        have XX2 := Lib.hid x1
        have C2 := Lib.hid c2
        clear e1 x1
        go_wp2_with fail
        refine (HE2.out _ _ _ _ _ HBS.out.1.1 HOK.out (by omega) C2.out).mono ?_
        rintro e w6 ⟨rfl, rfl⟩
        rw [EE2.out]
        obtain ⟨Z, hZ⟩ : ∃ Z, Z = estX T t (p - 1) := ⟨_, rfl⟩
        rw [← hZ]
        have d4 : decide (X < Z) = false := decide_eq_false (by have := XX2.out; rw [← hZ, ← HX.out] at this; omega)
        clear hZ
        go_wp2_with fail
        exact bodyPost_ret (results_tmp rfl _ _ _) rfl ⟨rfl, HBS.out.1.2.1⟩
      · have d3 : decide (1 < p) = false := decide_eq_false c2
        go_wp2_with fail
        exact bodyPost_ret (results_tmp rfl _ _ _) rfl ⟨rfl, HBS.out.1.2.1⟩
  · have q1 : (E == 0) = false := by simp [hE0]
    clear hE0
    go_wp2_with fail
    exact bodyPost_ret (results_tmp rfl _ _ _) rfl ⟨rfl, HBS.out.1.2.1⟩
end Go.Proofs.Ytjhlkcbcgjcdlaa
