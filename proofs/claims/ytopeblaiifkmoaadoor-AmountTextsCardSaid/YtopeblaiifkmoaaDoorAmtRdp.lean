/-
  The reference reads a text as an amount: its three loops. Conditions: none.
-/
import Derived.Test.YtopeblaiifkmoaaDoorAmtPar
namespace Go.Proofs.YtopeblaiifkmoaaDoor
open Go.RowKit

theorem v_i64 {a b : Int} (h : a = b) : Value.int .i64 a = .int .i64 b := by rw [h]
theorem all_not {l : List UInt8} {j : Nat} (h : j < l.length) (hd : dB l[j] = false) : l.all dB = false := by
  cases ha : l.all dB with
  | false => rfl
  | true => rw [List.all_eq_true.1 ha _ (List.getElem_mem h)] at hd; cases hd

set_option maxRecDepth 100000 in
set_option maxHeartbeats 4000000 in
theorem refParse_at (s : ByteArray) (K : Nat) (w : World) (hs : s.size ≤ 140737488351232) (hK : K ≤ s.size) (ha : (s.data.toList.take K).all dB = true) (hn : ∀ h : K < s.size, dB s[K] = false) :
    Calls Tryd.prog 22 #[.string s] w fun e w' => e = .returned (.tuple #[.int .i64 (parseR s K).1, .int .i64 (parseR s K).2]) ∧ w = w' := by
  obtain ⟨R, hR⟩ : ∃ R, R = parseR s K := ⟨_, rfl⟩
  rw [← hR]
  have HR := Lib.hid hR
  have HA := Lib.hid ha
  have HN := Lib.hid hn
  clear hR ha hn
  go_enter Tryd.func22, Tryd.ntmps22
  go_wp2
  go_loop [4, 5] (fun x i => ∃ k : Nat, k ≤ K ∧ i = .int .i64 k ∧ x = .int .i64 (capF 0 (s.data.toList.take k))) (fun _ i => K - (intOf i).toNat)
  case atStart => exact ⟨0, Nat.zero_le _, rfl, rfl⟩
  case round =>
    obtain ⟨k, hk, rfl, rfl⟩ := hrel
    by_cases hlt : k < K
    · obtain ⟨d0, d1⟩ := digit_at hlt hK HA.out
      have hks : k < s.size := by omega
      obtain ⟨b0, b1⟩ := capF_bd (s.data.toList.take k)
      have hsn := capF_snoc 0 (s.data.toList.take k) s[k]
      rw [← take_snoc' s k hks] at hsn
      obtain ⟨q0, q1⟩ := dvB_bd s[k]
      have hd : IntKind.u8.wrap ((s[k].toNat : Int) - 48) = dvB s[k] := rfl
      have HSN := Lib.hid hsn
      clear hsn
      generalize capF 0 (s.data.toList.take k) = g at *
      generalize hdv : dvB s[k] = d at *
      clear hdv
      by_cases hm : g ≤ 2100000000000000
      · go_wp2
        exact ⟨⟨k + 1, by omega, by go_num, by rw [HSN.out, if_pos hm]⟩, by simp [intOf]; omega⟩
      · go_wp2
        exact ⟨⟨k + 1, by omega, by go_num, by rw [HSN.out, if_neg hm]⟩, by simp [intOf]; omega⟩
    · obtain rfl : k = K := by omega
      clear hlt hk
      obtain ⟨b0, b1⟩ := capF_bd (s.data.toList.take k)
      obtain ⟨p, hp⟩ : ∃ p, p = s.data.toList.drop (k + 1) := ⟨_, rfl⟩
      have hpl1 : p.length ≤ s.size - (k + 1) := by rw [hp, List.length_drop, blen]; omega
      have hpl2 : s.size - (k + 1) ≤ p.length := by rw [hp, List.length_drop, blen]; omega
      have HPJ : Hid (∀ j (h : j < p.length), p[j] = s[k + 1 + j]'(by omega)) := Lib.hid (fun j h => by
        subst hp
        rw [List.getElem_drop]
        rfl)
      obtain ⟨K, hKk⟩ : ∃ K, K = k := ⟨_, rfl⟩
      subst hKk
      have hn0 : 0 ≤ capF 0 (s.data.toList.take K) := b0
      have HR0 : Hid (R = parseR s K) := HR
      unfold parseR at HR0
      rw [← hp] at HR0
      obtain ⟨n0, hn0e⟩ : ∃ n0, n0 = capF 0 (s.data.toList.take K) := ⟨_, rfl⟩
      rw [← hn0e] at HR0 hn0 b0 b1 ⊢
      clear hn0e hp
      have hnext : (h : K < s.size) → (s[K].toNat : Int) < 48 ∨ 57 < (s[K].toNat : Int) := fun h => by
        have := HN.out h
        unfold dB at this
        simp at this
        omega
      have HNX := Lib.hid hnext
      have hcK : (h : K < s.size) → s.data.toList[K]? = some s[K] := fun h => by rw [List.getElem?_eq_getElem (by rw [blen]; exact h)]; rfl
      have HCK := Lib.hid hcK
      have h0K : (h : 0 < s.size) → s.data.toList.head? = some s[0] := fun h => by rw [List.head?_eq_getElem?, List.getElem?_eq_getElem (by rw [blen]; exact h)]; rfl
      have H0K := Lib.hid h0K
      clear hnext hcK h0K
      by_cases hKz : K = 0
      · have HF : Hid (R = (0, 3)) := Lib.hid (by rw [HR0.out, if_pos (.inl hKz)])
        subst hKz
        by_cases hE : 0 < s.size
        · rcases HNX.out hE with hx | hx
          all_goals
            go_wp2
            go_ret2
            exact ⟨ret_two (by rw [HF.out]), rfl⟩
        · go_wp2
          go_ret2
          exact ⟨ret_two (by rw [HF.out]), rfl⟩
      have hp0 : 0 < s.size := by omega
      by_cases hz : 1 < K ∧ (s[0]'hp0).toNat = 48
      · obtain ⟨hz1, hz2⟩ := hz
        have HF : Hid (R = (0, 3)) := Lib.hid (by rw [HR0.out, if_pos (.inr ⟨hz1, by rw [H0K.out (by omega)]; congr 1; exact UInt8.toNat_inj.1 hz2⟩)])
        have hz3 : (((s[0]'hp0).toNat : Int) == 48) = true := by simp [hz2]
        have hnz : ((K : Int) == 0) = false := by simp; omega
        have hz4 : ((s[0]'hp0).toNat : Int) = 48 := by omega
        clear hz2
        by_cases hE : K < s.size
        · rcases HNX.out hE with hx | hx
          all_goals
            go_wp2
            go_ret2
            exact ⟨ret_two (by rw [HF.out]), rfl⟩
        · go_wp2
          go_ret2
          exact ⟨ret_two (by rw [HF.out]), rfl⟩
      have HR1 : Hid (R = if K < s.size ∧ (s.data.toList[K]? ≠ some 46 ∨ K + 1 = s.size ∨ 9 < s.size - K) then (0, 3) else if p.all dB then endR n0 p else (0, 3)) := Lib.hid (by
        rw [HR0.out, if_neg]
        rintro (h | ⟨h1, h2⟩)
        · exact hKz h
        · refine hz ⟨h1, ?_⟩
          rw [H0K.out (by omega)] at h2
          injection h2 with h2
          rw [h2]; rfl)
      clear HR0
      have hz' : K ≤ 1 ∨ (1 < K ∧ ((((s[0]'hp0).toNat : Int) == 48) = false)) := by
        by_cases h1 : 1 < K
        · refine .inr ⟨h1, ?_⟩
          have : (s[0]'hp0).toNat ≠ 48 := fun h => hz ⟨h1, h⟩
          simp; omega
        · exact .inl (by omega)
      clear hz
      by_cases hE : K < s.size
      · by_cases hc : (s[K].toNat : Int) = 46
        · have hc1 : ((s[K].toNat : Int) != 46) = false := by simp [hc]
          have hc2 : s.data.toList[K]? = some 46 := by rw [HCK.out hE]; congr 1; exact UInt8.toNat_inj.1 (by show s[K].toNat = 46; omega)
          have HC2 := Lib.hid hc2
          clear hc2
          by_cases he1 : K + 1 = s.size
          · have HF : Hid (R = (0, 3)) := Lib.hid (by rw [HR1.out, if_pos ⟨hE, .inr (.inl he1)⟩])
            have he2 : ((K : Int) + 1 == (s.size : Int)) = true := by simp; omega
            have hnz : ((K : Int) == 0) = false := by simp; omega
            have HE1 := Lib.hid he1
            clear he1
            rcases hz' with hz' | ⟨hz1, hz2⟩
            all_goals
              go_wp2
              go_ret2
              exact ⟨ret_two (by rw [HF.out]), rfl⟩
          have he2 : ((K : Int) + 1 == (s.size : Int)) = false := by simp; omega
          by_cases he3 : 9 < s.size - K
          · have HF : Hid (R = (0, 3)) := Lib.hid (by rw [HR1.out, if_pos ⟨hE, .inr (.inr he3)⟩])
            have hnz : ((K : Int) == 0) = false := by simp; omega
            have he4 : 9 < (s.size : Int) - (K : Int) := by omega
            rcases hz' with hz' | ⟨hz1, hz2⟩
            all_goals
              go_wp2
              go_ret2
              exact ⟨ret_two (by rw [HF.out]), rfl⟩
          · have HT : Hid (R = if p.all dB then endR n0 p else (0, 3)) := Lib.hid (by
              rw [HR1.out, if_neg]
              rintro ⟨_, h | h | h⟩
              · exact h HC2.out
              · exact he1 h
              · exact he3 h)
            have hp8 : p.length ≤ 8 := by omega
            have he4 : (s.size : Int) - (K : Int) ≤ 9 := by omega
            have hx : (s[K].toNat : Int) < 48 := by omega
            clear hc he1 he3
            rcases hz' with hz' | ⟨hz1, hz2⟩
            · have hnz : ((K : Int) == 0) = false := by simp; omega
              by_cases hg : 21000000 < n0
              · have HE : Hid (p.all dB = true → R = (0, 6)) := Lib.hid (fun h => by rw [HT.out, h, if_pos rfl]; unfold endR; rw [if_pos hg])
                go_wp2
                go_loop [4, 6, 8] (fun x l i => ∃ j : Nat, j ≤ p.length ∧ i = .int .i64 ((K : Int) + 1 + (j : Int)) ∧ l = .int .i64 (8 - (j : Int)) ∧ x = .int .i64 n0 ∧ Hid ((p.take j).all dB = true)) (fun _ _ i => (s.size + 1 - intOf i).toNat)
                case atStart => exact ⟨0, Nat.zero_le _, by simp, by simp, rfl, Lib.hid (by simp)⟩
                case round =>
                  obtain ⟨j, hj, rfl, rfl, rfl, hal⟩ := hrel
                  by_cases hjl : j < p.length
                  · have hix : K + 1 + j < s.size := by omega
                    have hpj : p[j] = s[K + 1 + j] := HPJ.out j hjl
                    have HPJ2 := Lib.hid hpj
                    clear hpj
                    by_cases z1 : (s[K + 1 + j].toNat : Int) < 48
                    · go_wp2
                      go_ret2
                      exact ⟨ret_two (by rw [HT.out, if_neg (by rw [all_not hjl (by rw [HPJ2.out]; unfold dB; simp; omega)]; simp)]), rfl⟩
                    by_cases z2 : 57 < (s[K + 1 + j].toNat : Int)
                    · go_wp2
                      go_ret2
                      exact ⟨ret_two (by rw [HT.out, if_neg (by rw [all_not hjl (by rw [HPJ2.out]; unfold dB; simp; omega)]; simp)]), rfl⟩
                    · go_wp2
                      refine ⟨⟨j + 1, by omega, ?_, ?_, rfl, Lib.hid ?_⟩, by simp [intOf]; omega⟩
                      · exact v_i64 (by omega)
                      · exact v_i64 (by omega)
                      · rw [take_snocL hjl, List.all_append, hal.out, HPJ2.out]
                        have : dB s[K + 1 + j] = true := by unfold dB; simp; omega
                        simp [this]
                  · have hjp : j = p.length := by omega
                    have hall : Hid (p.all dB = true) := Lib.hid (by have := hal.out; rw [hjp, List.take_length] at this; exact this)
                    have hexit : (s.size : Int) ≤ (K : Int) + 1 + (j : Int) := by omega
                    clear hal hjp hjl
                    go_wp2
                    go_loop [4, 6] (fun x l => ∃ j2 : Nat, j2 = j ∧ x = .int .i64 n0 ∧ l = .int .i64 (8 - (j : Int))) (fun _ _ => 0)
                    case atStart => exact ⟨j, rfl, rfl, rfl⟩
                    case round =>
                      obtain ⟨j2, rfl, rfl, rfl⟩ := hrel
                      by_cases hl0 : 0 < 8 - (j2 : Int)
                      all_goals (go_wp2 <;> (go_ret2; exact ⟨ret_two (by rw [HE.out hall.out]), rfl⟩))
              · have hg' : n0 ≤ 21000000 := by omega
                have HE : Hid (p.all dB = true → R = if 2100000000000000 < onF n0 p * 10 ^ (8 - p.length) then (0, 6) else (onF n0 p * 10 ^ (8 - p.length), 0)) := Lib.hid (fun h => by rw [HT.out, h, if_pos rfl]; unfold endR; rw [if_neg hg])
                go_wp2
                go_loop [4, 6, 8] (fun x l i => ∃ j : Nat, j ≤ p.length ∧ i = .int .i64 ((K : Int) + 1 + (j : Int)) ∧ l = .int .i64 (8 - (j : Int)) ∧ x = .int .i64 (onF n0 (p.take j)) ∧ Hid ((p.take j).all dB = true)) (fun _ _ i => (s.size + 1 - intOf i).toNat)
                case atStart => exact ⟨0, Nat.zero_le _, by simp, by simp, rfl, Lib.hid (by simp)⟩
                case round =>
                  obtain ⟨j, hj, rfl, rfl, rfl, hal⟩ := hrel
                  obtain ⟨o0, o1⟩ := onF_room hn0 hg' (p.take j) (by rw [List.length_take]; omega)
                  by_cases hjl : j < p.length
                  · have hix : K + 1 + j < s.size := by omega
                    have hpj : p[j] = s[K + 1 + j] := HPJ.out j hjl
                    have HPJ2 := Lib.hid hpj
                    have hsn := onF_snoc n0 (p.take j) p[j]
                    rw [← take_snocL hjl, hpj] at hsn
                    have HSN := Lib.hid hsn
                    obtain ⟨q0, q1⟩ := dvB_bd s[K + 1 + j]
                    have hd : IntKind.u8.wrap ((s[K + 1 + j].toNat : Int) - 48) = dvB s[K + 1 + j] := rfl
                    clear hpj hsn
                    generalize onF n0 (p.take j) = g at *
                    generalize hdv : dvB s[K + 1 + j] = d at *
                    clear hdv
                    by_cases z1 : (s[K + 1 + j].toNat : Int) < 48
                    · clear hd
                      go_wp2
                      go_ret2
                      exact ⟨ret_two (by rw [HT.out, if_neg (by rw [all_not hjl (by rw [HPJ2.out]; unfold dB; simp; omega)]; simp)]), rfl⟩
                    by_cases z2 : 57 < (s[K + 1 + j].toNat : Int)
                    · clear hd
                      go_wp2
                      go_ret2
                      exact ⟨ret_two (by rw [HT.out, if_neg (by rw [all_not hjl (by rw [HPJ2.out]; unfold dB; simp; omega)]; simp)]), rfl⟩
                    · go_wp2
                      refine ⟨⟨j + 1, by omega, ?_, ?_, by rw [HSN.out], Lib.hid ?_⟩, by simp [intOf]; omega⟩
                      · exact v_i64 (by omega)
                      · exact v_i64 (by omega)
                      · rw [take_snocL hjl, List.all_append, hal.out, HPJ2.out]
                        have : dB s[K + 1 + j] = true := by unfold dB; simp; omega
                        simp [this]
                  · have hjp : j = p.length := by omega
                    have hall : Hid (p.all dB = true) := Lib.hid (by have := hal.out; rw [hjp, List.take_length] at this; exact this)
                    have hexit : (s.size : Int) ≤ (K : Int) + 1 + (j : Int) := by omega
                    have htk : p.take j = p := by rw [hjp, List.take_length]
                    rw [htk] at o0 o1 ⊢
                    have HJP := Lib.hid hjp
                    clear hal htk hjp hjl
                    go_wp2
                    go_loop [4, 6] (fun x l => ∃ m : Nat, j + m ≤ 8 ∧ x = .int .i64 (onF n0 p * 10 ^ m) ∧ l = .int .i64 (8 - (j : Int) - (m : Int))) (fun _ l => (intOf l).toNat)
                    case atStart => exact ⟨0, by omega, by simp, by simp⟩
                    case round =>
                      obtain ⟨m, hm8, rfl, rfl⟩ := hrel
                      obtain ⟨r0, r1⟩ := pow_room hn0 p hg' m (by have := HJP.out; omega)
                      by_cases hl0 : j + m < 8
                      · have hps : onF n0 p * 10 ^ (m + 1) = 10 * (onF n0 p * 10 ^ m) := by rw [Int.pow_succ, ← Int.mul_assoc, Int.mul_comm 10]
                        have HPS := Lib.hid hps
                        clear hps
                        generalize onF n0 p * 10 ^ m = g2 at *
                        go_wp2
                        exact ⟨⟨m + 1, by omega, by rw [HPS.out], v_i64 (by omega)⟩, by simp [intOf]; omega⟩
                      · have hm : Hid (8 - p.length = m) := Lib.hid (by have := HJP.out; omega)
                        have hl0' : 8 - (j : Int) - (m : Int) ≤ 0 := by omega
                        have HR2 : Hid (R = if 2100000000000000 < onF n0 p * 10 ^ m then (0, 6) else (onF n0 p * 10 ^ m, 0)) := Lib.hid (by rw [HE.out hall.out, hm.out])
                        generalize onF n0 p * 10 ^ m = g2 at *
                        by_cases hbig : 2100000000000000 < g2
                        · go_wp2
                          go_ret2
                          exact ⟨ret_two (by rw [HR2.out, if_pos (by omega)]), rfl⟩
                        · go_wp2
                          go_ret2
                          exact ⟨ret_two (by rw [HR2.out, if_neg (by omega)]), rfl⟩

            · have hnz : ((K : Int) == 0) = false := by simp; omega
              by_cases hg : 21000000 < n0
              · have HE : Hid (p.all dB = true → R = (0, 6)) := Lib.hid (fun h => by rw [HT.out, h, if_pos rfl]; unfold endR; rw [if_pos hg])
                go_wp2
                go_loop [4, 6, 8] (fun x l i => ∃ j : Nat, j ≤ p.length ∧ i = .int .i64 ((K : Int) + 1 + (j : Int)) ∧ l = .int .i64 (8 - (j : Int)) ∧ x = .int .i64 n0 ∧ Hid ((p.take j).all dB = true)) (fun _ _ i => (s.size + 1 - intOf i).toNat)
                case atStart => exact ⟨0, Nat.zero_le _, by simp, by simp, rfl, Lib.hid (by simp)⟩
                case round =>
                  obtain ⟨j, hj, rfl, rfl, rfl, hal⟩ := hrel
                  by_cases hjl : j < p.length
                  · have hix : K + 1 + j < s.size := by omega
                    have hpj : p[j] = s[K + 1 + j] := HPJ.out j hjl
                    have HPJ2 := Lib.hid hpj
                    clear hpj
                    by_cases z1 : (s[K + 1 + j].toNat : Int) < 48
                    · go_wp2
                      go_ret2
                      exact ⟨ret_two (by rw [HT.out, if_neg (by rw [all_not hjl (by rw [HPJ2.out]; unfold dB; simp; omega)]; simp)]), rfl⟩
                    by_cases z2 : 57 < (s[K + 1 + j].toNat : Int)
                    · go_wp2
                      go_ret2
                      exact ⟨ret_two (by rw [HT.out, if_neg (by rw [all_not hjl (by rw [HPJ2.out]; unfold dB; simp; omega)]; simp)]), rfl⟩
                    · go_wp2
                      refine ⟨⟨j + 1, by omega, ?_, ?_, rfl, Lib.hid ?_⟩, by simp [intOf]; omega⟩
                      · exact v_i64 (by omega)
                      · exact v_i64 (by omega)
                      · rw [take_snocL hjl, List.all_append, hal.out, HPJ2.out]
                        have : dB s[K + 1 + j] = true := by unfold dB; simp; omega
                        simp [this]
                  · have hjp : j = p.length := by omega
                    have hall : Hid (p.all dB = true) := Lib.hid (by have := hal.out; rw [hjp, List.take_length] at this; exact this)
                    have hexit : (s.size : Int) ≤ (K : Int) + 1 + (j : Int) := by omega
                    clear hal hjp hjl
                    go_wp2
                    go_loop [4, 6] (fun x l => ∃ j2 : Nat, j2 = j ∧ x = .int .i64 n0 ∧ l = .int .i64 (8 - (j : Int))) (fun _ _ => 0)
                    case atStart => exact ⟨j, rfl, rfl, rfl⟩
                    case round =>
                      obtain ⟨j2, rfl, rfl, rfl⟩ := hrel
                      by_cases hl0 : 0 < 8 - (j2 : Int)
                      all_goals (go_wp2 <;> (go_ret2; exact ⟨ret_two (by rw [HE.out hall.out]), rfl⟩))
              · have hg' : n0 ≤ 21000000 := by omega
                have HE : Hid (p.all dB = true → R = if 2100000000000000 < onF n0 p * 10 ^ (8 - p.length) then (0, 6) else (onF n0 p * 10 ^ (8 - p.length), 0)) := Lib.hid (fun h => by rw [HT.out, h, if_pos rfl]; unfold endR; rw [if_neg hg])
                go_wp2
                go_loop [4, 6, 8] (fun x l i => ∃ j : Nat, j ≤ p.length ∧ i = .int .i64 ((K : Int) + 1 + (j : Int)) ∧ l = .int .i64 (8 - (j : Int)) ∧ x = .int .i64 (onF n0 (p.take j)) ∧ Hid ((p.take j).all dB = true)) (fun _ _ i => (s.size + 1 - intOf i).toNat)
                case atStart => exact ⟨0, Nat.zero_le _, by simp, by simp, rfl, Lib.hid (by simp)⟩
                case round =>
                  obtain ⟨j, hj, rfl, rfl, rfl, hal⟩ := hrel
                  obtain ⟨o0, o1⟩ := onF_room hn0 hg' (p.take j) (by rw [List.length_take]; omega)
                  by_cases hjl : j < p.length
                  · have hix : K + 1 + j < s.size := by omega
                    have hpj : p[j] = s[K + 1 + j] := HPJ.out j hjl
                    have HPJ2 := Lib.hid hpj
                    have hsn := onF_snoc n0 (p.take j) p[j]
                    rw [← take_snocL hjl, hpj] at hsn
                    have HSN := Lib.hid hsn
                    obtain ⟨q0, q1⟩ := dvB_bd s[K + 1 + j]
                    have hd : IntKind.u8.wrap ((s[K + 1 + j].toNat : Int) - 48) = dvB s[K + 1 + j] := rfl
                    clear hpj hsn
                    generalize onF n0 (p.take j) = g at *
                    generalize hdv : dvB s[K + 1 + j] = d at *
                    clear hdv
                    by_cases z1 : (s[K + 1 + j].toNat : Int) < 48
                    · clear hd
                      go_wp2
                      go_ret2
                      exact ⟨ret_two (by rw [HT.out, if_neg (by rw [all_not hjl (by rw [HPJ2.out]; unfold dB; simp; omega)]; simp)]), rfl⟩
                    by_cases z2 : 57 < (s[K + 1 + j].toNat : Int)
                    · clear hd
                      go_wp2
                      go_ret2
                      exact ⟨ret_two (by rw [HT.out, if_neg (by rw [all_not hjl (by rw [HPJ2.out]; unfold dB; simp; omega)]; simp)]), rfl⟩
                    · go_wp2
                      refine ⟨⟨j + 1, by omega, ?_, ?_, by rw [HSN.out], Lib.hid ?_⟩, by simp [intOf]; omega⟩
                      · exact v_i64 (by omega)
                      · exact v_i64 (by omega)
                      · rw [take_snocL hjl, List.all_append, hal.out, HPJ2.out]
                        have : dB s[K + 1 + j] = true := by unfold dB; simp; omega
                        simp [this]
                  · have hjp : j = p.length := by omega
                    have hall : Hid (p.all dB = true) := Lib.hid (by have := hal.out; rw [hjp, List.take_length] at this; exact this)
                    have hexit : (s.size : Int) ≤ (K : Int) + 1 + (j : Int) := by omega
                    have htk : p.take j = p := by rw [hjp, List.take_length]
                    rw [htk] at o0 o1 ⊢
                    have HJP := Lib.hid hjp
                    clear hal htk hjp hjl
                    go_wp2
                    go_loop [4, 6] (fun x l => ∃ m : Nat, j + m ≤ 8 ∧ x = .int .i64 (onF n0 p * 10 ^ m) ∧ l = .int .i64 (8 - (j : Int) - (m : Int))) (fun _ l => (intOf l).toNat)
                    case atStart => exact ⟨0, by omega, by simp, by simp⟩
                    case round =>
                      obtain ⟨m, hm8, rfl, rfl⟩ := hrel
                      obtain ⟨r0, r1⟩ := pow_room hn0 p hg' m (by have := HJP.out; omega)
                      by_cases hl0 : j + m < 8
                      · have hps : onF n0 p * 10 ^ (m + 1) = 10 * (onF n0 p * 10 ^ m) := by rw [Int.pow_succ, ← Int.mul_assoc, Int.mul_comm 10]
                        have HPS := Lib.hid hps
                        clear hps
                        generalize onF n0 p * 10 ^ m = g2 at *
                        go_wp2
                        exact ⟨⟨m + 1, by omega, by rw [HPS.out], v_i64 (by omega)⟩, by simp [intOf]; omega⟩
                      · have hm : Hid (8 - p.length = m) := Lib.hid (by have := HJP.out; omega)
                        have hl0' : 8 - (j : Int) - (m : Int) ≤ 0 := by omega
                        have HR2 : Hid (R = if 2100000000000000 < onF n0 p * 10 ^ m then (0, 6) else (onF n0 p * 10 ^ m, 0)) := Lib.hid (by rw [HE.out hall.out, hm.out])
                        generalize onF n0 p * 10 ^ m = g2 at *
                        by_cases hbig : 2100000000000000 < g2
                        · go_wp2
                          go_ret2
                          exact ⟨ret_two (by rw [HR2.out, if_pos (by omega)]), rfl⟩
                        · go_wp2
                          go_ret2
                          exact ⟨ret_two (by rw [HR2.out, if_neg (by omega)]), rfl⟩

        · have hne : s.data.toList[K]? ≠ some 46 := fun h => by
            rw [HCK.out hE] at h
            injection h with h
            exact hc (by rw [h]; rfl)
          have HF : Hid (R = (0, 3)) := Lib.hid (by rw [HR1.out, if_pos ⟨hE, .inl hne⟩])
          clear hne
          have hc1 : ((s[K].toNat : Int) != 46) = true := by simp [hc]
          have hnz : ((K : Int) == 0) = false := by simp; omega
          rcases HNX.out hE with hx | hx
          all_goals
            rcases hz' with hz' | ⟨hz1, hz2⟩
            all_goals
              go_wp2
              go_ret2
              exact ⟨ret_two (by rw [HF.out]), rfl⟩
      · have HT : Hid (R = if p.all dB then endR n0 p else (0, 3)) := Lib.hid (by rw [HR1.out, if_neg (fun h => hE h.1)])
        have hp8 : p.length ≤ 8 := by omega
        rcases hz' with hz' | ⟨hz1, hz2⟩
        · have hnz : ((K : Int) == 0) = false := by simp; omega
          by_cases hg : 21000000 < n0
          · have HE : Hid (p.all dB = true → R = (0, 6)) := Lib.hid (fun h => by rw [HT.out, h, if_pos rfl]; unfold endR; rw [if_pos hg])
            go_wp2
            go_loop [4, 6, 8] (fun x l i => ∃ j : Nat, j ≤ p.length ∧ i = .int .i64 ((K : Int) + 1 + (j : Int)) ∧ l = .int .i64 (8 - (j : Int)) ∧ x = .int .i64 n0 ∧ Hid ((p.take j).all dB = true)) (fun _ _ i => (s.size + 1 - intOf i).toNat)
            case atStart => exact ⟨0, Nat.zero_le _, by simp, by simp, rfl, Lib.hid (by simp)⟩
            case round =>
              obtain ⟨j, hj, rfl, rfl, rfl, hal⟩ := hrel
              by_cases hjl : j < p.length
              · exfalso; omega
              · have hjp : j = p.length := by omega
                have hall : Hid (p.all dB = true) := Lib.hid (by have := hal.out; rw [hjp, List.take_length] at this; exact this)
                have hexit : (s.size : Int) ≤ (K : Int) + 1 + (j : Int) := by omega
                clear hal hjp hjl
                go_wp2
                go_loop [4, 6] (fun x l => ∃ j2 : Nat, j2 = j ∧ x = .int .i64 n0 ∧ l = .int .i64 (8 - (j : Int))) (fun _ _ => 0)
                case atStart => exact ⟨j, rfl, rfl, rfl⟩
                case round =>
                  obtain ⟨j2, rfl, rfl, rfl⟩ := hrel
                  by_cases hl0 : 0 < 8 - (j2 : Int)
                  all_goals (go_wp2 <;> (go_ret2; exact ⟨ret_two (by rw [HE.out hall.out]), rfl⟩))
          · have hg' : n0 ≤ 21000000 := by omega
            have HE : Hid (p.all dB = true → R = if 2100000000000000 < onF n0 p * 10 ^ (8 - p.length) then (0, 6) else (onF n0 p * 10 ^ (8 - p.length), 0)) := Lib.hid (fun h => by rw [HT.out, h, if_pos rfl]; unfold endR; rw [if_neg hg])
            go_wp2
            go_loop [4, 6, 8] (fun x l i => ∃ j : Nat, j ≤ p.length ∧ i = .int .i64 ((K : Int) + 1 + (j : Int)) ∧ l = .int .i64 (8 - (j : Int)) ∧ x = .int .i64 (onF n0 (p.take j)) ∧ Hid ((p.take j).all dB = true)) (fun _ _ i => (s.size + 1 - intOf i).toNat)
            case atStart => exact ⟨0, Nat.zero_le _, by simp, by simp, rfl, Lib.hid (by simp)⟩
            case round =>
              obtain ⟨j, hj, rfl, rfl, rfl, hal⟩ := hrel
              obtain ⟨o0, o1⟩ := onF_room hn0 hg' (p.take j) (by rw [List.length_take]; omega)
              by_cases hjl : j < p.length
              · exfalso; omega
              · have hjp : j = p.length := by omega
                have hall : Hid (p.all dB = true) := Lib.hid (by have := hal.out; rw [hjp, List.take_length] at this; exact this)
                have hexit : (s.size : Int) ≤ (K : Int) + 1 + (j : Int) := by omega
                have htk : p.take j = p := by rw [hjp, List.take_length]
                rw [htk] at o0 o1 ⊢
                have HJP := Lib.hid hjp
                clear hal htk hjp hjl
                go_wp2
                go_loop [4, 6] (fun x l => ∃ m : Nat, j + m ≤ 8 ∧ x = .int .i64 (onF n0 p * 10 ^ m) ∧ l = .int .i64 (8 - (j : Int) - (m : Int))) (fun _ l => (intOf l).toNat)
                case atStart => exact ⟨0, by omega, by simp, by simp⟩
                case round =>
                  obtain ⟨m, hm8, rfl, rfl⟩ := hrel
                  obtain ⟨r0, r1⟩ := pow_room hn0 p hg' m (by have := HJP.out; omega)
                  by_cases hl0 : j + m < 8
                  · have hps : onF n0 p * 10 ^ (m + 1) = 10 * (onF n0 p * 10 ^ m) := by rw [Int.pow_succ, ← Int.mul_assoc, Int.mul_comm 10]
                    have HPS := Lib.hid hps
                    clear hps
                    generalize onF n0 p * 10 ^ m = g2 at *
                    go_wp2
                    exact ⟨⟨m + 1, by omega, by rw [HPS.out], v_i64 (by omega)⟩, by simp [intOf]; omega⟩
                  · have hm : Hid (8 - p.length = m) := Lib.hid (by have := HJP.out; omega)
                    have hl0' : 8 - (j : Int) - (m : Int) ≤ 0 := by omega
                    have HR2 : Hid (R = if 2100000000000000 < onF n0 p * 10 ^ m then (0, 6) else (onF n0 p * 10 ^ m, 0)) := Lib.hid (by rw [HE.out hall.out, hm.out])
                    generalize onF n0 p * 10 ^ m = g2 at *
                    by_cases hbig : 2100000000000000 < g2
                    · go_wp2
                      go_ret2
                      exact ⟨ret_two (by rw [HR2.out, if_pos (by omega)]), rfl⟩
                    · go_wp2
                      go_ret2
                      exact ⟨ret_two (by rw [HR2.out, if_neg (by omega)]), rfl⟩

        · have hnz : ((K : Int) == 0) = false := by simp; omega
          by_cases hg : 21000000 < n0
          · have HE : Hid (p.all dB = true → R = (0, 6)) := Lib.hid (fun h => by rw [HT.out, h, if_pos rfl]; unfold endR; rw [if_pos hg])
            go_wp2
            go_loop [4, 6, 8] (fun x l i => ∃ j : Nat, j ≤ p.length ∧ i = .int .i64 ((K : Int) + 1 + (j : Int)) ∧ l = .int .i64 (8 - (j : Int)) ∧ x = .int .i64 n0 ∧ Hid ((p.take j).all dB = true)) (fun _ _ i => (s.size + 1 - intOf i).toNat)
            case atStart => exact ⟨0, Nat.zero_le _, by simp, by simp, rfl, Lib.hid (by simp)⟩
            case round =>
              obtain ⟨j, hj, rfl, rfl, rfl, hal⟩ := hrel
              by_cases hjl : j < p.length
              · exfalso; omega
              · have hjp : j = p.length := by omega
                have hall : Hid (p.all dB = true) := Lib.hid (by have := hal.out; rw [hjp, List.take_length] at this; exact this)
                have hexit : (s.size : Int) ≤ (K : Int) + 1 + (j : Int) := by omega
                clear hal hjp hjl
                go_wp2
                go_loop [4, 6] (fun x l => ∃ j2 : Nat, j2 = j ∧ x = .int .i64 n0 ∧ l = .int .i64 (8 - (j : Int))) (fun _ _ => 0)
                case atStart => exact ⟨j, rfl, rfl, rfl⟩
                case round =>
                  obtain ⟨j2, rfl, rfl, rfl⟩ := hrel
                  by_cases hl0 : 0 < 8 - (j2 : Int)
                  all_goals (go_wp2 <;> (go_ret2; exact ⟨ret_two (by rw [HE.out hall.out]), rfl⟩))
          · have hg' : n0 ≤ 21000000 := by omega
            have HE : Hid (p.all dB = true → R = if 2100000000000000 < onF n0 p * 10 ^ (8 - p.length) then (0, 6) else (onF n0 p * 10 ^ (8 - p.length), 0)) := Lib.hid (fun h => by rw [HT.out, h, if_pos rfl]; unfold endR; rw [if_neg hg])
            go_wp2
            go_loop [4, 6, 8] (fun x l i => ∃ j : Nat, j ≤ p.length ∧ i = .int .i64 ((K : Int) + 1 + (j : Int)) ∧ l = .int .i64 (8 - (j : Int)) ∧ x = .int .i64 (onF n0 (p.take j)) ∧ Hid ((p.take j).all dB = true)) (fun _ _ i => (s.size + 1 - intOf i).toNat)
            case atStart => exact ⟨0, Nat.zero_le _, by simp, by simp, rfl, Lib.hid (by simp)⟩
            case round =>
              obtain ⟨j, hj, rfl, rfl, rfl, hal⟩ := hrel
              obtain ⟨o0, o1⟩ := onF_room hn0 hg' (p.take j) (by rw [List.length_take]; omega)
              by_cases hjl : j < p.length
              · exfalso; omega
              · have hjp : j = p.length := by omega
                have hall : Hid (p.all dB = true) := Lib.hid (by have := hal.out; rw [hjp, List.take_length] at this; exact this)
                have hexit : (s.size : Int) ≤ (K : Int) + 1 + (j : Int) := by omega
                have htk : p.take j = p := by rw [hjp, List.take_length]
                rw [htk] at o0 o1 ⊢
                have HJP := Lib.hid hjp
                clear hal htk hjp hjl
                go_wp2
                go_loop [4, 6] (fun x l => ∃ m : Nat, j + m ≤ 8 ∧ x = .int .i64 (onF n0 p * 10 ^ m) ∧ l = .int .i64 (8 - (j : Int) - (m : Int))) (fun _ l => (intOf l).toNat)
                case atStart => exact ⟨0, by omega, by simp, by simp⟩
                case round =>
                  obtain ⟨m, hm8, rfl, rfl⟩ := hrel
                  obtain ⟨r0, r1⟩ := pow_room hn0 p hg' m (by have := HJP.out; omega)
                  by_cases hl0 : j + m < 8
                  · have hps : onF n0 p * 10 ^ (m + 1) = 10 * (onF n0 p * 10 ^ m) := by rw [Int.pow_succ, ← Int.mul_assoc, Int.mul_comm 10]
                    have HPS := Lib.hid hps
                    clear hps
                    generalize onF n0 p * 10 ^ m = g2 at *
                    go_wp2
                    exact ⟨⟨m + 1, by omega, by rw [HPS.out], v_i64 (by omega)⟩, by simp [intOf]; omega⟩
                  · have hm : Hid (8 - p.length = m) := Lib.hid (by have := HJP.out; omega)
                    have hl0' : 8 - (j : Int) - (m : Int) ≤ 0 := by omega
                    have HR2 : Hid (R = if 2100000000000000 < onF n0 p * 10 ^ m then (0, 6) else (onF n0 p * 10 ^ m, 0)) := Lib.hid (by rw [HE.out hall.out, hm.out])
                    generalize onF n0 p * 10 ^ m = g2 at *
                    by_cases hbig : 2100000000000000 < g2
                    · go_wp2
                      go_ret2
                      exact ⟨ret_two (by rw [HR2.out, if_pos (by omega)]), rfl⟩
                    · go_wp2
                      go_ret2
                      exact ⟨ret_two (by rw [HR2.out, if_neg (by omega)]), rfl⟩

end Go.Proofs.YtopeblaiifkmoaaDoor
