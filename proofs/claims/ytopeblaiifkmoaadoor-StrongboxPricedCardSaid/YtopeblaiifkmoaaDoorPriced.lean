/-
  StrongboxPriced's walk: whatever the list, the rate and the size. Conditions: the library's table of powers of ten holds what its text lays.
-/
import Derived.Test.YtopeblaiifkmoaaDoorAdds
import Derived.Test.YtopeblaiifkmoaaDoorAmtBack
import Derived.Test.YtopeblaiifkmoaaDoorAmtFmt
namespace Go.Proofs.YtopeblaiifkmoaaDoor
open Go.RowKit

def sumL : List Int → Int
  | [] => 0
  | z :: l => z + sumL l
theorem sumL_nonneg : ∀ (l : List Int), (∀ z ∈ l, amtB z = true) → 0 ≤ sumL l
  | [], _ => Int.le_refl 0
  | z :: l, h => by
    have h1 := amtB_true (h z (by simp))
    have h2 := sumL_nonneg l (fun y hy => h y (by simp [hy]))
    show 0 ≤ z + sumL l
    omega
theorem sumL_drop (l : List Int) (h : ∀ z ∈ l, amtB z = true) (k : Nat) : sumL (l.drop k) ≤ sumL l := by
  induction l generalizing k with
  | nil => simp
  | cons z l ih =>
    cases k with
    | zero => exact Int.le_refl _
    | succ k =>
      have h1 := amtB_true (h z (by simp))
      have h2 := ih (fun y hy => h y (by simp [hy])) k
      show sumL (l.drop k) ≤ z + sumL l
      omega
theorem addF_sum : ∀ (l : List Int) (n r : Int), addF n l = (r, 0) → (∀ z ∈ l, amtB z = true) ∧ r = n + sumL l ∧ (amtB n = true → amtB r = true)
  | [], n, r, h => by
    simp only [addF, Prod.mk.injEq, and_true] at h
    exact ⟨by simp, by rw [h]; simp [sumL], fun k => h ▸ k⟩
  | z :: l, n, r, h => by
    cases h1 : amtB z with
    | false => rw [addF_no (.inl h1)] at h; injection h with _ h; cases h
    | true =>
      cases h2 : amtB (n + z) with
      | false => rw [addF_no (.inr h2)] at h; injection h with _ h; cases h
      | true =>
        rw [addF_go h1 h2] at h
        obtain ⟨i1, i2, i3⟩ := addF_sum l (n + z) r h
        exact ⟨fun y hy => by rcases List.mem_cons.1 hy with rfl | hy; exact h1; exact i1 y hy, by rw [i2]; show _ = n + (z + sumL l); omega, fun _ => i3 h2⟩
theorem addF_ok {l : List Int} {r : Int} (h : addF 0 l = (r, 0)) : (∀ z ∈ l, amtB z = true) ∧ (r = sumL l ∧ r ≤ 2100000000000000) := by
  obtain ⟨h1, h2, h3⟩ := addF_sum l 0 r h
  exact ⟨h1, by omega, (amtB_true (h3 rfl)).2⟩
theorem sumL_le (l : List Int) (h : ∀ z ∈ l, amtB z = true) {r : Int} (hr : r = sumL l ∧ r ≤ 2100000000000000) (k : Nat) : sumL (l.drop k) ≤ 2100000000000000 := by
  have := sumL_drop l h k
  omega
theorem eq_tt {a : Int} (h : a = 0) : (a != 0) = false := by simp [h]
theorem again_fee {rate size f b : Int} (h : feeS rate size = (f, 0)) (k : rateS f size = (b, 0)) (hb : rate ≤ b) : feeS b size = (f, 0) := by
  obtain ⟨⟨c, hc, hle⟩, _⟩ := back_two k
  obtain ⟨h1, h2, h3, h4, h5⟩ := feeS_ok h
  obtain ⟨g1, g2, g3, g4, g5⟩ := feeS_ok hc
  have : rate * size ≤ b * size := Int.mul_le_mul_of_nonneg_right hb h1
  have hcf : c = f := by omega
  rw [hc, hcf]

set_option maxRecDepth 100000 in
set_option maxHeartbeats 8000000 in
theorem priced_law (v : Value) (zs : List Int) (rate size : Int) (w : World) (hp : Pow10 w) (hv : Ints .i64 w w.heap.size v zs) (hlo : -9223372036854775808 ≤ size) (hhi : size ≤ 9223372036854775807) :
    Calls Tryd.prog 8 #[v, .int .i64 rate, .int .i64 size] w fun e w' => e = .returned (.bool true) ∧ Below w.heap.size w w' := by
  have hlen := hv.len
  unfold maxLen at hlen
  have fo := format_any 1
  rw [fmt_least] at fo
  have FO := Lib.hid fo
  obtain ⟨⟨f, fe⟩, hF⟩ : ∃ F, F = feeS rate size := ⟨_, rfl⟩
  obtain ⟨⟨rb, re⟩, hRt⟩ : ∃ R, R = rateS f size := ⟨_, rfl⟩
  have cf := fun w => fee_any rate size w hlo hhi
  have cr := fun w => rate_any f size w hlo hhi
  rw [← hF] at cf
  rw [← hRt] at cr
  dsimp only at cf cr
  have CF := Lib.hid cf
  have CR := Lib.hid cr
  clear fo cf cr
  by_cases hl : 20 < zs.length
  · obtain ⟨A, c, rfl, h1, h2, h3, h4⟩ := id hv
    obtain ⟨p, o', rfl, hpb, hcell⟩ := h4 (by rintro rfl; simp at hl)
    have hv2 := hv.first 20 (by omega)
    obtain ⟨ys, hys⟩ : ∃ ys, ys = zs.take 20 := ⟨_, rfl⟩
    rw [← hys] at hv2
    have hyl : ys.length = 20 := by rw [hys, List.length_take]; omega
    have HV := Lib.hid hv2
    obtain ⟨A2, c2, hA2, g1, g2, g3, g4⟩ := hv2
    have HX := Lib.hid g4
    have HA2 := Lib.hid hA2
    have HYL := Lib.hid hyl
    have hyl1 : ys.length ≤ 20 := by omega
    have hyl2 : 20 ≤ ys.length := by omega
    unfold maxLen at h2
    obtain ⟨n, hn⟩ : ∃ n, n = zs.length := ⟨_, rfl⟩
    rw [← hn] at hl h1 hlen ⊢
    clear h3 h4 hv hys hn hpb hcell hA2 g1 g2 g3 g4 hyl
    obtain ⟨⟨x, e⟩, hS⟩ : ∃ S, S = addF 0 ys := ⟨_, rfl⟩
    have c1 := fun (w' : World) => add_any w.heap.size (.slice (some ⟨p, o', none⟩) 20 c) ys w'
    have c2' := fun (w' : World) => refAdd_any w.heap.size (.slice (some ⟨p, o', none⟩) 20 c) ys w'
    rw [← hS] at c1 c2'
    dsimp only at c1 c2'
    have C1 := Lib.hid c1
    have C2 := Lib.hid c2'
    clear c1 c2'
    go_enter Tryd.func8, Tryd.ntmps8
    go_wp2_with fail
    refine (FO.out _ hp).mono ?_
    rintro e w1 ⟨rfl, hb1⟩
    go_wp2_with fail
    refine (C1.out _ (HV.out.below hb1)).mono ?_
    rintro e w' ⟨rfl, rfl⟩
    by_cases he : e = 0
    · subst he
      obtain ⟨hall, hsum⟩ := addF_ok hS.symm
      have HALL := Lib.hid hall
      clear hS hall C2
      have HSUM := Lib.hid hsum
      clear hsum
      go_wp2_with fail
      go_loopw [11, 45] (fun l i wr => ∃ k : Nat, k ≤ ys.length ∧ i = .int .i64 k ∧ l = .int .i64 (sumL (ys.drop k)) ∧ Below w.heap.size w wr) (fun _ i _ => ys.length - (intOf i).toNat)
      case atStart => exact ⟨0, Nat.zero_le _, rfl, by rw [HSUM.out.1]; rfl, hb1⟩
      case round =>
        obtain ⟨k, hk, rfl, rfl, hBr⟩ := hrel
        by_cases hlt : k < ys.length
        · obtain ⟨b, o, hA, hbb, hc⟩ := HX.out (by rintro rfl; simp at hlt)
          have hA3 : b = p ∧ o = o' := by
            have h := HA2.out
            rw [hA] at h
            simp only [Value.slice.injEq, Option.some.injEq, Addr.mk.injEq] at h
            omega
          obtain ⟨rfl, rfl⟩ := hA3
          have hck : wr.cell? ⟨b, o + k, none⟩ = some (.int .i64 ys[k]) := (hBr.cell (p := ⟨b, o + k, none⟩) hbb).trans (hc k _ (List.getElem?_eq_getElem hlt))
          have hval := HALL.out ys[k] (List.getElem_mem hlt)
          have hds : sumL (ys.drop k) = ys[k] + sumL (ys.drop (k + 1)) := by rw [List.drop_eq_getElem_cons hlt]; rfl
          have hnn := sumL_nonneg (ys.drop (k + 1)) (fun z hz => HALL.out z (List.mem_of_mem_drop hz))
          have hle := sumL_le ys HALL.out HSUM.out k
          have hf := format_any ys[k]
          have hpf := fun w => parse_any (fmtS ys[k]) w (by have := fmt_size ys[k]; unfold maxLen; omega)
          rw [parse_back hval] at hpf
          dsimp only at hpf
          have hsub := fun w => sub_any (sumL (ys.drop k)) ys[k] w
          have bv := amtB_true hval
          rw [subS_ok (amtB_mk (by omega) hle) hval (by omega), hds, show ys[k] + sumL (ys.drop (k + 1)) - ys[k] = sumL (ys.drop (k + 1)) by omega] at hsub
          rw [hds]
          have hpr := hp.below hBr
          obtain ⟨z, hz⟩ : ∃ z, z = ys[k] := ⟨_, rfl⟩
          obtain ⟨t, ht⟩ : ∃ t, t = fmtS ys[k] := ⟨_, rfl⟩
          obtain ⟨q, hq⟩ : ∃ q, q = sumL (ys.drop (k + 1)) := ⟨_, rfl⟩
          rw [← ht] at hf hpf
          rw [← hz] at hf hpf hsub hck ⊢
          rw [← hq] at hsub ⊢
          have HF := Lib.hid hf
          have HPF := Lib.hid hpf
          have HSUB := Lib.hid hsub
          have HQ := Lib.hid hq
          clear hf hpf hsub ht hz hq hds hval hc hnn hle bv
          go_wp2_with fail
          refine (HF.out _ hpr).mono ?_
          rintro e w2 ⟨rfl, hb2⟩
          go_wp2_with fail
          refine (HPF.out _).mono ?_
          rintro e w3 ⟨rfl, hb3⟩
          go_wp2_with fail
          refine (HSUB.out _).mono ?_
          rintro e w' ⟨rfl, rfl⟩
          go_wp2_with fail
          go_roundw
          case rel => exact ⟨k + 1, by omega, by go_num, by rw [HQ.out], (hBr.trans (hb2.mono hBr.size)).trans (hb3.mono (hBr.trans (hb2.mono hBr.size)).size)⟩
          case measure => simp [intOf]; omega
        · have hd0 : sumL (ys.drop k) = 0 := by rw [List.drop_of_length_le (by omega)]; rfl
          rw [hd0]
          clear hd0
          by_cases hfe : fe = 0
          · by_cases hs1 : size < 1
            · have hfb := eq_tt hfe
              go_wp2_with (go_at_call 15; refine (CF.out _).mono ?_; rintro e w' ⟨rfl, rfl⟩)
              go_ret
              exact ⟨rfl, hBr⟩
            · subst hfe
              obtain ⟨b1, _⟩ := back_one hF.symm (by omega)
              by_cases hre : re = 0
              · subst hre
                have hrb := b1 rb hRt.symm
                have hag := again_fee hF.symm hRt.symm hrb
                have c5 := fun w => fee_any rb size w hlo hhi
                rw [hag] at c5
                dsimp only at c5
                have C5 := Lib.hid c5
                clear hag c5 b1 hF hRt
                go_wp2_with (first | (go_at_call 15; (first | with_reducible refine (CF.out _).mono ?_ | with_reducible refine (C5.out _).mono ?_); rintro e w' ⟨rfl, rfl⟩) | (go_at_call 17; refine (CR.out _).mono ?_; rintro e w' ⟨rfl, rfl⟩))
                go_ret
                exact ⟨rfl, hBr⟩
              · have hrn := ne_tt hre
                have c5 := fun w => fee_any rb size w hlo hhi
                have C5 := Lib.hid c5
                clear c5 b1 hF hRt hre
                go_wp2_with (first | (go_at_call 15; (first | with_reducible refine (CF.out _).mono ?_ | with_reducible refine (C5.out _).mono ?_); rintro e w' ⟨rfl, rfl⟩) | (go_at_call 17; refine (CR.out _).mono ?_; rintro e w' ⟨rfl, rfl⟩))
                go_ret
                exact ⟨rfl, hBr⟩
          · have hfn := ne_tt hfe
            clear hfe
            go_wp2_with (go_at_call 15; refine (CF.out _).mono ?_; rintro e w' ⟨rfl, rfl⟩)
            go_ret
            exact ⟨rfl, hBr⟩
    · have hen := ne_tt he
      clear he hS
      go_wp2_with (go_at_call 11; refine (C2.out _ (HV.out.below hb1)).mono ?_; rintro e w' ⟨rfl, rfl⟩)
      go_ret
      exact ⟨rfl, hb1⟩
  · obtain ⟨A, c, rfl, h1, h2, h3, h4⟩ := id hv
    obtain ⟨ys, hys⟩ : ∃ ys, ys = zs := ⟨_, rfl⟩
    rw [← hys] at hv hl h1 hlen h4 ⊢
    have HV := Lib.hid hv
    have HX := Lib.hid h4
    have hyl1 : ys.length ≤ 20 := by omega
    unfold maxLen at h2
    clear h3 h4 hv hys
    obtain ⟨⟨x, e⟩, hS⟩ : ∃ S, S = addF 0 ys := ⟨_, rfl⟩
    have c1 := fun (w' : World) => add_any w.heap.size (.slice A ys.length c) ys w'
    have c2' := fun (w' : World) => refAdd_any w.heap.size (.slice A ys.length c) ys w'
    rw [← hS] at c1 c2'
    dsimp only at c1 c2'
    have C1 := Lib.hid c1
    have C2 := Lib.hid c2'
    clear c1 c2'
    go_enter Tryd.func8, Tryd.ntmps8
    go_wp2_with fail
    refine (FO.out _ hp).mono ?_
    rintro e w1 ⟨rfl, hb1⟩
    go_wp2_with fail
    refine (C1.out _ (HV.out.below hb1)).mono ?_
    rintro e w' ⟨rfl, rfl⟩
    by_cases he : e = 0
    · subst he
      obtain ⟨hall, hsum⟩ := addF_ok hS.symm
      have HALL := Lib.hid hall
      clear hS hall C2
      have HSUM := Lib.hid hsum
      clear hsum
      go_wp2_with fail
      go_loopw [11, 45] (fun l i wr => ∃ k : Nat, k ≤ ys.length ∧ i = .int .i64 k ∧ l = .int .i64 (sumL (ys.drop k)) ∧ Below w.heap.size w wr) (fun _ i _ => ys.length - (intOf i).toNat)
      case atStart => exact ⟨0, Nat.zero_le _, rfl, by rw [HSUM.out.1]; rfl, hb1⟩
      case round =>
        obtain ⟨k, hk, rfl, rfl, hBr⟩ := hrel
        by_cases hlt : k < ys.length
        · obtain ⟨b, o, hA, hbb, hc⟩ := HX.out (by rintro rfl; simp at hlt)
          subst hA
          have hck : wr.cell? ⟨b, o + k, none⟩ = some (.int .i64 ys[k]) := (hBr.cell (p := ⟨b, o + k, none⟩) hbb).trans (hc k _ (List.getElem?_eq_getElem hlt))
          have hval := HALL.out ys[k] (List.getElem_mem hlt)
          have hds : sumL (ys.drop k) = ys[k] + sumL (ys.drop (k + 1)) := by rw [List.drop_eq_getElem_cons hlt]; rfl
          have hnn := sumL_nonneg (ys.drop (k + 1)) (fun z hz => HALL.out z (List.mem_of_mem_drop hz))
          have hle := sumL_le ys HALL.out HSUM.out k
          have hf := format_any ys[k]
          have hpf := fun w => parse_any (fmtS ys[k]) w (by have := fmt_size ys[k]; unfold maxLen; omega)
          rw [parse_back hval] at hpf
          dsimp only at hpf
          have hsub := fun w => sub_any (sumL (ys.drop k)) ys[k] w
          have bv := amtB_true hval
          rw [subS_ok (amtB_mk (by omega) hle) hval (by omega), hds, show ys[k] + sumL (ys.drop (k + 1)) - ys[k] = sumL (ys.drop (k + 1)) by omega] at hsub
          rw [hds]
          have hpr := hp.below hBr
          obtain ⟨z, hz⟩ : ∃ z, z = ys[k] := ⟨_, rfl⟩
          obtain ⟨t, ht⟩ : ∃ t, t = fmtS ys[k] := ⟨_, rfl⟩
          obtain ⟨q, hq⟩ : ∃ q, q = sumL (ys.drop (k + 1)) := ⟨_, rfl⟩
          rw [← ht] at hf hpf
          rw [← hz] at hf hpf hsub hck ⊢
          rw [← hq] at hsub ⊢
          have HF := Lib.hid hf
          have HPF := Lib.hid hpf
          have HSUB := Lib.hid hsub
          have HQ := Lib.hid hq
          clear hf hpf hsub ht hz hq hds hval hc hnn hle bv
          go_wp2_with fail
          refine (HF.out _ hpr).mono ?_
          rintro e w2 ⟨rfl, hb2⟩
          go_wp2_with fail
          refine (HPF.out _).mono ?_
          rintro e w3 ⟨rfl, hb3⟩
          go_wp2_with fail
          refine (HSUB.out _).mono ?_
          rintro e w' ⟨rfl, rfl⟩
          go_wp2_with fail
          go_roundw
          case rel => exact ⟨k + 1, by omega, by go_num, by rw [HQ.out], (hBr.trans (hb2.mono hBr.size)).trans (hb3.mono (hBr.trans (hb2.mono hBr.size)).size)⟩
          case measure => simp [intOf]; omega
        · have hd0 : sumL (ys.drop k) = 0 := by rw [List.drop_of_length_le (by omega)]; rfl
          rw [hd0]
          clear hd0
          by_cases hfe : fe = 0
          · by_cases hs1 : size < 1
            · have hfb := eq_tt hfe
              go_wp2_with (go_at_call 15; refine (CF.out _).mono ?_; rintro e w' ⟨rfl, rfl⟩)
              go_ret
              exact ⟨rfl, hBr⟩
            · subst hfe
              obtain ⟨b1, _⟩ := back_one hF.symm (by omega)
              by_cases hre : re = 0
              · subst hre
                have hrb := b1 rb hRt.symm
                have hag := again_fee hF.symm hRt.symm hrb
                have c5 := fun w => fee_any rb size w hlo hhi
                rw [hag] at c5
                dsimp only at c5
                have C5 := Lib.hid c5
                clear hag c5 b1 hF hRt
                go_wp2_with (first | (go_at_call 15; (first | with_reducible refine (CF.out _).mono ?_ | with_reducible refine (C5.out _).mono ?_); rintro e w' ⟨rfl, rfl⟩) | (go_at_call 17; refine (CR.out _).mono ?_; rintro e w' ⟨rfl, rfl⟩))
                go_ret
                exact ⟨rfl, hBr⟩
              · have hrn := ne_tt hre
                have c5 := fun w => fee_any rb size w hlo hhi
                have C5 := Lib.hid c5
                clear c5 b1 hF hRt hre
                go_wp2_with (first | (go_at_call 15; (first | with_reducible refine (CF.out _).mono ?_ | with_reducible refine (C5.out _).mono ?_); rintro e w' ⟨rfl, rfl⟩) | (go_at_call 17; refine (CR.out _).mono ?_; rintro e w' ⟨rfl, rfl⟩))
                go_ret
                exact ⟨rfl, hBr⟩
          · have hfn := ne_tt hfe
            clear hfe
            go_wp2_with (go_at_call 15; refine (CF.out _).mono ?_; rintro e w' ⟨rfl, rfl⟩)
            go_ret
            exact ⟨rfl, hBr⟩
    · have hen := ne_tt he
      clear he hS
      go_wp2_with (go_at_call 11; refine (C2.out _ (HV.out.below hb1)).mono ?_; rintro e w' ⟨rfl, rfl⟩)
      go_ret
      exact ⟨rfl, hb1⟩
end Go.Proofs.YtopeblaiifkmoaaDoor
