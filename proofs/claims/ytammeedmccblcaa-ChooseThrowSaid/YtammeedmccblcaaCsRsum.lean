/-
  The reference's Sum over the chosen coins. Conditions: no coin is worth less than nothing, and all together no more than the limit.
-/
import Derived.Test.YtammeedmccblcaaCsPlac
import Derived.Test.YtammeedmccblcaaCsRlar
namespace Go.Proofs.Ytammeedmccblcaa.Cs
open Go.RowKit

theorem pick_bd : ∀ (l : List Cn) (f : List Bool), Pos l → 0 ≤ sumD (pick l f) ∧ sumD (pick l f) ≤ sumD l
  | [], f, _ => by cases f <;> exact ⟨Int.le_refl _, Int.le_refl _⟩
  | c :: l, [], h => ⟨Int.le_refl _, sumD_nonneg h⟩
  | c :: l, b :: f, h => by
    have ih := pick_bd l f h.tail
    have hc : 0 ≤ c.1 := Int.le_of_lt (h c (by simp)).1
    have e : sumD (c :: l) = c.1 + sumD l := rfl
    cases b
    · show 0 ≤ sumD (pick l f) ∧ sumD (pick l f) ≤ sumD (c :: l)
      omega
    · show 0 ≤ c.1 + sumD (pick l f) ∧ c.1 + sumD (pick l f) ≤ sumD (c :: l)
      omega
set_option maxRecDepth 100000 in
set_option maxHeartbeats 3200000 in
theorem rsum_any (B : Nat) (va vf : Value) (AC : List Cn) (f : List Bool) (w : World) (hA : Ints .i64 w B va (woI AC)) (hF : FlR w B vf f) (hlen : AC.length = f.length) (hB : B ≤ w.heap.size) (hp : Pos AC) (hs : sumD AC ≤ 2100000000000000) (hl : AC.length ≤ 19) :
    Calls Try.prog 33 #[va, vf] w fun e w' => e = .returned (.int .i64 (sumD (pick AC f))) ∧ Below w.heap.size w w' := by
  obtain ⟨R, hR⟩ : ∃ z, z = sumD (pick AC f) := ⟨_, rfl⟩
  rw [← hR]
  have HR := Lib.hid hR
  obtain ⟨Aa, ca, rfl, _, _⟩ := Ints.form hA
  obtain ⟨Af, cf, rfl, _, _⟩ := RowR.form hF
  have hla : (woI AC).length = AC.length := List.length_map _
  rw [hla] at hA ⊢
  rw [← hlen] at hF ⊢
  obtain ⟨nX, hnX⟩ : ∃ z, z = AC.length := ⟨_, rfl⟩
  rw [← hnX] at hA hF hl ⊢
  have HA := Lib.hid hA
  have HF := Lib.hid hF
  have HB := Lib.hid hB
  have HNX := Lib.hid hnX
  have HLN := Lib.hid hlen
  have HP := Lib.hid hp
  have HS := Lib.hid hs
  clear hR hA hF hB hnX hlen hla hp hs
  go_enter Try.func33, Try.ntmps33
  go_wp2
  go_loopw [5, 6] (fun so si wr => ∃ (i : Nat), i ≤ nX ∧ si = .int .i64 (i : Int) ∧ so = .int .i64 (sumD (pick (AC.take i) (f.take i))) ∧ Hid (Below w.heap.size w wr)) (fun _ si _ => nX - (intOf si).toNat)
  case atStart => exact ⟨0, Nat.zero_le _, rfl, rfl, Lib.hid (Below.refl _ _)⟩
  case round =>
    obtain ⟨i, hi, rfl, rfl, hBW⟩ := hrel
    obtain ⟨w3, rfl⟩ : ∃ z : World, z = wr := ⟨_, rfl⟩
    obtain ⟨s, hs⟩ : ∃ z, z = sumD (pick (AC.take i) (f.take i)) := ⟨_, rfl⟩
    rw [← hs]
    have HSK := Lib.hid hs
    clear hs
    by_cases hlt : i < nX
    · have dj : decide ((i : Int) < (nX : Int)) = true := decide_eq_true (by omega)
      obtain ⟨x, hx⟩ : ∃ x, AC[i]? = some x := ⟨_, List.getElem?_eq_getElem (by rw [← HNX.out]; exact hlt)⟩
      obtain ⟨b, hb⟩ : ∃ b, f[i]? = some b := ⟨_, List.getElem?_eq_getElem (by rw [← HLN.out, ← HNX.out]; exact hlt)⟩
      have hAw : Ints .i64 w3 B (.slice Aa nX ca) (woI AC) := by have := HA.out; exact this.below (hBW.out.mono HB.out)
      have hFw : FlR w3 B (.slice Af nX cf) f := by have := HF.out; exact this.below (hBW.out.mono HB.out)
      obtain ⟨b1, o1, c1, e1, _, h1⟩ := Ints.at hAw (i := i) (x := x.1) (by unfold woI; rw [List.getElem?_map, hx]; rfl)
      obtain ⟨b2, o2, c2, e2, h2⟩ := hFw.at hb
      injection e1 with e1 f1 g1
      injection e2 with e2 f2 g2
      subst e1 e2
      clear f1 g1 f2 g2
      have hnx := pick_take HLN.out hx hb
      have hbd := pick_bd (AC.take (i + 1)) (f.take (i + 1)) (fun c hc => HP.out c (List.mem_of_mem_take hc))
      have hbt := sum_take AC HP.out (i + 1)
      have hS := HS.out
      cases b
      · as_aux_lemma =>
        have hnn : sumD (pick (AC.take (i + 1)) (f.take (i + 1))) = s := by rw [hnx, HSK.out]; simp
        have HNN := Lib.hid hnn
        clear hnx hnn hbd hbt hx hb hAw hFw
        go_wp2_with fail
        exact ⟨⟨i + 1, hlt, by first | rfl | exact next (by omega), by rw [HNN.out], hBW⟩, by first | exact meas hlt (by omega) | (show nX - ((i : Int) + 1).toNat < nX - (i : Int).toNat; omega)⟩
      · as_aux_lemma =>
        have hnn : sumD (pick (AC.take (i + 1)) (f.take (i + 1))) = s + x.1 := by rw [hnx, HSK.out, sumD_append]; simp [sumD]
        rw [hnn] at hbd
        have HNN := Lib.hid hnn
        clear hnx hnn hx hb hAw hFw
        go_wp2_with fail
        exact ⟨⟨i + 1, hlt, by first | rfl | exact next (by omega), by rw [HNN.out], hBW⟩, by first | exact meas hlt (by omega) | (show nX - ((i : Int) + 1).toNat < nX - (i : Int).toNat; omega)⟩
    · as_aux_lemma =>
      have dj : decide ((i : Int) < (nX : Int)) = false := decide_eq_false (by omega)
      have hin : i = AC.length := by rw [← HNX.out]; omega
      have hRe : R = s := by
        rw [HR.out, HSK.out, hin, List.take_length, HLN.out, List.take_length]
      subst hRe
      clear hin
      go_wp2_with fail
      go_ret
      exact ⟨rfl, hBW.out⟩
end Go.Proofs.Ytammeedmccblcaa.Cs
