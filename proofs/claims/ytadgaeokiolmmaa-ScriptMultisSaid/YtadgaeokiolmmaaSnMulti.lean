/-
  script.multi: are operations of the form of many keys. Conditions: none.
-/
import Derived.Test.YtadgaeokiolmmaaSnRpayM
namespace Go.Proofs.Ytadgaeokiolmmaa
open Go.RowKit

def multiB (cs : List UInt8) : Bool :=
  if cs.length < 4 then false
  else (cs.getD (cs.length - 1) 0 == 174) && decide (smallB (cs.getD (cs.length - 2) 0) = (cs.length : Int) - 3) && decide (1 ≤ smallB (cs.getD 0 0)) && decide (smallB (cs.getD 0 0) ≤ (cs.length : Int) - 3) && !((cs.drop 1).take (cs.length - 3)).any (· != 33)
theorem code_at {L : List Piece} {i : Nat} {p : Piece} (h : L[i]? = some p) : (L.map Piece.code).getD i 0 = p.code := by
  rw [List.getD, List.getElem?_map, h]
  rfl
theorem ops_drop {w : World} {B N c o b : Nat} {L : List Piece} (h : OpsR w B (.slice (some ⟨b, o, none⟩) L.length c) L) (hl : L.length = N + 3) : OpsR w B (.slice (some ⟨b, o + 2, none⟩) N (c - 1)) ((L.drop 1).take N) := by
  obtain ⟨A', c', e, h1, h2, h3⟩ := h
  obtain ⟨e1, _, e3⟩ := Value.slice.inj e
  subst e1 e3
  obtain ⟨b', o', e', hb, hc⟩ := h3 (by rintro rfl; simp at hl)
  injection e' with e'
  obtain ⟨e1', e2', _⟩ := Addr.mk.inj e'
  subst e1' e2'
  have hlen : ((L.drop 1).take N).length = N := by simp; omega
  refine ⟨_, _, by rw [hlen], by rw [hlen]; omega, by omega, fun _ => ⟨b, o + 2, rfl, hb, fun i p hp => ?_⟩⟩
  rw [List.getElem?_take] at hp
  split at hp
  · rw [List.getElem?_drop] at hp
    have := hc (1 + i) p hp
    rw [show o + 2 + i * 2 = o + (1 + i) * 2 by omega]
    exact this
  · cases hp

set_option maxRecDepth 100000 in
set_option maxHeartbeats 6400000 in
theorem multi_any (B : Nat) (x : Value) (L : List Piece) (w : World) (hx : OpsR w B x L) (hB : B ≤ w.heap.size) (hl : L.length ≤ 60000000) :
    Calls Try.prog 64 #[x] w fun e w' => e = .returned (.bool (multiB (L.map Piece.code))) ∧ Below w.heap.size w w' := by
  obtain ⟨A, c, rfl⟩ := hx.form
  by_cases h4 : L.length < 4
  · have hM : multiB (L.map Piece.code) = false := by unfold multiB; rw [List.length_map, if_pos h4]
    rw [hM]
    have hw : IntKind.i64.wrap ((L.length : Int) - 3) = (L.length : Int) - 3 := IntWalk.i64_in _ (by omega)
    have hd : decide ((L.length : Int) - 3 < 1) = true := decide_eq_true (by omega)
    clear hx hM h4
    go_enter Try.func64, Try.ntmps64
    go_wp2_with fail
    go_ret
    exact ⟨rfl, Below.refl _ _⟩
  obtain ⟨N, hN⟩ : ∃ N, L.length = N + 3 := ⟨L.length - 3, by omega⟩
  obtain ⟨p0, hp0⟩ : ∃ p, L[0]? = some p := ⟨_, List.getElem?_eq_getElem (by omega)⟩
  obtain ⟨p1, hp1⟩ : ∃ p, L[N + 1]? = some p := ⟨_, List.getElem?_eq_getElem (by omega)⟩
  obtain ⟨p2, hp2⟩ : ∃ p, L[N + 2]? = some p := ⟨_, List.getElem?_eq_getElem (by omega)⟩
  have hM : multiB (L.map Piece.code) = ((p2.code == 174) && decide (smallB p1.code = (N : Int)) && decide (1 ≤ smallB p0.code) && decide (smallB p0.code ≤ (N : Int)) && !((L.drop 1).take N).any (fun p => p.code != 33)) := by
    unfold multiB
    rw [List.length_map, if_neg h4, hN, show N + 3 - 1 = N + 2 by omega, show N + 3 - 2 = N + 1 by omega, show N + 3 - 3 = N by omega, code_at hp0, code_at hp1, code_at hp2, show ((N + 3 : Nat) : Int) - 3 = (N : Int) by omega, ← List.map_drop, ← List.map_take, List.any_map]
    rfl
  obtain ⟨A', c', e, h1, h2, h3⟩ := hx
  obtain ⟨e1, _, e3⟩ := Value.slice.inj e
  subst e1 e3
  obtain ⟨b, o, rfl, hb, hc⟩ := h3 (by rintro rfl; simp at hN)
  have q0 : w.cell? ⟨b, o, none⟩ = some (.int .u8 (p0.code.toNat : Int)) := (hc 0 _ hp0).1
  have q1 : w.cell? ⟨b, o + (N + 1) * 2, none⟩ = some (.int .u8 (p1.code.toNat : Int)) := (hc _ _ hp1).1
  have q2 : w.cell? ⟨b, o + (N + 2) * 2, none⟩ = some (.int .u8 (p2.code.toNat : Int)) := (hc _ _ hp2).1
  have HSUB := Lib.hid (ops_drop ⟨_, _, rfl, h1, h2, fun _ => ⟨b, o, rfl, hb, hc⟩⟩ hN)
  rw [hM, hN]
  rw [hN] at h1
  have hN1 : 1 ≤ N := by omega
  have hNb : N ≤ 60000000 := by omega
  unfold maxLen at h2
  have hw : IntKind.i64.wrap ((N : Int) + 3 - 3) = (N : Int) := by rw [show (N : Int) + 3 - 3 = (N : Int) by omega]; exact IntWalk.i64_in _ (by omega)
  have d0 : decide ((N : Int) < 1) = false := decide_eq_false (by omega)
  have t2 : ((N : Int) + 2).toNat = N + 2 := by omega
  have t1 : ((N : Int) + 1).toNat = N + 1 := by omega
  have i2 : (0 : Int) ≤ (N : Int) + 2 := by omega
  have i2' : (N : Int) + 2 < (N : Int) + 3 := by omega
  have i1 : (0 : Int) ≤ (N : Int) + 1 := by omega
  have i1' : (N : Int) + 1 < (N : Int) + 3 := by omega
  have i0' : (0 : Int) < (N : Int) + 3 := by omega
  have b2 := p2.code.toNat_lt
  have HS1 := Lib.hid (fun W => small_any p1.code W)
  have HS0 := Lib.hid (fun W => small_any p0.code W)
  have sb1 := smallB_bd p1.code
  have sb0 := smallB_bd p0.code
  obtain ⟨s1, hs1⟩ : ∃ s, s = smallB p1.code := ⟨_, rfl⟩
  obtain ⟨s0, hs0⟩ : ∃ s, s = smallB p0.code := ⟨_, rfl⟩
  obtain ⟨u1, hu1⟩ : ∃ s : Int, s = (p1.code.toNat : Int) := ⟨_, rfl⟩
  obtain ⟨u0, hu0⟩ : ∃ s : Int, s = (p0.code.toNat : Int) := ⟨_, rfl⟩
  rw [← hu1] at q1 HS1
  rw [← hu0] at q0 HS0
  rw [← hs1] at HS1 sb1 ⊢
  rw [← hs0] at HS0 sb0 ⊢
  clear hc h3 e hM hp0 hp1 hp2 hN h4 hl hs1 hs0 hu1 hu0
  by_cases c2 : p2.code = 174
  · rw [c2] at q2 ⊢
    have q2' : w.cell? ⟨b, o + (N + 2) * 2, none⟩ = some (.int .u8 174) := q2
    clear q2 c2
    by_cases c1 : s1 = (N : Int)
    · subst c1
      have e1 : decide (1 ≤ s0) = false ∨ decide (1 ≤ s0) = true := by cases decide (1 ≤ s0) <;> simp
      by_cases c0 : 1 ≤ s0
      · have e1 : decide (1 ≤ s0) = true := decide_eq_true c0
        by_cases c3 : s0 ≤ (N : Int)
        · have e3 : decide (s0 ≤ (N : Int)) = true := decide_eq_true c3
          have HC := Lib.hid (contains_key B _ ((L.drop 1).take N) w HSUB.out hB)
          obtain ⟨R, hR⟩ : ∃ R, R = ((L.drop 1).take N).any (fun p => p.code != 33) := ⟨_, rfl⟩
          rw [← hR] at HC ⊢
          rw [e1, e3]
          clear hR
          go_enter Try.func64, Try.ntmps64
          go_wp2_with fail
          refine (HS1.out _).mono ?_
          rintro e w1 ⟨rfl, rfl⟩
          go_wp2_with fail
          refine (HS0.out _).mono ?_
          rintro e w1 ⟨rfl, rfl⟩
          go_wp2_with fail
          refine HC.out.mono ?_
          rintro e w1 ⟨rfl, hb1⟩
          go_wp2_with fail
          go_ret
          exact ⟨by cases R <;> simp, hb1⟩
        · have e3 : decide (s0 ≤ (N : Int)) = false := decide_eq_false c3
          rw [e1, e3]
          go_enter Try.func64, Try.ntmps64
          go_wp2_with fail
          refine (HS1.out _).mono ?_
          rintro e w1 ⟨rfl, rfl⟩
          go_wp2_with fail
          refine (HS0.out _).mono ?_
          rintro e w1 ⟨rfl, rfl⟩
          go_wp2_with fail
          go_ret
          exact ⟨by simp, Below.refl _ _⟩
      · have e1 : decide (1 ≤ s0) = false := decide_eq_false c0
        rw [e1]
        go_enter Try.func64, Try.ntmps64
        go_wp2_with fail
        refine (HS1.out _).mono ?_
        rintro e w1 ⟨rfl, rfl⟩
        go_wp2_with fail
        refine (HS0.out _).mono ?_
        rintro e w1 ⟨rfl, rfl⟩
        go_wp2_with fail
        go_ret
        exact ⟨by simp, Below.refl _ _⟩
    · have e1 : (s1 != (N : Int)) = true := by simpa using c1
      rw [decide_eq_false c1]
      go_enter Try.func64, Try.ntmps64
      go_wp2_with fail
      refine (HS1.out _).mono ?_
      rintro e w1 ⟨rfl, rfl⟩
      go_wp2_with fail
      go_ret
      exact ⟨by simp, Below.refl _ _⟩
  · have e2 : ((p2.code.toNat : Int) != 174) = true := by
      simp only [bne_iff_ne, ne_eq]
      intro h
      exact c2 (u8_ext (by show p2.code.toNat = 174; omega))
    have e2b : (p2.code == 174) = false := by simpa using c2
    rw [e2b]
    clear c2 e2b
    go_enter Try.func64, Try.ntmps64
    go_wp2_with fail
    go_ret
    exact ⟨by simp, Below.refl _ _⟩
end Go.Proofs.Ytadgaeokiolmmaa
