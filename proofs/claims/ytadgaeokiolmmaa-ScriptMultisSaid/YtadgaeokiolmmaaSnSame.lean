/-
  The reference's Same; script.Program; PayWitness. Conditions: sizes within the reach.
-/
import Derived.Test.YtadgaeokiolmmaaSnPay
import Derived.Test.YtadgaeokiolmmaaSnLawR
namespace Go.Proofs.Ytadgaeokiolmmaa
open Go.RowKit

theorem parts_at {L M : List (Value × List UInt8)} (h : L.map (·.2) = M.map (·.2)) {i : Nat} (h1 : i < L.length) (h2 : i < M.length) : L[i].2 = M[i].2 := by
  have : (L.map (·.2))[i]'(by simp; exact h1) = (M.map (·.2))[i]'(by simp; exact h2) := by simp only [h]
  rw [List.getElem_map, List.getElem_map] at this
  exact this

set_option maxRecDepth 100000 in
set_option maxHeartbeats 3200000 in
theorem same_yes (B B' : Nat) (x y : Value) (L M : List (Value × List UInt8)) (w : World) (hx : BagR w B x L) (hy : BagR w B' y M) (h : L.map (·.2) = M.map (·.2)) :
    Calls Try.prog 28 #[x, y] w fun e w' => e = .returned (.bool true) ∧ Below w.heap.size w w' := by
  have hlen := hx.len
  have hML : M.length = L.length := by have := congrArg List.length h; simpa using this.symm
  obtain ⟨A, c, rfl⟩ := hx.form
  obtain ⟨A2, c2, rfl⟩ := hy.form
  have HX := Lib.hid hx
  have HY := Lib.hid hy
  have HH := Lib.hid h
  have HML := Lib.hid hML
  rw [hML]
  clear hx hy h hML
  go_enter Try.func28, Try.ntmps28
  go_wp2_with fail
  go_loopw [5] (fun s wr => ∃ i : Nat, i ≤ L.length ∧ s = .int .i64 (i : Int) ∧ ∃ k, wr = w.drewN k) (fun s _ => L.length - (intOf s).toNat)
  case atStart => exact ⟨0, Nat.zero_le _, rfl, 0, rfl⟩
  case round =>
    obtain ⟨i, hi, rfl, k, rfl⟩ := hrel
    by_cases hlt : i < L.length
    · have hlt2 : i < M.length := by rw [HML.out]; exact hlt
      obtain ⟨⟨A', c', e0, _, _, h4⟩, h5⟩ := HX.out
      obtain ⟨e1, e2, e3⟩ := Value.slice.inj e0
      subst e1 e3
      clear e2
      obtain ⟨b, o, rfl, hb, hc⟩ := h4 (by rintro rfl; simp at hlt)
      obtain ⟨⟨A', c', e0', _, _, h6⟩, h7⟩ := HY.out
      obtain ⟨e1, e2, e3⟩ := Value.slice.inj e0'
      subst e1 e3
      clear e2
      obtain ⟨b2, o2, rfl, hb2, hc2⟩ := h6 (by rintro rfl; simp at hlt2)
      have q0 := hc i _ (List.getElem?_eq_getElem hlt)
      have q1 := hc2 i _ (List.getElem?_eq_getElem hlt2)
      have y0 := h5 _ (List.getElem_mem hlt)
      have y1 := h7 _ (List.getElem_mem hlt2)
      have he := parts_at HH.out hlt hlt2
      obtain ⟨Ap, cp, hp⟩ := y0.form
      obtain ⟨Aq, cq, hq⟩ := y1.form
      rw [← he] at y1 hq
      obtain ⟨W, hW⟩ : ∃ W, W = w.drewN k := ⟨_, rfl⟩
      have HEQ := Lib.hid (fun n => (equal_yes _ _ _ _ L[i].2 L[i].2 (W.drewN n) (byt_drewN (by rw [hW]; exact byt_drewN y0 k) n) (byt_drewN (by rw [hW]; exact byt_drewN y1 k) n) rfl).mono (R' := fun e w' => e = .returned (.bool true) ∧ w' = W.drewN n) (fun e w' ⟨h1, h2⟩ => ⟨h1, h2.symm⟩))
      rw [hp, hq] at HEQ
      rw [hp] at q0
      rw [hq] at q1
      obtain ⟨m, hm⟩ : ∃ m, m = L[i].2.length := ⟨_, rfl⟩
      rw [← hm] at HEQ q0 q1
      have k0 : W.cell? ⟨b, o + i, none⟩ = some (.slice Ap m cp) := by rw [hW]; exact q0
      have k1 : W.cell? ⟨b2, o2 + i, none⟩ = some (.slice Aq m cq) := by rw [hW]; exact q1
      have HW := Lib.hid hW
      rw [← hW]
      clear hc hc2 h4 h5 h6 h7 e0 e0' q0 q1 y0 y1 he hp hq hm hW
      go_wp2_with fail
      go_quiet ((go_at_call 17; exact Calls.quiet_of_same (HEQ.out _)))
      go_wp2_with fail
      go_roundw
      case rel => exact ⟨i + 1, by omega, by go_num, _, by rw [HW.out]; first | rfl | exact World.drewN_drewN _ _ _⟩
      case measure => simp [intOf]; omega
    · go_wp2_with fail
      go_ret
      exact ⟨rfl, ⟨rfl, rfl, rfl, Nat.le_refl _, fun _ _ => rfl⟩⟩

/-- The version and the push of a witness program. -/
def progB (xs : List UInt8) : Option (Int × List UInt8) :=
  match xs with
  | a :: b :: ys => if ys.length < 2 ∨ 40 < ys.length ∨ b.toNat ≠ ys.length ∨ smallB a < 0 then none else some (smallB a, ys)
  | _ => none
def ProgV (w : World) (xs : List UInt8) (e : Ending) (w' : World) : Prop :=
  match progB xs with
  | none => e = .returned (.tuple #[.int .i64 0, .slice none 0 0, .bool false]) ∧ Below w.heap.size w w'
  | some p => ∃ v, e = .returned (.tuple #[.int .i64 p.1, v, .bool true]) ∧ OwnB w' w.heap.size v p.2 ∧ Below w.heap.size w w'
theorem smallB_bd (c : UInt8) : -1 ≤ smallB c ∧ smallB c ≤ 16 := by
  have := c.toNat_lt
  unfold smallB
  split
  · omega
  split <;> omega

set_option maxRecDepth 100000 in
set_option maxHeartbeats 3200000 in
theorem prog_no (B : Nat) (x : Value) (a b : UInt8) (ys : List UInt8) (w : World) (hx : Byt w B x (a :: b :: ys)) (h : b.toNat ≠ ys.length) (h2 : 2 ≤ ys.length) (h40 : ys.length ≤ 40) :
    Calls Try.prog 29 #[x] w fun e w' => e = .returned (.tuple #[.int .i64 0, .slice none 0 0, .bool false]) ∧ w = w' := by
  obtain ⟨A, c, rfl, h1, hm, _, h4⟩ := hx
  obtain ⟨gb, o, rfl, hb, hc⟩ := h4 (by simp)
  have hcell : w.cell? ⟨gb, o + 1, none⟩ = some (.int .u8 (b.toNat : Int)) := hc 1 b rfl
  obtain ⟨n, hn⟩ : ∃ n, n = ys.length := ⟨_, rfl⟩
  have e : (a :: b :: ys).length = n + 2 := by simp [hn]
  rw [e] at h1 ⊢
  rw [← hn] at h h2 h40
  unfold maxLen at hm
  have d1 : decide ((n : Int) + 2 < 4) = false := decide_eq_false (by omega)
  have d2 : decide ((42 : Int) < (n : Int) + 2) = false := decide_eq_false (by omega)
  have d3 : ((b.toNat : Int) != (n : Int)) = true := by simp only [bne_iff_ne, ne_eq]; omega
  have hb256 := b.toNat_lt
  clear hc h4 e hn h
  go_enter Try.func29, Try.ntmps29
  go_wp2_with fail
  go_ret3
  exact ⟨rfl, rfl⟩
end Go.Proofs.Ytadgaeokiolmmaa
