/-
  The reference's Pushes of layer 11. Conditions: sizes within the reach.
-/
import Derived.Test.YtadgaeokiolmmaaSnRparse
namespace Go.Proofs.Ytadgaeokiolmmaa
open Go.RowKit

/-- Parse's answer and the reference's, said without a case. -/
theorem parsed_both {w w' : World} {xs : List UInt8} {e : Ending} (h : Parsed w xs e w') : ∃ A c L k, e = .returned (.tuple #[.slice A L.length c, .int .i64 k]) ∧ OpsAt w' w.heap.size (.slice A L.length c) L ∧ Below w.heap.size w w' ∧
    ((k = 4 ∧ parseP xs = none ∧ L = []) ∨ (k = 0 ∧ parseP xs = some (L.map Piece.pair))) := by
  unfold Parsed at h
  cases hp : parseP xs with
  | none =>
    rw [hp] at h
    obtain ⟨he, hb⟩ := h
    exact ⟨none, 0, [], 4, he, OpsAt.nil _ _, hb, .inl ⟨rfl, rfl, rfl⟩⟩
  | some ops =>
    rw [hp] at h
    obtain ⟨A, c, L, he, hL, ho, hb⟩ := h
    subst hL
    rw [List.length_map] at he ho
    exact ⟨A, c, L, 0, he, ho, hb, .inr ⟨rfl, rfl⟩⟩
theorem rparsed_both {w w' : World} {xs : List UInt8} {e : Ending} (h : RParsed w xs e w') : ∃ A c L b, e = .returned (.tuple #[.slice A L.length c, .bool b]) ∧ ROpsAt w' w.heap.size (.slice A L.length c) L ∧ Below w.heap.size w w' ∧
    ((b = false ∧ parseP xs = none ∧ L = []) ∨ (b = true ∧ parseP xs = some (L.map Piece.pair))) := by
  unfold RParsed at h
  cases hp : parseP xs with
  | none =>
    rw [hp] at h
    obtain ⟨he, hb⟩ := h
    exact ⟨none, 0, [], false, he, ROpsAt.nil _ _, hb, .inl ⟨rfl, rfl, rfl⟩⟩
  | some ops =>
    rw [hp] at h
    obtain ⟨A, c, L, he, hL, ho, hb⟩ := h
    subst hL
    rw [List.length_map] at he ho
    exact ⟨A, c, L, true, he, ho, hb, .inr ⟨rfl, rfl⟩⟩

set_option maxRecDepth 100000 in
set_option maxHeartbeats 1600000 in
theorem rpushes_any (B : Nat) (x : Value) (xs : List UInt8) (w : World) (hx : Byt w B x xs) (hB : B ≤ w.heap.size) (hl : xs.length ≤ 60000000) :
    Calls Try.prog 15 #[x] w fun e w' => e = .returned (.bool (pushesB xs)) ∧ Below w.heap.size w w' := by
  have HP := Lib.hid (rparse_any B x xs w hx hB hl)
  obtain ⟨A, c, rfl⟩ := hx.form
  clear hx
  go_enter Try.func15, Try.ntmps15
  go_wp2_with fail
  refine HP.out.mono ?_
  intro e w1 hr
  obtain ⟨A1, c1, L, b, rfl, ho, hb1, hk⟩ := rparsed_both hr
  have hres : pushesB xs = (b && !L.any (fun p => decide (96 < p.code.toNat))) := by
    unfold pushesB
    rcases hk with ⟨rfl, hp, rfl⟩ | ⟨rfl, hp⟩
    · rw [hp]; rfl
    · rw [hp]
      dsimp only
      rw [any_pair (fun c => decide (96 < c.toNat)) L]
      rfl
  have hno : b = false → L = [] := fun h => by
    rcases hk with ⟨_, _, h2⟩ | ⟨h1, _⟩
    · exact h2
    · rw [h] at h1; cases h1
  have HR := Lib.hid hres
  have HNO := Lib.hid hno
  have hor := OpsR.of_rat ho
  have hlen := hor.len
  have HO := Lib.hid hor
  have HB1 := Lib.hid hb1
  clear hr hk hres ho hor hb1 hno HP
  go_wp2_with fail
  go_loop [5] (fun s => ∃ k : Nat, k ≤ L.length ∧ s = .int .i64 (k : Int) ∧ Hid ((L.take k).any (fun p => decide (96 < p.code.toNat)) = false)) (fun s => L.length - (intOf s).toNat)
  case atStart => exact ⟨0, Nat.zero_le _, rfl, Lib.hid (by simp)⟩
  case round =>
    obtain ⟨k, hk, rfl, hno⟩ := hrel
    by_cases hlt : k < L.length
    · obtain ⟨A', c', e0, _, _, h4⟩ := HO.out
      obtain ⟨e1, e2, e3⟩ := Value.slice.inj e0
      subst e1 e3
      clear e2
      obtain ⟨bb, o, rfl, hbb, hc⟩ := h4 (by rintro rfl; simp at hlt)
      obtain ⟨hc0, _, _⟩ := hc k _ (List.getElem?_eq_getElem hlt)
      have hsn := anyO_take (f := fun c => decide (96 < c.toNat)) hlt
      have hbt : b = true := by
        cases b with
        | true => rfl
        | false => have := HNO.out rfl; rw [this] at hlt; simp at hlt
      obtain ⟨⟨q, d, zs⟩, hq⟩ : ∃ q, q = L[k] := ⟨_, rfl⟩
      rw [← hq] at hc0 hsn
      dsimp only at hc0 hsn
      have hr0 : w1.cell? ⟨bb, o + k * 2, none⟩ = some (.int .u8 (q.toNat : Int)) := hc0
      have HSN := Lib.hid hsn
      have hd : decide (k < L.length) = true := by simpa using hlt
      clear hc h4 hq hsn e0 hc0
      by_cases hq0 : 96 < q.toNat
      · have d1 : decide ((96 : Int) < (q.toNat : Int)) = true := decide_eq_true (by omega)
        rw [decide_eq_true hq0] at HSN
        go_wp2_with fail
        go_ret
        refine ⟨?_, HB1.out⟩
        have h2 : (L.take (k + 1)).any (fun p => decide (96 < p.code.toNat)) = true := by rw [HSN.out]; simp
        have h3 : L.any (fun p => decide (96 < p.code.toNat)) = true := by
          rw [List.any_eq_true] at h2 ⊢
          obtain ⟨y, hy, hy2⟩ := h2
          exact ⟨y, List.mem_of_mem_take hy, hy2⟩
        rw [HR.out, h3, hbt]
        rfl
      · have d1 : decide ((96 : Int) < (q.toNat : Int)) = false := decide_eq_false (by omega)
        rw [decide_eq_false hq0] at HSN
        go_wp2_with fail
        go_round
        case rel => exact ⟨k + 1, by omega, by go_num, Lib.hid (by rw [HSN.out, hno.out]; rfl)⟩
        case measure => simp [intOf]; omega
    · obtain rfl : k = L.length := by omega
      go_wp2_with fail
      go_ret
      refine ⟨?_, HB1.out⟩
      have := hno.out
      rw [List.take_length] at this
      rw [HR.out, this]
      cases b <;> rfl

theorem xor255_fin : ∀ n : Fin 256, bits .xor .u8 (n.val : Int) 255 = ((255 - n.val : Nat) : Int) := by decide +kernel
theorem xor255 (x : UInt8) : bits .xor .u8 (x.toNat : Int) 255 = ((255 - x.toNat : Nat) : Int) := xor255_fin ⟨x.toNat, x.toNat_lt⟩
end Go.Proofs.Ytadgaeokiolmmaa
