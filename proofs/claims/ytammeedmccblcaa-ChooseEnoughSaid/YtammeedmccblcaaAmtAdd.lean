/-
  Sums of lists of amounts, by the program and by the reference. Conditions: none.
-/
import Derived.Test.YtammeedmccblcaaAmt
import Derived.Test.YtammeedmccblcaaInts
namespace Go.Proofs.Ytammeedmccblcaa
open Go.RowKit

theorem addF_end {n : Int} {zs : List Int} {k : Nat} (h : zs.length ≤ k) : addF n (zs.drop k) = (n, 0) := by rw [List.drop_of_length_le h]; rfl
theorem addF_at {n : Int} {zs : List Int} {k : Nat} (h : k < zs.length) (h1 : amtB zs[k] = true) (h2 : amtB (n + zs[k]) = true) : addF n (zs.drop k) = addF (n + zs[k]) (zs.drop (k + 1)) := by
  rw [List.drop_eq_getElem_cons h, addF_go h1 h2]
theorem addF_out {n : Int} {zs : List Int} {k : Nat} (h : k < zs.length) (h1 : amtB zs[k] = false ∨ amtB (n + zs[k]) = false) : addF n (zs.drop k) = (0, 6) := by
  rw [List.drop_eq_getElem_cons h, addF_no h1]

set_option maxRecDepth 100000 in
set_option maxHeartbeats 800000 in
theorem add_any (B : Nat) (v : Value) (zs : List Int) (w : World) (hv : Ints .i64 w B v zs) :
    Calls Try.prog 55 #[v] w fun e w' => e = .returned (.tuple #[.int .i64 (addF 0 zs).1, .int .i64 (addF 0 zs).2]) ∧ w = w' := by
  have hlen := hv.len
  unfold maxLen at hlen
  obtain ⟨A, c, rfl, _, _, _, hx⟩ := hv
  have HX := Lib.hid hx
  clear hx
  obtain ⟨S, hS⟩ : ∃ S, S = addF 0 zs := ⟨_, rfl⟩
  rw [← hS]
  have HS := Lib.hid hS
  clear hS
  go_enter Try.func55, Try.ntmps55
  go_wp2
  go_loop [4, 9] (fun s i => ∃ (k : Nat) (n : Int), k ≤ zs.length ∧ i = .int .i64 k ∧ s = .int .i64 n ∧ amtB n = true ∧ addF n (zs.drop k) = S) (fun _ i => zs.length - (intOf i).toNat)
  case atStart => exact ⟨0, 0, Nat.zero_le _, rfl, rfl, rfl, HS.out.symm⟩
  case round =>
    obtain ⟨k, n, hk, rfl, rfl, hn, hs⟩ := hrel
    have HR := Lib.hid hs
    clear hs
    have bn := amtB_true hn
    by_cases hlt : k < zs.length
    · obtain ⟨b, o, rfl, _, hc⟩ := HX.out (by rintro rfl; simp at hlt)
      have hck : w.cell? ⟨b, o + k, none⟩ = some (.int .i64 zs[k]) := hc k _ (List.getElem?_eq_getElem hlt)
      obtain ⟨z, hz⟩ : ∃ z, z = zs[k] := ⟨_, rfl⟩
      rw [← hz] at hck
      have HZ := Lib.hid hz
      clear hz hc
      cases h1 : amtB z with
      | false =>
        go_wp2_with (go_at_call 24; refine (valid_any _ _).mono ?_; rintro e w' ⟨rfl, rfl⟩)
        go_ret2
        exact ⟨ret_two (by rw [← HR.out, addF_out hlt (.inl (by rw [← HZ.out]; exact h1))]), rfl⟩
      | true =>
        have bz := amtB_true h1
        cases h2 : amtB (n + z) with
        | false =>
          go_wp2_with (go_at_call 24; refine (valid_any _ _).mono ?_; rintro e w' ⟨rfl, rfl⟩)
          go_ret2
          exact ⟨ret_two (by rw [← HR.out, addF_out hlt (.inr (by rw [← HZ.out]; exact h2))]), rfl⟩
        | true =>
          go_wp2_with (go_at_call 24; refine (valid_any _ _).mono ?_; rintro e w' ⟨rfl, rfl⟩)
          go_round
          case rel => exact ⟨k + 1, n + z, by omega, by go_num, rfl, h2, by rw [← HR.out, addF_at hlt (by rw [← HZ.out]; exact h1) (by rw [← HZ.out]; exact h2), ← HZ.out]⟩
          case measure => simp [intOf]; omega
    · go_wp2
      go_ret2
      exact ⟨ret_two (by rw [← HR.out, addF_end (by omega)]), rfl⟩

set_option maxRecDepth 100000 in
set_option maxHeartbeats 800000 in
theorem refAdd_any (B : Nat) (v : Value) (zs : List Int) (w : World) (hv : Ints .i64 w B v zs) :
    Calls Try.prog 22 #[v] w fun e w' => e = .returned (.tuple #[.int .i64 (addF 0 zs).1, .int .i64 (addF 0 zs).2]) ∧ w = w' := by
  have hlen := hv.len
  unfold maxLen at hlen
  obtain ⟨A, c, rfl, _, _, _, hx⟩ := hv
  have HX := Lib.hid hx
  clear hx
  obtain ⟨S, hS⟩ : ∃ S, S = addF 0 zs := ⟨_, rfl⟩
  rw [← hS]
  have HS := Lib.hid hS
  clear hS
  go_enter Try.func22, Try.ntmps22
  go_wp2
  go_loop [4, 5] (fun s i => ∃ (k : Nat) (n : Int), k ≤ zs.length ∧ i = .int .i64 k ∧ s = .int .i64 n ∧ amtB n = true ∧ addF n (zs.drop k) = S) (fun _ i => zs.length - (intOf i).toNat)
  case atStart => exact ⟨0, 0, Nat.zero_le _, rfl, rfl, rfl, HS.out.symm⟩
  case round =>
    obtain ⟨k, n, hk, rfl, rfl, hn, hs⟩ := hrel
    have HR := Lib.hid hs
    clear hs
    have bn := amtB_true hn
    by_cases hlt : k < zs.length
    · obtain ⟨b, o, rfl, _, hc⟩ := HX.out (by rintro rfl; simp at hlt)
      have hck : w.cell? ⟨b, o + k, none⟩ = some (.int .i64 zs[k]) := hc k _ (List.getElem?_eq_getElem hlt)
      obtain ⟨z, hz⟩ : ∃ z, z = zs[k] := ⟨_, rfl⟩
      rw [← hz] at hck
      have HZ := Lib.hid hz
      clear hz hc
      cases h1 : amtB z with
      | false =>
        go_wp2_with (go_at_call 26; refine (refValid_any _ _).mono ?_; rintro e w' ⟨rfl, rfl⟩)
        go_ret2
        exact ⟨ret_two (by rw [← HR.out, addF_out hlt (.inl (by rw [← HZ.out]; exact h1))]), rfl⟩
      | true =>
        have bz := amtB_true h1
        cases h2 : amtB (n + z) with
        | false =>
          go_wp2_with (go_at_call 26; refine (refValid_any _ _).mono ?_; rintro e w' ⟨rfl, rfl⟩)
          go_ret2
          exact ⟨ret_two (by rw [← HR.out, addF_out hlt (.inr (by rw [← HZ.out]; exact h2))]), rfl⟩
        | true =>
          go_wp2_with (go_at_call 26; refine (refValid_any _ _).mono ?_; rintro e w' ⟨rfl, rfl⟩)
          go_round
          case rel => exact ⟨k + 1, n + z, by omega, by go_num, rfl, h2, by rw [← HR.out, addF_at hlt (by rw [← HZ.out]; exact h1) (by rw [← HZ.out]; exact h2), ← HZ.out]⟩
          case measure => simp [intOf]; omega
    · go_wp2
      go_ret2
      exact ⟨ret_two (by rw [← HR.out, addF_end (by omega)]), rfl⟩
end Go.Proofs.Ytammeedmccblcaa
