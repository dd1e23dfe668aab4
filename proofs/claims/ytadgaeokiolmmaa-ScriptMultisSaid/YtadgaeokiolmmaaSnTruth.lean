/-
  script.Truth and the reference's. Conditions: sizes within the reach.
-/
import Derived.Test.YtadgaeokiolmmaaSnRef
namespace Go.Proofs.Ytadgaeokiolmmaa
open Go.RowKit

set_option maxHeartbeats 400000 in
theorem truth1_any (x : UInt8) (w : World) :
    Calls Try.prog 59 #[.int .u8 (x.toNat : Int)] w fun e w' => e = .returned (.bool (x != 0)) ∧ w = w' := by
  have hb : ((x.toNat : Int) != 0) = (x != 0) := by
    rw [Bool.eq_iff_iff]
    simp only [bne_iff_ne, ne_eq]
    exact not_congr ⟨fun h => u8_ext (by show x.toNat = 0; omega), fun h => by subst h; rfl⟩
  have HB := Lib.hid hb
  clear hb
  go_enter Try.func59, Try.ntmps59
  go_wp2
  go_ret
  exact ⟨by rw [← HB.out]; rfl, rfl⟩

/-- Is there one among these bytes, at the index that is answered? -/
def Found (w : World) (xs : List UInt8) (e : Ending) (w' : World) : Prop := ∃ i : Int, e = .returned (.int .i64 i) ∧ decide (0 ≤ i) = xs.any (· != 0) ∧ w = w'

theorem any_take {xs : List UInt8} {k : Nat} (h : k < xs.length) : (xs.take (k + 1)).any (· != 0) = ((xs.take k).any (· != 0) || xs[k] != 0) := by
  rw [List.take_succ_eq_append_getElem h, List.any_append]
  simp

set_option maxRecDepth 100000 in
set_option maxHeartbeats 800000 in
theorem index_truth (B : Nat) (x : Value) (xs : List UInt8) (w : World) (hx : Byt w B x xs) :
    Calls Try.prog 83 #[x, .func (.func 59) #[] #[]] w (Found w xs) := by
  have hlen := hx.len
  unfold maxLen at hlen
  obtain ⟨A, c, rfl⟩ := hx.form
  have hcap := hx.cap
  have HX := Lib.hid hx
  clear hx
  go_enter Try.func83, Try.ntmps83
  go_wp2_with fail
  go_loop [8] (fun s => ∃ k : Nat, k ≤ xs.length ∧ s = .int .i64 (k : Int) ∧ Hid ((xs.take k).any (· != 0) = false)) (fun s => xs.length - (intOf s).toNat)
  case atStart => exact ⟨0, Nat.zero_le _, rfl, Lib.hid (by simp)⟩
  case round =>
    obtain ⟨k, hk, rfl, hno⟩ := hrel
    by_cases hlt : k < xs.length
    · obtain ⟨A', c', e0, _, _, _, h4⟩ := HX.out
      obtain ⟨e1, _, e3⟩ := Value.slice.inj e0
      subst e1 e3
      obtain ⟨b, o, rfl, hb, hc⟩ := h4 (by rintro rfl; simp at hlt)
      have hcell : w.cell? ⟨b, o + k, none⟩ = some (.int .u8 ((xs[k]).toNat : Int)) := hc k _ (List.getElem?_eq_getElem hlt)
      have hsn := any_take hlt
      obtain ⟨q, hq⟩ : ∃ q, q = xs[k] := ⟨_, rfl⟩
      rw [← hq] at hcell hsn
      have HSN := Lib.hid hsn
      clear hc h4 hq hsn e0
      have hd : decide (k < xs.length) = true := by simpa using hlt
      by_cases hq0 : (q != 0) = true
      · have HT := Lib.hid (fun W => truth1_any q W)
        rw [hq0] at HT HSN
        clear hq0
        go_wp2_with fail
        refine (HT.out _).mono ?_
        rintro e w1 ⟨rfl, rfl⟩
        go_wp2_with fail
        go_ret
        refine ⟨k, rfl, ?_, rfl⟩
        rw [decide_eq_true (by omega)]
        have h2 : (xs.take (k + 1)).any (· != 0) = true := by rw [HSN.out]; simp
        symm
        rw [List.any_eq_true] at h2 ⊢
        obtain ⟨y, hy, hy2⟩ := h2
        exact ⟨y, List.mem_of_mem_take hy, hy2⟩
      · have hq1 : (q != 0) = false := by simpa using hq0
        have HT := Lib.hid (fun W => truth1_any q W)
        rw [hq1] at HT HSN
        clear hq0 hq1
        go_wp2_with fail
        refine (HT.out _).mono ?_
        rintro e w1 ⟨rfl, rfl⟩
        go_wp2_with fail
        go_round
        case rel => exact ⟨k + 1, by omega, by go_num, Lib.hid (by rw [HSN.out, hno.out]; rfl)⟩
        case measure => simp [intOf]; omega
    · obtain rfl : k = xs.length := by omega
      go_wp2_with fail
      go_ret
      refine ⟨-1, rfl, ?_, rfl⟩
      have := hno.out
      rw [List.take_length] at this
      rw [this]
      rfl

set_option maxHeartbeats 800000 in
theorem contains_truth (B : Nat) (x : Value) (xs : List UInt8) (w : World) (hx : Byt w B x xs) :
    Calls Try.prog 58 #[x, .func (.func 59) #[] #[]] w fun e w' => e = .returned (.bool (xs.any (· != 0))) ∧ w = w' := by
  have H := Lib.hid (index_truth B x xs w hx)
  obtain ⟨A, c, rfl⟩ := hx.form
  clear hx
  go_enter Try.func58, Try.ntmps58
  go_wp2_with fail
  refine H.out.mono ?_
  rintro e w1 ⟨i, rfl, hi, rfl⟩
  have HI := Lib.hid hi
  clear hi
  go_wp2_with fail
  go_ret
  exact ⟨by rw [← HI.out]; rfl, rfl⟩

set_option maxRecDepth 100000 in
set_option maxHeartbeats 800000 in
theorem truth_any (B : Nat) (x : Value) (xs : List UInt8) (w : World) (hx : Byt w B x xs) :
    Calls Try.prog 22 #[x] w fun e w' => e = .returned (.bool (truthB xs)) ∧ w = w' := by
  have hlen := hx.len
  unfold maxLen at hlen
  rcases snoc_cases xs with rfl | ⟨fr, q, rfl⟩
  · have H := Lib.hid (contains_truth B x [] w hx)
    obtain ⟨A, c, rfl⟩ := hx.form
    clear hx
    go_enter Try.func22, Try.ntmps22
    go_wp2_with fail
    refine H.out.mono ?_
    rintro e w1 ⟨rfl, rfl⟩
    go_wp2_with fail
    go_ret
    exact ⟨rfl, rfl⟩
  · have H := Lib.hid (contains_truth B x (fr ++ [q]) w hx)
    have HX := Lib.hid hx
    obtain ⟨A, c, e0, h1, h2, _, h4⟩ := hx
    subst e0
    obtain ⟨b, o, rfl, hb, hc⟩ := h4 (by simp)
    have hcell : w.cell? ⟨b, o + fr.length, none⟩ = some (.int .u8 (q.toNat : Int)) := hc fr.length q (by simp)
    clear hc h4
    rw [List.length_append, List.length_cons, List.length_nil, Nat.zero_add] at H h1 hlen ⊢
    unfold maxLen at h2
    by_cases hq : q = 128
    · subst hq
      have ht : truthB (fr ++ [128]) = fr.any (· != 0) := truth_sign fr
      have HT := Lib.hid ht
      have H2 := Lib.hid (contains_truth B _ fr w (by
        refine ⟨some ⟨b, o, none⟩, c, rfl, by omega, by unfold maxLen; omega, (by intro h; cases h), fun _ => ⟨b, o, rfl, hb, fun j u hu => ?_⟩⟩
        obtain ⟨A', c', e', _, _, _, h4⟩ := HX.out
        obtain ⟨e1, _, e3⟩ := Value.slice.inj e'
        subst e1 e3
        obtain ⟨b', o', e1, hb', hc'⟩ := h4 (by simp)
        cases e1
        exact hc' j u (by rw [List.getElem?_append_left (List.getElem?_eq_some_iff.1 hu).1]; exact hu)))
      clear ht H
      go_enter Try.func22, Try.ntmps22
      go_wp2_with fail
      refine H2.out.mono ?_
      rintro e w1 ⟨rfl, rfl⟩
      go_wp2_with fail
      go_ret
      exact ⟨by rw [HT.out]; rfl, rfl⟩
    · have ht : truthB (fr ++ [q]) = (fr.any (· != 0) || q != 0) := truth_plain hq
      have HT := Lib.hid ht
      have hq2 : ((q.toNat : Int) == 128) = false := by
        have : q.toNat ≠ 128 := fun h => hq (u8_ext h)
        simp only [beq_eq_false_iff_ne, ne_eq]
        omega
      clear ht
      go_enter Try.func22, Try.ntmps22
      go_wp2_with fail
      refine H.out.mono ?_
      rintro e w1 ⟨rfl, rfl⟩
      go_wp2_with fail
      go_ret
      exact ⟨by rw [HT.out]; rfl, rfl⟩

theorem truth_at {xs : List UInt8} {k : Nat} (h : k < xs.length) (h0 : xs[k] ≠ 0) (h1 : xs[k] = 128 → k + 1 < xs.length) : truthB xs = true := by
  rcases snoc_cases xs with rfl | ⟨fr, q, rfl⟩
  · simp at h
  · rw [List.length_append, List.length_cons, List.length_nil, Nat.zero_add] at h h1
    by_cases hk : k < fr.length
    · rw [List.getElem_append_left hk] at h0
      have ha : fr.any (· != 0) = true := List.any_eq_true.2 ⟨fr[k], List.getElem_mem hk, by simpa using h0⟩
      by_cases hq : q = 128
      · subst hq; rw [truth_sign, ha]
      · rw [truth_plain hq, ha]; rfl
    · obtain rfl : k = fr.length := by omega
      have e : (fr ++ [q])[fr.length]'(by simp) = q := by simp
      rw [e] at h0 h1
      have hq : q ≠ 128 := fun hq => by have := h1 hq; omega
      rw [truth_plain hq, show (q != 0) = true by simpa using h0, Bool.or_true]
theorem truth_none {xs : List UInt8} (h : ∀ k (hk : k < xs.length), xs[k] = 0 ∨ (xs[k] = 128 ∧ k + 1 = xs.length)) : truthB xs = false := by
  rcases snoc_cases xs with rfl | ⟨fr, q, rfl⟩
  · rfl
  · have ha : fr.any (· != 0) = false := by
      rw [List.any_eq_false]
      intro c hc
      obtain ⟨k, hk, e⟩ := List.getElem_of_mem hc
      have h2 := h k (by simp; omega)
      rw [List.getElem_append_left hk, e] at h2
      rcases h2 with h2 | ⟨_, h2⟩
      · simp [h2]
      · simp at h2; omega
    have h2 := h fr.length (by simp)
    have e : (fr ++ [q])[fr.length]'(by simp) = q := by simp
    rw [e] at h2
    rcases h2 with h2 | ⟨h2, _⟩
    · subst h2; rw [truth_plain (by decide), ha]; rfl
    · subst h2; rw [truth_sign, ha]
theorem nz_int {q : UInt8} (h : q ≠ 0) : ((q.toNat : Int) != 0) = true := by
  have : q.toNat ≠ 0 := fun e => h (u8_ext e)
  simp only [bne_iff_ne, ne_eq]
  omega
theorem eq128_int {q : UInt8} (h : q ≠ 128) : ((q.toNat : Int) == 128) = false := by
  have : q.toNat ≠ 128 := fun e => h (u8_ext e)
  simp only [beq_eq_false_iff_ne, ne_eq]
  omega

set_option maxRecDepth 100000 in
set_option maxHeartbeats 1600000 in
theorem rtruth_any (B : Nat) (x : Value) (xs : List UInt8) (w : World) (hx : Byt w B x xs) :
    Calls Try.prog 23 #[x] w fun e w' => e = .returned (.bool (truthB xs)) ∧ w = w' := by
  have hlen := hx.len
  unfold maxLen at hlen
  obtain ⟨A, c, rfl⟩ := hx.form
  have hcap := hx.cap
  have HX := Lib.hid hx
  clear hx
  go_enter Try.func23, Try.ntmps23
  go_wp2_with fail
  go_loop [3] (fun s => ∃ k : Nat, k ≤ xs.length ∧ s = .int .i64 (k : Int) ∧ Hid (∀ j (hj : j < xs.length), j < k → xs[j] = 0 ∨ (xs[j] = 128 ∧ j + 1 = xs.length))) (fun s => xs.length - (intOf s).toNat)
  case atStart => exact ⟨0, Nat.zero_le _, rfl, Lib.hid (fun j _ h => by omega)⟩
  case round =>
    obtain ⟨k, hk, rfl, hno⟩ := hrel
    by_cases hlt : k < xs.length
    · obtain ⟨A', c', e0, _, _, _, h4⟩ := HX.out
      obtain ⟨e1, _, e3⟩ := Value.slice.inj e0
      subst e1 e3
      obtain ⟨b, o, rfl, hb, hc⟩ := h4 (by rintro rfl; simp at hlt)
      have hcell : w.cell? ⟨b, o + k, none⟩ = some (.int .u8 ((xs[k]).toNat : Int)) := hc k _ (List.getElem?_eq_getElem hlt)
      obtain ⟨q, hq⟩ : ∃ q, q = xs[k] := ⟨_, rfl⟩
      rw [← hq] at hcell
      have HQ := Lib.hid hq
      clear hc h4 hq e0
      have hd : decide (k < xs.length) = true := by simpa using hlt
      have next : (q = 0 ∨ (q = 128 ∧ k + 1 = xs.length)) → Hid (∀ j (hj : j < xs.length), j < k + 1 → xs[j] = 0 ∨ (xs[j] = 128 ∧ j + 1 = xs.length)) := fun h => Lib.hid fun j hj hjk => by
        by_cases e : j = k
        · subst e; rw [← HQ.out]; exact h
        · exact hno.out j hj (by omega)
      have NX := Lib.hid next
      clear next
      by_cases h0 : q = 0
      · subst h0
        have hn := Lib.hid (NX.out (.inl rfl))
        have hb0 : (((0 : UInt8).toNat : Int) != 0) = false := rfl
        go_wp2_with fail
        go_round
        case rel => exact ⟨k + 1, by omega, by go_num, hn.out⟩
        case measure => simp [intOf]; omega
      · have hb0 := nz_int h0
        by_cases h8 : q = 128
        · subst h8
          have hb8 : (((128 : UInt8).toNat : Int) == 128) = true := rfl
          by_cases hl : k + 1 = xs.length
          · have hn := Lib.hid (NX.out (.inr ⟨rfl, hl⟩))
            have hkl : ((k : Int) == (xs.length : Int) - 1) = true := by simp only [beq_iff_eq]; omega
            go_wp2_with fail
            go_round
            case rel => exact ⟨k + 1, by omega, by go_num, hn.out⟩
            case measure => simp [intOf]; omega
          · have hkl : ((k : Int) == (xs.length : Int) - 1) = false := by simp only [beq_eq_false_iff_ne, ne_eq]; omega
            go_wp2_with fail
            go_ret
            exact ⟨by rw [truth_at (k := k) hlt (by rw [← HQ.out]; decide) (fun _ => by omega)]; rfl, rfl⟩
        · have hb8 := eq128_int h8
          go_wp2_with fail
          go_ret
          exact ⟨by rw [truth_at (k := k) hlt (by rw [← HQ.out]; exact h0) (fun h => absurd (HQ.out.trans h) h8)]; rfl, rfl⟩
    · obtain rfl : k = xs.length := by omega
      go_wp2_with fail
      go_ret
      exact ⟨by rw [truth_none (fun k hk => hno.out k hk hk)]; rfl, rfl⟩
end Go.Proofs.Ytadgaeokiolmmaa
