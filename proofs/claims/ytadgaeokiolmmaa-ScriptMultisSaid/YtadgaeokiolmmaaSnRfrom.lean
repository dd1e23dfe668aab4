/-
  The reference's FromNumber of layer 11. Conditions: sizes within the reach.
-/
import Derived.Test.YtadgaeokiolmmaaSnFrom
namespace Go.Proofs.Ytadgaeokiolmmaa
open Go.RowKit

/-- The bytes with the sign taken off. -/
def bare (fr : List UInt8) (q : UInt8) : List UInt8 := fr ++ [UInt8.ofNat (q.toNat % 128)]
theorem bare_length (fr : List UInt8) (q : UInt8) : (bare fr q).length = fr.length + 1 := by simp [bare]
theorem bare_drop {fr : List UInt8} {q : UInt8} {k : Nat} (h : k < fr.length) : valN ((bare fr q).drop k) = valN ((bare fr q).drop (k + 1)) * 256 + (fr[k]).toNat := by
  rw [List.drop_eq_getElem_cons (by rw [bare_length]; omega)]
  show ((bare fr q)[k]'(by rw [bare_length]; omega)).toNat + 256 * valN ((bare fr q).drop (k + 1)) = _
  have : (bare fr q)[k]'(by rw [bare_length]; omega) = fr[k] := by unfold bare; exact List.getElem_append_left h
  rw [this]
  omega
theorem bare_last (fr : List UInt8) (q : UInt8) : valN ((bare fr q).drop fr.length) = q.toNat % 128 := by
  unfold bare
  rw [List.drop_append_of_le_length (Nat.le_refl _), List.drop_length]
  show (UInt8.ofNat (q.toNat % 128)).toNat + 256 * 0 = _
  rw [to_lo]
  omega
theorem bare_end (fr : List UInt8) (q : UInt8) : valN ((bare fr q).drop (fr.length + 1)) = 0 := by rw [List.drop_eq_nil_of_le (by rw [bare_length]; exact Nat.le_refl _)]; rfl
theorem bare_lt {fr : List UInt8} {q : UInt8} {k : Nat} (hl : fr.length ≤ 7) (h : 0 < k) : valN ((bare fr q).drop k) < 72057594037927936 := by
  have h1 := valN_lt ((bare fr q).drop k)
  rw [List.length_drop, bare_length] at h1
  have h2 : 256 ^ (fr.length + 1 - k) ≤ 256 ^ 7 := Nat.pow_le_pow_right (by decide) (by omega)
  have h3 : (256 : Nat) ^ 7 = 72057594037927936 := by decide
  omega

theorem rfrom_size (B : Nat) (x : Value) (xs : List UInt8) (most : Int) (w : World) (hx : Byt w B x xs) (hl : most < xs.length ∨ 8 < xs.length) :
    Calls Try.prog 25 #[x, .int .i64 most] w fun e w' => e = .returned (.tuple #[.int .i64 0, .int .i64 2]) ∧ w = w' := by
  have hlen := hx.len
  unfold maxLen at hlen
  obtain ⟨A, c, rfl⟩ := hx.form
  clear hx
  by_cases h1 : most < xs.length
  · clear hl
    go_enter Try.func25, Try.ntmps25
    go_wp2_with fail
    go_ret2
    exact ⟨rfl, rfl⟩
  · have h8 : (8 : Int) < xs.length := by omega
    clear hl
    have hd : decide (most < (xs.length : Int)) = false := decide_eq_false h1
    go_enter Try.func25, Try.ntmps25
    go_wp2_with fail
    go_ret2
    exact ⟨rfl, rfl⟩

theorem rfrom_nil (B : Nat) (x : Value) (most : Int) (hm0 : 0 ≤ most) (w : World) (hx : Byt w B x []) :
    Calls Try.prog 25 #[x, .int .i64 most] w fun e w' => e = .returned (.tuple #[.int .i64 0, .int .i64 0]) ∧ w = w' := by
  obtain ⟨A, c, rfl⟩ := hx.form
  clear hx
  have hd : decide (most < 0) = false := decide_eq_false (by omega)
  go_enter Try.func25, Try.ntmps25
  go_wp2_with fail
  go_ret2
  exact ⟨rfl, rfl⟩

set_option maxRecDepth 100000 in
set_option maxHeartbeats 3200000 in
theorem rfrom_num (B b o c : Nat) (fr : List UInt8) (q : UInt8) (hl : fr.length ≤ 7) (most : Int) (hm0 : (fr.length : Int) + 1 ≤ most) (hm1 : most ≤ 9223372036854775807) (w : World)
    (hx : Byt w B (.slice (some ⟨b, o, none⟩) (fr.length + 1) c) (fr ++ [q])) :
    Calls Try.prog 25 #[.slice (some ⟨b, o, none⟩) (fr.length + 1) c, .int .i64 most] w fun e w' => e = .returned (.tuple #[.int .i64 (if fewest (fr ++ [q]) then valS (fr ++ [q]) else 0), .int .i64 (if fewest (fr ++ [q]) then 0 else 3)]) ∧ w = w' := by
  have hq128 : q.toNat % 128 < 128 := Nat.mod_lt _ (by decide)
  obtain ⟨A', c', e0, g1, g2, _, h4⟩ := hx
  obtain ⟨e1, e2, e3⟩ := Value.slice.inj e0
  subst e1 e3
  clear e2
  obtain ⟨b', o', e1, hb, hc⟩ := h4 (by simp)
  cases e1
  have hcell : w.cell? ⟨b, o + fr.length, none⟩ = some (.int .u8 (q.toNat : Int)) := hc fr.length q (by simp)
  have hcells : ∀ k (hk : k < fr.length), w.cell? ⟨b, o + k, none⟩ = some (.int .u8 ((fr[k]).toNat : Int)) := fun k hk => hc k _ (by rw [List.getElem?_append_left hk]; exact List.getElem?_eq_getElem hk)
  rw [List.length_append, List.length_cons, List.length_nil, Nat.zero_add] at g1
  unfold maxLen at g2
  have HC := Lib.hid hcells
  clear h4 hc e0 hcells
  have hq256 := q.toNat_lt
  have hd : decide (most < (fr.length : Int) + 1) = false := decide_eq_false (by omega)
  obtain ⟨r1, hr1⟩ : ∃ r1, r1 = (if fewest (fr ++ [q]) then valS (fr ++ [q]) else 0) := ⟨_, rfl⟩
  obtain ⟨r2, hr2⟩ : ∃ r2 : Int, r2 = (if fewest (fr ++ [q]) then 0 else 3) := ⟨_, rfl⟩
  rw [← hr1, ← hr2]
  have HR := Lib.hid (And.intro hr1 hr2)
  clear hr1 hr2
  go_enter Try.func25, Try.ntmps25
  go_wp2_with fail
  go_loop [6, 7] (fun m i => ∃ k : Nat, k ≤ fr.length + 1 ∧ i = .int .i64 ((k : Int) - 1) ∧ m = .int .u64 (valN ((bare fr q).drop k) : Nat)) (fun _ i => (intOf i + 1).toNat)
  case atStart => exact ⟨fr.length + 1, Nat.le_refl _, by congr 1; omega, by rw [bare_end]; rfl⟩
  case round =>
    obtain ⟨k, hk, rfl, rfl⟩ := hrel
    by_cases hlt : 0 < k
    · obtain ⟨j, rfl⟩ : ∃ j, k = j + 1 := ⟨k - 1, by omega⟩
      have hvb := bare_lt (fr := fr) (q := q) hl hlt
      have ei : ((j + 1 : Nat) : Int) - 1 = (j : Int) := by omega
      rw [ei]
      clear ei
      by_cases hj : j = fr.length
      · subst hj
        rw [bare_end]
        have hbl := bare_last fr q
        have hee : ((fr.length : Int) == (fr.length : Int)) = true := by simp
        have HBL := Lib.hid hbl
        clear hbl
        go_wp2_with fail
        go_round
        case rel => exact ⟨fr.length, by omega, rfl, by rw [HBL.out]; first | rfl | (congr 1; omega)⟩
        case measure => simp [intOf]
      · have hcj := HC.out j (by omega)
        have hdr := bare_drop (fr := fr) (q := q) (k := j) (by omega)
        obtain ⟨z, hz⟩ : ∃ z, z = fr[j]'(by omega) := ⟨_, rfl⟩
        rw [← hz] at hcj hdr
        have hz256 := z.toNat_lt
        obtain ⟨V, hV⟩ : ∃ V, V = valN ((bare fr q).drop (j + 1)) := ⟨_, rfl⟩
        rw [← hV] at hdr hvb ⊢
        have HD := Lib.hid hdr
        have hne : ((j : Int) == (fr.length : Int)) = false := by simp only [beq_eq_false_iff_ne, ne_eq]; omega
        clear hdr hV hz
        go_wp2_with fail
        go_round
        case rel => exact ⟨j, by omega, rfl, by rw [HD.out]; first | rfl | (congr 1; omega)⟩
        case measure => simp [intOf]
    · obtain rfl : k = 0 := by omega
      rw [List.drop_zero]
      have hvl := valN_last_lt (fr := fr) (x := UInt8.ofNat (q.toNat % 128)) hl (by rw [to_lo]; omega)
      obtain ⟨V, hV⟩ : ∃ V, V = valN (bare fr q) := ⟨_, rfl⟩
      have hvl2 : V < 9223372036854775808 := by rw [hV]; exact hvl
      have hfew : fewest (fr ++ [q]) = !(decide (q.toNat % 128 = 0) && (decide (fr.length ≤ 0) || decide ((fr.getLast?.getD 0).toNat < 128))) := by
        unfold fewest
        rw [List.getLast?_concat, List.dropLast_concat, List.length_append, List.length_cons, List.length_nil]
        simp
      have hvs : valS (fr ++ [q]) = if 128 ≤ q.toNat then -(V : Int) else V := by
        split
        · rw [valS_hi ‹_›, hV]; rfl
        · rw [valS_lo (by omega), hV]; unfold bare; rw [lo128 (by omega)]
      rw [← hV]
      clear hV hvl
      have HFW := Lib.hid hfew
      have HVS := Lib.hid hvs
      clear hfew hvs
      have yes : fewest (fr ++ [q]) = true → Hid (r1 = (if 128 ≤ q.toNat then -(V : Int) else V) ∧ r2 = 0) := fun h => Lib.hid (by
        obtain ⟨h1, h2⟩ := HR.out
        rw [h1, h2, if_pos h, if_pos h, HVS.out]
        exact ⟨rfl, rfl⟩)
      have no : fewest (fr ++ [q]) = false → Hid (r1 = 0 ∧ r2 = 3) := fun h => Lib.hid (by
        obtain ⟨h1, h2⟩ := HR.out
        rw [h1, h2, h]
        exact ⟨rfl, rfl⟩)
      have YES := Lib.hid yes
      have NO := Lib.hid no
      clear HR HVS yes no
      by_cases hy : q.toNat % 128 = 0
      · have hy2 : ((q.toNat : Int) % 128 == 0) = true := by simp only [beq_iff_eq]; omega
        rw [decide_eq_true hy, Bool.true_and] at HFW
        rcases snoc_cases fr with rfl | ⟨gr, z, rfl⟩
        · have hn := NO.out (by rw [HFW.out]; rfl)
          have hcell0 : w.cell? ⟨b, o, none⟩ = some (.int .u8 (q.toNat : Int)) := hcell
          rw [List.length_nil, Nat.zero_add] at g1 ⊢
          clear YES NO HFW HC hcell
          go_wp2_with fail
          go_ret2
          exact ⟨by rw [hn.out.1, hn.out.2]; rfl, rfl⟩
        · have hz := HC.out gr.length (by simp)
          have e : (gr ++ [z])[gr.length]'(by simp) = z := by simp
          rw [e] at hz
          clear e
          rw [show decide ((gr ++ [z]).length ≤ 0) = false by simp, Bool.false_or, List.getLast?_concat] at HFW
          have hne : (((gr.length : Int) + 1 + 1) == 1) = false := by simp only [beq_eq_false_iff_ne, ne_eq]; omega
          rw [List.length_append, List.length_cons, List.length_nil, Nat.zero_add] at hcell hl g1 hm0 ⊢
          by_cases hz8 : z.toNat < 128
          · have hn := NO.out (by rw [HFW.out]; simpa using hz8)
            have hzi : decide ((z.toNat : Int) < 128) = true := decide_eq_true (by omega)
            clear YES NO HFW HC
            go_wp2_with fail
            go_ret2
            exact ⟨by rw [hn.out.1, hn.out.2]; rfl, rfl⟩
          · have hn := YES.out (by rw [HFW.out]; simpa using hz8)
            have hzi : decide ((z.toNat : Int) < 128) = false := decide_eq_false (by omega)
            clear YES NO HFW HC
            by_cases hq : 128 ≤ q.toNat
            · rw [if_pos hq] at hn
              go_wp2_with fail
              go_ret2
              exact ⟨by rw [hn.out.1, hn.out.2]; rfl, rfl⟩
            · rw [if_neg hq] at hn
              go_wp2_with fail
              go_ret2
              exact ⟨by rw [hn.out.1, hn.out.2]; rfl, rfl⟩
      · have hy2 : ((q.toNat : Int) % 128 == 0) = false := by simp only [beq_eq_false_iff_ne, ne_eq]; omega
        have hn := YES.out (by rw [HFW.out, decide_eq_false hy]; rfl)
        clear YES NO HFW HC
        by_cases hq : 128 ≤ q.toNat
        · rw [if_pos hq] at hn
          go_wp2_with fail
          go_ret2
          exact ⟨by rw [hn.out.1, hn.out.2]; rfl, rfl⟩
        · rw [if_neg hq] at hn
          go_wp2_with fail
          go_ret2
          exact ⟨by rw [hn.out.1, hn.out.2]; rfl, rfl⟩

theorem rfrom_any (B : Nat) (x : Value) (xs : List UInt8) (most : Int) (hm1 : most ≤ 9223372036854775807) (w : World) (hx : Byt w B x xs) :
    Calls Try.prog 25 #[x, .int .i64 most] w fun e w' => e = .returned (.tuple #[.int .i64 (fromB xs most).1, .int .i64 (fromB xs most).2]) ∧ w = w' := by
  by_cases hl : most < xs.length ∨ 8 < xs.length
  · have hf : fromB xs most = (0, 2) := by unfold fromB; rw [if_pos hl]
    rw [hf]
    exact rfrom_size B x xs most w hx hl
  · rcases snoc_cases xs with rfl | ⟨fr, q, rfl⟩
    · have hf : fromB [] most = (0, 0) := by unfold fromB; rw [if_neg hl]; rfl
      rw [hf]
      exact rfrom_nil B x most (by simp at hl; omega) w hx
    · have hf : fromB (fr ++ [q]) most = (if fewest (fr ++ [q]) then valS (fr ++ [q]) else 0, if fewest (fr ++ [q]) then 0 else 3) := by
        unfold fromB
        rw [if_neg hl, if_neg (by simp)]
        split <;> rfl
      rw [hf]
      obtain ⟨A, c, e, h1, h2, h3, h4⟩ := hx
      obtain ⟨b, o, e1, hb, hc⟩ := h4 (by simp)
      have hx : Byt w B x (fr ++ [q]) := ⟨A, c, e, h1, h2, h3, h4⟩
      rw [e1] at e
      rw [e] at hx ⊢
      rw [List.length_append, List.length_cons, List.length_nil, Nat.zero_add] at hx hl ⊢
      exact rfrom_num B b o c fr q (by omega) most (by omega) hm1 w hx
end Go.Proofs.Ytadgaeokiolmmaa
