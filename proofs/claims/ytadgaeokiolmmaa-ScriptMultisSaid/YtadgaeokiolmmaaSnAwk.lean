/-
  The fixed fact of layer 11. Conditions: none.
-/
import Derived.Test.YtadgaeokiolmmaaSnPush
namespace Go.Proofs.Ytadgaeokiolmmaa
open Go.RowKit

set_option maxHeartbeats 400000 in
theorem bclone_any (B : Nat) (x : Value) (xs : List UInt8) (w : World) (hr : Byt w B x xs) (hlen : xs.length ≤ 140737488355328) :
    Calls Try.prog 66 #[x] w (Fresh w xs) := by
  obtain ⟨i0, hi, hz0, hz1, hz2⟩ := info_parts info_u8
  obtain ⟨A, c, hx⟩ := hr.form
  subst hx
  rcases A with _ | ad
  · have hnil : xs = [] := by
      obtain ⟨A', c', e, _, _, hA, _⟩ := hr
      exact (hA (Value.slice.inj e).1.symm).1
    subst hnil
    have hq := Lib.run_eql_slice_nil (P := Try.prog) w 22 5 none 0 c 0 0 slice_u8
    go_enter Try.func66, Try.ntmps66
    go_wp2
    go_ret
    exact fresh_of (World.ownsRow_nil _ _ _ _) (Below.refl _ _)
  · have hq := Lib.run_eql_slice_nil (P := Try.prog) w 22 5 (some ad) xs.length c 0 0 slice_u8
    have hr1 : Byt (w.alloc (.cells #[] 5)) B (.slice (some ad) xs.length c) xs := by
      obtain ⟨A', c', e, h1, h2, h3, h4⟩ := hr
      refine ⟨A', c', e, h1, h2, h3, fun hne => ?_⟩
      obtain ⟨b, o, e1, hb, hc⟩ := h4 hne
      exact ⟨b, o, e1, hb, fun j u hu => cell_later (Below.alloc (Below.refl _ _) (Nat.le_refl _) _) (hc j u hu)⟩
    have hown : (w.alloc (.cells #[] 5)).ownsRow w.heap.size 5 1 (.slice (some ⟨w.heap.size, 0, none⟩) 0 0) 0 [] :=
      World.ownsRow_made w #[] 0 (Nat.le_refl _) (by unfold maxLen; omega) rfl
    go_enter Try.func66, Try.ntmps66
    go_wp2_with (at_builtin; refine wpList_append_bytes rfl (.tmp 5) (.tmp 6) 22 rfl w.heap.size 5 i0 slice_u8 hi hz0 hz1 hz2 _ 0 [] rfl hown B _ xs rfl hr1 (by omega) (by simp) ?_; intro v1 w1 hown1 hg1 hat1; obtain ⟨A1, c1, rfl⟩ := own_form hown1)
    go_ret
    rw [Nat.zero_add] at *
    exact fresh_of hown1 ((Below.alloc (Below.refl _ _) (Nat.le_refl _) _).grown hg1 (by simp) (fun k hk => by cases hk; exact Nat.le_refl _))


theorem prog_short (B : Nat) (x : Value) (xs : List UInt8) (w : World) (hx : Byt w B x xs) (hl : xs.length < 4) :
    Calls Try.prog 29 #[x] w fun e w' => e = .returned (.tuple #[.int .i64 0, .slice none 0 0, .bool false]) ∧ w = w' := by
  obtain ⟨A, c, rfl⟩ := hx.form
  clear hx
  have hd : decide ((xs.length : Int) < 4) = true := decide_eq_true (by omega)
  go_enter Try.func29, Try.ntmps29
  go_wp2_with fail
  go_ret3
  exact ⟨rfl, rfl⟩

theorem multi_few (A : Option Addr) (n c : Nat) (w : World) (hn : n < 4) :
    Calls Try.prog 64 #[.slice A n c] w fun e w' => e = .returned (.bool false) ∧ w = w' := by
  have hd : decide ((n : Int) - 3 < 1) = true := decide_eq_true (by omega)
  go_enter Try.func64, Try.ntmps64
  go_wp2_with fail
  go_ret
  exact ⟨rfl, rfl⟩

theorem parse_fixed : parseP [106, 1, 2] = some [(106, []), (1, [2])] := by
  rw [parseP_ok (by decide), show (opR 106 [1, 2]).2.2 = [1, 2] by decide, parseP_ok (by decide), show (opR 1 [2]).2.2 = [] by decide, parseP_nil]
  decide
theorem parse_fixed2 : parseP [1, 2] = some [(1, [2])] := by
  rw [parseP_ok (by decide), show (opR 1 [2]).2.2 = [] by decide, parseP_nil]
  decide

def KindSix (w : World) (e : Ending) (w' : World) : Prop := ∃ A c, e = .returned (.tuple #[.int .i64 6, .slice A 1 c]) ∧ Below w.heap.size w w'

set_option maxRecDepth 100000 in
set_option maxHeartbeats 3200000 in
theorem kind_fixed (B g : Nat) (w : World) (hx : Byt w B (.slice (some ⟨g, 0, none⟩) 3 3) [106, 1, 2]) (hB : B ≤ w.heap.size) :
    Calls Try.prog 26 #[.slice (some ⟨g, 0, none⟩) 3 3] w (KindSix w) := by
  have hP := Lib.hid (prog_short B _ [106, 1, 2] w hx (by simp))
  have hR := parse_any B _ [106, 1, 2] w hx (by simp)
  unfold Parsed at hR
  rw [parse_fixed] at hR
  dsimp only at hR
  have HR := Lib.hid hR
  obtain ⟨A', c', e0, _, _, _, h4⟩ := hx
  obtain ⟨b, o, e1, hb, hc⟩ := h4 (by simp)
  obtain ⟨e2, _, _⟩ := Value.slice.inj e0
  rw [e1] at e2
  obtain ⟨rfl, rfl, _⟩ := Addr.mk.inj (Option.some.inj e2)
  have hc0 : w.cell? ⟨g, 0, none⟩ = some (.int .u8 106) := hc 0 106 rfl
  have htl : Byt w B (.slice (some ⟨g, 1, none⟩) 2 2) [1, 2] := ⟨_, _, rfl, Nat.le_refl _, by unfold maxLen; simp, (by intro h; cases h), fun _ => ⟨g, 1, rfl, hb, fun j u hu => by
    have := hc (j + 1) u (by simpa using hu)
    rw [Nat.zero_add] at this
    rw [Nat.add_comm 1 j]
    exact this⟩⟩
  have HT := Lib.hid htl
  clear hR hc h4 e0 e1 e2 htl
  have hgw : g < w.heap.size := by omega
  go_enter Try.func26, Try.ntmps26
  go_wp2_with fail
  refine hP.out.mono ?_
  rintro e w1 ⟨rfl, rfl⟩
  go_wp2_with fail
  refine HR.out.mono ?_
  rintro e w1 ⟨A1, c1, L, rfl, hL, hops, hb1⟩
  have hll : L.length = 2 := by have := congrArg List.length hL; simpa using this
  have hcodes : L.map Piece.code = [106, 1] := by
    have h := congrArg (List.map Prod.fst) hL
    rw [List.map_map] at h
    exact h
  have OR := Lib.hid (OpsR.of_at hops)
  have HC := Lib.hid hcodes
  clear hL hcodes hops HR
  rw [show ([(106, []), (1, [2])] : List (UInt8 × List UInt8)).length = 2 from rfl] at OR ⊢
  have s1 := hb1.size
  have HB1 := Lib.hid hb1
  clear hb1
  go_wp2_with fail
  refine (coded_any w1.heap.size (w1.heap.size + 1) _ _ L [118, 169, 20, 136, 172] _ (OR.out.below ((Below.refl _ w1).alloc (Nat.le_refl _) _)) (Byt.made w1 _ _ [118, 169, 20, 136, 172] rfl (by unfold maxLen; simp)) (by simp) (by simp)).mono ?_
  rw [HC.out]
  rintro e w2 ⟨rfl, hb2⟩
  have s2 := hb2.size
  have HB2 := Lib.hid (((Below.refl _ w1).alloc (Nat.le_refl _) _).trans (hb2.mono (by simp)))
  clear hb2
  rw [World.size_alloc] at s2
  go_wp2_with fail
  refine (coded_any w1.heap.size (w2.heap.size + 1) _ _ L [169, 20, 135] _ ((OR.out.below HB2.out).below ((Below.refl _ w2).alloc (by omega) _)) (Byt.made w2 _ _ [169, 20, 135] rfl (by unfold maxLen; simp)) (by simp; omega) (by simp)).mono ?_
  rw [HC.out]
  rintro e w3 ⟨rfl, hb3⟩
  have s3 := hb3.size
  rw [World.size_alloc] at s3
  have HB3 := Lib.hid (((HB1.out.trans (HB2.out.mono s1)).alloc (by omega) _).trans (hb3.mono (by simp; omega)))
  clear hb3 HC OR hll
  go_wp2_with fail
  refine (multi_few A1 2 c1 _ (by omega)).mono ?_
  rintro e w4 ⟨rfl, rfl⟩
  have hc3 : w3.cell? ⟨g, 0, none⟩ = some (.int .u8 106) := (HB3.out.cell (p := ⟨g, 0, none⟩) hgw).trans hc0
  clear hc0
  have hPu := pushes_any B _ [1, 2] w3 (HT.out.below (HB3.out.mono hB)) (by simp)
  have hpb : pushesB [1, 2] = true := by unfold pushesB; rw [parse_fixed2]; rfl
  rw [hpb] at hPu
  have HPu := Lib.hid hPu
  clear hPu hpb
  go_wp2_with fail
  refine HPu.out.mono ?_
  rintro e w5 ⟨rfl, hb5⟩
  have HB5 := Lib.hid (HB3.out.trans (hb5.mono (by omega)))
  clear hb5
  go_wp2_with fail
  refine (bclone_any B _ [1, 2] w5 (HT.out.below (HB5.out.mono hB)) (by simp)).mono ?_
  intro e w6 hfr
  obtain ⟨u6, rfl, hown6, hb6⟩ := fresh_v hfr
  obtain ⟨A6, c6, rfl⟩ := hown6.form
  clear hfr
  go_wp2_with fail
  go_ret2
  exact ⟨_, _, rfl, (HB5.out.trans (hb6.mono HB5.out.size)).alloc (by have := HB5.out.size; have := hb6.size; omega) _⟩

theorem push_five : pushB [5] = [85] := by decide
theorem byt_lit (w : World) (l : List Value) (ys : List UInt8) (h : l = ys.map bv) (hl : ys.length ≤ 100) :
    Byt (w.alloc (.cells l.toArray 5)) (w.heap.size + 1) (.slice (some ⟨w.heap.size, 0, none⟩) ys.length ys.length) ys := Byt.made w _ l ys h (by unfold maxLen; omega)

set_option maxRecDepth 100000 in
set_option maxHeartbeats 3200000 in
theorem awake_any (w : World) : Calls Try.prog 9 #[] w fun e w' => e = .returned (.bool true) ∧ Below w.heap.size w w' := by
  go_enter Try.func9, Try.ntmps9
  go_wp2_with fail
  refine (kind_fixed (w.heap.size + 1) w.heap.size _ (byt_lit w _ [106, 1, 2] rfl (by simp)) (by simp)).mono ?_
  rintro e w1 ⟨A1, c1, rfl, hb1⟩
  have s1 := hb1.size
  rw [World.size_alloc] at s1
  have HB1 := Lib.hid (((Below.refl _ w).alloc (Nat.le_refl _) _).trans (hb1.mono (by simp)))
  clear hb1
  go_wp2_with fail
  refine (push_any (w1.heap.size + 1) _ [5] _ (byt_lit w1 _ [5] rfl (by simp)) (by simp) (by simp)).mono ?_
  rw [push_five]
  intro e w2 hfr
  obtain ⟨u2, rfl, hown2, hb2⟩ := fresh_v hfr
  obtain ⟨A2, c2, rfl⟩ := hown2.form
  have s2 := hb2.size
  rw [World.size_alloc] at s2
  have HB2 := Lib.hid ((HB1.out.alloc (by omega) _).trans (hb2.mono (by simp; omega)))
  clear hb2 hfr hown2
  go_wp2_with fail
  refine (push_any (w2.heap.size + 1) _ [5] _ (byt_lit w2 _ [5] rfl (by simp)) (by simp) (by simp)).mono ?_
  rw [push_five]
  intro e w3 hfr
  obtain ⟨u3, rfl, hown3, hb3⟩ := fresh_v hfr
  obtain ⟨g3, c3, rfl, _, _, _⟩ := hown3.block (by simp)
  have hc3 : w3.cell? ⟨g3, 0, none⟩ = some (.int .u8 85) := hown3.cell (k := 0) (q := 85) rfl
  have s3 := hb3.size
  rw [World.size_alloc] at s3
  have HB3 := Lib.hid ((HB2.out.alloc (by omega) _).trans (hb3.mono (by simp; omega)))
  clear hb3 hfr hown3
  go_wp2_with fail
  refine (truth_any (w3.heap.size + 1) _ [1] _ (byt_lit w3 _ [1] rfl (by simp))).mono ?_
  rintro e w4 ⟨rfl, rfl⟩
  have ht : truthB [1] = true := by decide
  rw [ht]
  go_wp2_with fail
  refine (number_any (-255) _ (by decide) (by decide)).mono ?_
  have hn : numB (-255) = [255, 128] := by
    unfold numB
    rw [if_pos (by decide), show mag (-255) = 255 by decide, bytesN_pos (by decide), show 255 / 256 = 0 by decide, bytesN_zero]
    decide
  rw [hn]
  intro e w5 hfr
  obtain ⟨u5, rfl, hown5, hb5⟩ := fresh_v hfr
  obtain ⟨A5, c5, rfl⟩ := hown5.form
  have HB5 := Lib.hid ((HB3.out.alloc (by omega) _).trans (hb5.mono (by simp; omega)))
  clear hb5 hfr hown5 hc3
  go_wp2_with fail
  go_ret
  exact ⟨rfl, HB5.out⟩
end Go.Proofs.Ytadgaeokiolmmaa
