/-
  PayKey and PayScript, of the program and of the reference. Conditions: a digest of twenty bytes.
-/
import Derived.Test.YtadgaeokiolmmaaSnCat
namespace Go.Proofs.Ytadgaeokiolmmaa
open Go.RowKit

theorem push_twenty {hs : List UInt8} (h : hs.length = 20) : pushB hs = 20 :: hs := by
  match hs, h with
  | a :: b :: t, h =>
    have : aloneB (a :: b :: t) = none := rfl
    unfold pushB
    rw [this, h]
    rfl
def keyForm (hs : List UInt8) : List UInt8 := [118, 169, 20] ++ hs ++ [136, 172]
def scriptForm (hs : List UInt8) : List UInt8 := [169, 20] ++ hs ++ [135]

set_option maxRecDepth 100000 in
set_option maxHeartbeats 3200000 in
theorem payKey_any (hs : List UInt8) (h : hs.length = 20) (w : World) :
    Calls Try.prog 32 #[.agg (hs.map bv).toArray] w (Fresh w (keyForm hs)) := by
  obtain ⟨cs, hcs⟩ : ∃ cs, cs = (hs.map bv).toArray := ⟨_, rfl⟩
  have hsz : cs.size = 20 := by rw [hcs]; simp [h]
  have h0 : Byt (w.alloc (.cells cs 55)) (w.heap.size + 1) (.slice (some ⟨w.heap.size, 0, none⟩) 20 20) hs := by
    have := Byt.made w 55 (hs.map bv) hs rfl (by unfold maxLen; omega)
    rw [← hcs, h] at this
    exact this
  have H0 := Lib.hid h0
  rw [← hcs]
  have HP := Lib.hid (push_twenty h)
  have HH := Lib.hid h
  clear hcs h0 h
  go_enter Try.func32, Try.ntmps32
  go_wp2_with fail
  refine (push_any (w.heap.size + 1) _ hs _ (byt_later H0.out _) (by simp) (by rw [HH.out]; decide)).mono ?_
  rw [HP.out]
  intro e w2 hfr
  obtain ⟨u2, rfl, hown2, hb2⟩ := fresh_v hfr
  obtain ⟨A2, c2, rfl⟩ := hown2.form
  have m1 : Byt ((w.alloc (.cells cs 55)).alloc (.cells #[.int .u8 118, .int .u8 169] 5)) (w.heap.size + 1 + 1) (.slice (some ⟨w.heap.size + 1, 0, none⟩) 2 2) [118, 169] := by
    have := Byt.made (w.alloc (.cells cs 55)) 5 [.int .u8 118, .int .u8 169] [118, 169] rfl (by unfold maxLen; simp)
    rw [World.size_alloc] at this
    exact this
  have s1 : w.heap.size + 1 + 1 ≤ w2.heap.size := by have := hb2.size; simp at this; omega
  have B2 : Below w.heap.size w w2 := (((Below.refl _ w).alloc (Nat.le_refl _) (.cells cs 55)).alloc (by simp) (.cells #[.int .u8 118, .int .u8 169] 5)).trans (hb2.mono (by simp; omega))
  have y1 : Byt (w2.alloc (.cells #[.int .u8 136, .int .u8 172] 5)) (w2.alloc (.cells #[.int .u8 136, .int .u8 172] 5)).heap.size (.slice (some ⟨w.heap.size + 1, 0, none⟩) 2 2) [118, 169] := (byt_later (m1.below (hb2.mono (by simp))) _).more (by simp; omega)
  have y2 : Byt (w2.alloc (.cells #[.int .u8 136, .int .u8 172] 5)) (w2.alloc (.cells #[.int .u8 136, .int .u8 172] 5)).heap.size (.slice A2 (20 :: hs).length c2) (20 :: hs) := (byt_later (Byt.of_own hown2) _).more (by simp)
  have y3 : Byt (w2.alloc (.cells #[.int .u8 136, .int .u8 172] 5)) (w2.alloc (.cells #[.int .u8 136, .int .u8 172] 5)).heap.size (.slice (some ⟨w2.heap.size, 0, none⟩) 2 2) [136, 172] := (Byt.made w2 5 [.int .u8 136, .int .u8 172] [136, 172] rfl (by unfold maxLen; simp)).more (by simp)
  have bag := BagR.made (w2.alloc (.cells #[.int .u8 136, .int .u8 172] 5)) 22 [.slice (some ⟨w.heap.size + 1, 0, none⟩) 2 2, .slice A2 (20 :: hs).length c2, .slice (some ⟨w2.heap.size, 0, none⟩) 2 2]
    [(.slice (some ⟨w.heap.size + 1, 0, none⟩) 2 2, [118, 169]), (.slice A2 (20 :: hs).length c2, 20 :: hs), (.slice (some ⟨w2.heap.size, 0, none⟩) 2 2, [136, 172])] rfl (by unfold maxLen; simp)
    (by intro p hp; simp only [List.mem_cons, List.not_mem_nil, or_false] at hp; rcases hp with rfl | rfl | rfl; exact y1; exact y2; exact y3)
  rw [World.size_alloc] at bag
  have BAG := Lib.hid bag
  have BB := Lib.hid B2
  clear m1 y1 y2 y3 bag B2 hfr hown2 hb2 s1
  have hlen : (20 :: hs).length = 21 := by rw [List.length_cons, HH.out]
  rw [hlen] at BAG ⊢
  clear hlen
  go_wp2_with fail
  refine (concat_any _ _ _ _ BAG.out (by simp) (by unfold total; simp; have := HH.out; omega)).mono ?_
  intro e w3 hfr
  obtain ⟨u3, rfl, hown3, hb3⟩ := fresh_v hfr
  have HO3 := Lib.hid hown3
  have HB3 := Lib.hid ((((BB.out.alloc BB.out.size (.cells #[.int .u8 136, .int .u8 172] 5)).alloc (by have := BB.out.size; simp; omega) (.cells #[.slice (some ⟨w.heap.size + 1, 0, none⟩) 2 2, .slice A2 21 c2, .slice (some ⟨w2.heap.size, 0, none⟩) 2 2] 22))).trans (hb3.mono (by have := BB.out.size; simp; omega)))
  clear hfr hown3 hb3
  go_wp2_with fail
  go_ret
  have e3 : joined [((.slice (some ⟨w.heap.size + 1, 0, none⟩) 2 2 : Value), [118, 169]), (.slice A2 21 c2, 20 :: hs), (.slice (some ⟨w2.heap.size, 0, none⟩) 2 2, [136, 172])] = keyForm hs := by
    unfold joined keyForm
    simp
  have HO := HO3.out
  rw [e3] at HO
  exact fresh_own (own_base HO (by have := BB.out.size; simp; omega)) HB3.out

set_option maxRecDepth 100000 in
set_option maxHeartbeats 3200000 in
theorem payScript_any (hs : List UInt8) (h : hs.length = 20) (w : World) :
    Calls Try.prog 33 #[.agg (hs.map bv).toArray] w (Fresh w (scriptForm hs)) := by
  obtain ⟨cs, hcs⟩ : ∃ cs, cs = (hs.map bv).toArray := ⟨_, rfl⟩
  have hsz : cs.size = 20 := by rw [hcs]; simp [h]
  have h0 : Byt (w.alloc (.cells cs 55)) (w.heap.size + 1) (.slice (some ⟨w.heap.size, 0, none⟩) 20 20) hs := by
    have := Byt.made w 55 (hs.map bv) hs rfl (by unfold maxLen; omega)
    rw [← hcs, h] at this
    exact this
  have H0 := Lib.hid h0
  rw [← hcs]
  have HP := Lib.hid (push_twenty h)
  have HH := Lib.hid h
  clear hcs h0 h
  go_enter Try.func33, Try.ntmps33
  go_wp2_with fail
  refine (push_any (w.heap.size + 1) _ hs _ (byt_later H0.out _) (by simp) (by rw [HH.out]; decide)).mono ?_
  rw [HP.out]
  intro e w2 hfr
  obtain ⟨u2, rfl, hown2, hb2⟩ := fresh_v hfr
  obtain ⟨A2, c2, rfl⟩ := hown2.form
  have m1 : Byt ((w.alloc (.cells cs 55)).alloc (.cells #[.int .u8 169] 5)) (w.heap.size + 1 + 1) (.slice (some ⟨w.heap.size + 1, 0, none⟩) 1 1) [169] := by
    have := Byt.made (w.alloc (.cells cs 55)) 5 [.int .u8 169] [169] rfl (by unfold maxLen; simp)
    rw [World.size_alloc] at this
    exact this
  have s1 : w.heap.size + 1 + 1 ≤ w2.heap.size := by have := hb2.size; simp at this; omega
  have B2 : Below w.heap.size w w2 := (((Below.refl _ w).alloc (Nat.le_refl _) (.cells cs 55)).alloc (by simp) (.cells #[.int .u8 169] 5)).trans (hb2.mono (by simp; omega))
  have y1 : Byt (w2.alloc (.cells #[.int .u8 135] 5)) (w2.alloc (.cells #[.int .u8 135] 5)).heap.size (.slice (some ⟨w.heap.size + 1, 0, none⟩) 1 1) [169] := (byt_later (m1.below (hb2.mono (by simp))) _).more (by simp; omega)
  have y2 : Byt (w2.alloc (.cells #[.int .u8 135] 5)) (w2.alloc (.cells #[.int .u8 135] 5)).heap.size (.slice A2 (20 :: hs).length c2) (20 :: hs) := (byt_later (Byt.of_own hown2) _).more (by simp)
  have y3 : Byt (w2.alloc (.cells #[.int .u8 135] 5)) (w2.alloc (.cells #[.int .u8 135] 5)).heap.size (.slice (some ⟨w2.heap.size, 0, none⟩) 1 1) [135] := (Byt.made w2 5 [.int .u8 135] [135] rfl (by unfold maxLen; simp)).more (by simp)
  have bag := BagR.made (w2.alloc (.cells #[.int .u8 135] 5)) 22 [.slice (some ⟨w.heap.size + 1, 0, none⟩) 1 1, .slice A2 (20 :: hs).length c2, .slice (some ⟨w2.heap.size, 0, none⟩) 1 1]
    [(.slice (some ⟨w.heap.size + 1, 0, none⟩) 1 1, [169]), (.slice A2 (20 :: hs).length c2, 20 :: hs), (.slice (some ⟨w2.heap.size, 0, none⟩) 1 1, [135])] rfl (by unfold maxLen; simp)
    (by intro p hp; simp only [List.mem_cons, List.not_mem_nil, or_false] at hp; rcases hp with rfl | rfl | rfl; exact y1; exact y2; exact y3)
  rw [World.size_alloc] at bag
  have BAG := Lib.hid bag
  have BB := Lib.hid B2
  clear m1 y1 y2 y3 bag B2 hfr hown2 hb2 s1
  have hlen : (20 :: hs).length = 21 := by rw [List.length_cons, HH.out]
  rw [hlen] at BAG ⊢
  clear hlen
  go_wp2_with fail
  refine (concat_any _ _ _ _ BAG.out (by simp) (by unfold total; simp; have := HH.out; omega)).mono ?_
  intro e w3 hfr
  obtain ⟨u3, rfl, hown3, hb3⟩ := fresh_v hfr
  have HO3 := Lib.hid hown3
  have HB3 := Lib.hid ((((BB.out.alloc BB.out.size (.cells #[.int .u8 135] 5)).alloc (by have := BB.out.size; simp; omega) (.cells #[.slice (some ⟨w.heap.size + 1, 0, none⟩) 1 1, .slice A2 21 c2, .slice (some ⟨w2.heap.size, 0, none⟩) 1 1] 22))).trans (hb3.mono (by have := BB.out.size; simp; omega)))
  clear hfr hown3 hb3
  go_wp2_with fail
  go_ret
  have e3 : joined [((.slice (some ⟨w.heap.size + 1, 0, none⟩) 1 1 : Value), [169]), (.slice A2 21 c2, 20 :: hs), (.slice (some ⟨w2.heap.size, 0, none⟩) 1 1, [135])] = scriptForm hs := by
    unfold joined scriptForm
    simp
  have HO := HO3.out
  rw [e3] at HO
  exact fresh_own (own_base HO (by have := BB.out.size; simp; omega)) HB3.out

set_option maxRecDepth 100000 in
set_option maxHeartbeats 3200000 in
theorem rpayKey_any (B : Nat) (x : Value) (hs : List UInt8) (w : World) (hx : Byt w B x hs) (_hB : B ≤ w.heap.size) (h : hs.length ≤ 60000000) :
    Calls Try.prog 34 #[x] w (Fresh w (keyForm hs)) := by
  obtain ⟨i0, hi, hz0, hz1, hz2⟩ := info_parts info_u8
  have HX := Lib.hid (byt_later hx (.cells #[.int .u8 118, .int .u8 169, .int .u8 20] 5))
  obtain ⟨A, c, rfl⟩ := hx.form
  have HO := Lib.hid (own_made w 5 [.int .u8 118, .int .u8 169, .int .u8 20] [118, 169, 20] rfl (by unfold maxLen; simp))
  have HB1 := Lib.hid ((Below.refl _ w).alloc (Nat.le_refl _) (.cells #[.int .u8 118, .int .u8 169, .int .u8 20] 5))
  have HS1 : Hid (w.heap.size ≤ (w.alloc (.cells #[.int .u8 118, .int .u8 169, .int .u8 20] 5)).heap.size) := Lib.hid (by simp)
  clear hx
  go_enter Try.func34, Try.ntmps34
  go_wp2_with (first | (at_builtin; refine wpList_append_bytes rfl (.tmp 3) (.tmp 4) 22 rfl w.heap.size 5 i0 slice_u8 hi hz0 hz1 hz2 _ 3 ((([118, 169, 20]) : List UInt8).map bv) rfl HO.out B _ hs rfl HX.out (by omega) HS1.out ?_; intro v5 w5 hown5 hg5 hat5; have ho5 : OwnB w5 w.heap.size v5 ([118, 169, 20] ++ hs) := own_b hown5 rfl; have hb5 : Below w.heap.size w w5 := HB1.out.grown hg5 HS1.out (fun j hj => (World.ownsRow.lt HO.out j hj).1); have HO5 := Lib.hid (World.ownsRow.alloc ho5 (.cells #[.int .u8 136, .int .u8 172] 5)); have HB5 := Lib.hid (hb5.alloc hb5.size (.cells #[.int .u8 136, .int .u8 172] 5)); have HM5 := Lib.hid (Byt.made w5 5 [.int .u8 136, .int .u8 172] [136, 172] rfl (by unfold maxLen; simp)); clear hown5 hg5 hat5 ho5 hb5) | (at_builtin; refine wpList_append_bytes rfl (.tmp 5) (.tmp 6) 22 rfl w.heap.size 5 i0 slice_u8 hi hz0 hz1 hz2 _ _ _ rfl HO5.out _ _ [136, 172] rfl HM5.out (by simp; omega) HB5.out.size ?_; intro v7 w7 hown7 hg7 hat7))
  go_ret
  have ho7 : OwnB w7 w.heap.size v7 (([118, 169, 20] ++ hs) ++ [136, 172]) := own_b hown7 rfl
  exact fresh_own ho7 (HB5.out.grown hg7 HB5.out.size (fun j hj => (World.ownsRow.lt HO5.out j hj).1))

set_option maxRecDepth 100000 in
set_option maxHeartbeats 3200000 in
theorem rpayScript_any (B : Nat) (x : Value) (hs : List UInt8) (w : World) (hx : Byt w B x hs) (_hB : B ≤ w.heap.size) (h : hs.length ≤ 60000000) :
    Calls Try.prog 35 #[x] w (Fresh w (scriptForm hs)) := by
  obtain ⟨i0, hi, hz0, hz1, hz2⟩ := info_parts info_u8
  have HX := Lib.hid (byt_later hx (.cells #[.int .u8 169, .int .u8 20] 5))
  obtain ⟨A, c, rfl⟩ := hx.form
  have HO := Lib.hid (own_made w 5 [.int .u8 169, .int .u8 20] [169, 20] rfl (by unfold maxLen; simp))
  have HB1 := Lib.hid ((Below.refl _ w).alloc (Nat.le_refl _) (.cells #[.int .u8 169, .int .u8 20] 5))
  have HS1 : Hid (w.heap.size ≤ (w.alloc (.cells #[.int .u8 169, .int .u8 20] 5)).heap.size) := Lib.hid (by simp)
  clear hx
  go_enter Try.func35, Try.ntmps35
  go_wp2_with (first | (at_builtin; refine wpList_append_bytes rfl (.tmp 3) (.tmp 4) 22 rfl w.heap.size 5 i0 slice_u8 hi hz0 hz1 hz2 _ 2 ((([169, 20]) : List UInt8).map bv) rfl HO.out B _ hs rfl HX.out (by omega) HS1.out ?_; intro v5 w5 hown5 hg5 hat5; have ho5 : OwnB w5 w.heap.size v5 ([169, 20] ++ hs) := own_b hown5 rfl; have hb5 : Below w.heap.size w w5 := HB1.out.grown hg5 HS1.out (fun j hj => (World.ownsRow.lt HO.out j hj).1); have HO5 := Lib.hid (World.ownsRow.alloc ho5 (.cells #[.int .u8 135] 5)); have HB5 := Lib.hid (hb5.alloc hb5.size (.cells #[.int .u8 135] 5)); have HM5 := Lib.hid (Byt.made w5 5 [.int .u8 135] [135] rfl (by unfold maxLen; simp)); clear hown5 hg5 hat5 ho5 hb5) | (at_builtin; refine wpList_append_bytes rfl (.tmp 5) (.tmp 6) 22 rfl w.heap.size 5 i0 slice_u8 hi hz0 hz1 hz2 _ _ _ rfl HO5.out _ _ [135] rfl HM5.out (by simp; omega) HB5.out.size ?_; intro v7 w7 hown7 hg7 hat7))
  go_ret
  have ho7 : OwnB w7 w.heap.size v7 (([169, 20] ++ hs) ++ [135]) := own_b hown7 rfl
  exact fresh_own ho7 (HB5.out.grown hg7 HB5.out.size (fun j hj => (World.ownsRow.lt HO5.out j hj).1))
end Go.Proofs.Ytadgaeokiolmmaa
