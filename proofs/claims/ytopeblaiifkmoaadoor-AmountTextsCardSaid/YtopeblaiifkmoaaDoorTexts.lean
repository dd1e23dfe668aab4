/-
  AmountTexts' walk: whatever the amount and the text. Conditions: the library's table of powers of ten holds what its text lays; the text is within the reach.
-/
import Derived.Test.YtopeblaiifkmoaaDoorAmtAwake
import Derived.Test.YtopeblaiifkmoaaDoorAmtRdp
import Derived.Test.YtopeblaiifkmoaaDoorAmtFmt
import Derived.Test.YtopeblaiifkmoaaDoorAmtRef
namespace Go.Proofs.YtopeblaiifkmoaaDoor
open Go.RowKit

set_option maxRecDepth 100000 in
set_option maxHeartbeats 1600000 in
theorem texts_law (v : Int) (s : ByteArray) (w : World) (hp : Pow10 w) (hs : s.size ≤ 140737488351232) :
    Calls Tryd.prog 6 #[.int .i64 v, .string s] w fun e w' => e = .returned (.bool true) ∧ Below w.heap.size w w' := by
  obtain ⟨K, k1, k2, k3⟩ := digits_end s
  have c1 := fun w => parse_any s w (by unfold maxLen; omega)
  have c2 := fun w => refParse_at s K w hs k1 k2 k3
  rw [parse_same s K k1 k2 k3] at c1
  obtain ⟨⟨x, e⟩, hx⟩ : ∃ X, X = parseR s K := ⟨_, rfl⟩
  rw [← hx] at c1 c2
  dsimp only at c1 c2
  have C1 := Lib.hid c1
  have C2 := Lib.hid c2
  clear c1 c2 hx k1 k2 k3
  have f1 := fun w (h : Pow10 w) => format_any v w h
  have f2 := fun w => refFormat_any v w
  have f3 := fun w => parse_any (fmtS v) w (by have := fmt_size v; unfold maxLen; omega)
  cases hv : amtB v with
  | false =>
    obtain ⟨⟨x1, e1⟩, hx1⟩ : ∃ X, X = parseP (cutP (fmtS v)).1 (cutP (fmtS v)).2.1 (cutP (fmtS v)).2.2 := ⟨_, rfl⟩
    rw [← hx1] at f3
    dsimp only at f3
    obtain ⟨t, ht⟩ : ∃ t, t = fmtS v := ⟨_, rfl⟩
    rw [← ht] at f1 f2 f3
    have F1 := Lib.hid f1
    have F2 := Lib.hid f2
    have F3 := Lib.hid f3
    clear f1 f2 f3 ht hx1
    go_enter Tryd.func6, Tryd.ntmps6
    go_wp2_with (go_at_call 9; refine (awake_any w hp).mono ?_; rintro e w1 ⟨rfl, hb1⟩)
    have hp1 := hp.below hb1
    refine (F1.out _ hp1).mono ?_
    rintro e w2 ⟨rfl, hb2⟩
    go_wp2_with fail
    refine (F3.out _).mono ?_
    rintro e w3 ⟨rfl, hb3⟩
    go_wp2_with fail
    refine (F2.out _).mono ?_
    rintro e w4 ⟨rfl, hb4⟩
    have hB := ((hb1.trans (hb2.mono hb1.size)).trans (hb3.mono (hb1.trans (hb2.mono hb1.size)).size)).trans (hb4.mono ((hb1.trans (hb2.mono hb1.size)).trans (hb3.mono (hb1.trans (hb2.mono hb1.size)).size)).size)
    clear hb1 hb2 hb3 hb4 hp1
    go_wp2_with fail
    refine (refValid_any _ _).mono ?_
    rintro e w' ⟨rfl, rfl⟩
    go_wp2_with fail
    refine (C1.out _).mono ?_
    rintro e w5 ⟨rfl, hb5⟩
    go_wp2_with fail
    refine (C2.out _).mono ?_
    rintro e w' ⟨rfl, rfl⟩
    go_wp2_with fail
    go_ret
    exact ⟨rfl, hB.trans (hb5.mono hB.size)⟩
  | true =>
    rw [parse_back hv] at f3
    dsimp only at f3
    obtain ⟨t, ht⟩ : ∃ t, t = fmtS v := ⟨_, rfl⟩
    rw [← ht] at f1 f2 f3
    have F1 := Lib.hid f1
    have F2 := Lib.hid f2
    have F3 := Lib.hid f3
    clear f1 f2 f3 ht
    go_enter Tryd.func6, Tryd.ntmps6
    go_wp2_with (go_at_call 9; refine (awake_any w hp).mono ?_; rintro e w1 ⟨rfl, hb1⟩)
    have hp1 := hp.below hb1
    refine (F1.out _ hp1).mono ?_
    rintro e w2 ⟨rfl, hb2⟩
    go_wp2_with fail
    refine (F3.out _).mono ?_
    rintro e w3 ⟨rfl, hb3⟩
    go_wp2_with fail
    refine (F2.out _).mono ?_
    rintro e w4 ⟨rfl, hb4⟩
    have hB := ((hb1.trans (hb2.mono hb1.size)).trans (hb3.mono (hb1.trans (hb2.mono hb1.size)).size)).trans (hb4.mono ((hb1.trans (hb2.mono hb1.size)).trans (hb3.mono (hb1.trans (hb2.mono hb1.size)).size)).size)
    clear hb1 hb2 hb3 hb4 hp1
    go_wp2_with fail
    refine (refValid_any _ _).mono ?_
    rintro e w' ⟨rfl, rfl⟩
    go_wp2_with fail
    refine (C1.out _).mono ?_
    rintro e w5 ⟨rfl, hb5⟩
    go_wp2_with fail
    refine (C2.out _).mono ?_
    rintro e w' ⟨rfl, rfl⟩
    go_wp2_with fail
    go_ret
    exact ⟨rfl, hB.trans (hb5.mono hB.size)⟩
end Go.Proofs.YtopeblaiifkmoaaDoor
