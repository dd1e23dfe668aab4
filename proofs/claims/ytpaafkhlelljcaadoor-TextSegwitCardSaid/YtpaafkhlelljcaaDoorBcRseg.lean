/-
  The reference's Copy, fits and Segwit. Conditions: sizes within the reach.
-/
import Derived.Test.YtpaafkhlelljcaaDoorBcSegw
import Derived.Test.YtpaafkhlelljcaaDoorBcRbech
namespace Go.Proofs.YtpaafkhlelljcaaDoor
open Go.RowKit

theorem own_made9 (w : World) (e : TypeId) (l : List Value) (ys : List UInt8) (h : l = ys.map bv) (hl : ys.length ≤ maxLen) {base : Nat} (hb : base ≤ w.heap.size) :
    (w.alloc (.cells l.toArray e)).ownsRow base e 1 (.slice (some ⟨w.heap.size, 0, none⟩) ys.length ys.length) ys.length (ys.map bv) :=
  ⟨by simp, .inr ⟨w.heap.size, ys.length, _, rfl, hb, heap_alloc_new w _, Nat.le_refl _, hl, by rw [h]; simp, by
    rw [Nat.mul_one, h]
    exact List.take_of_length_le (by simp)⟩⟩
set_option maxRecDepth 100000 in
set_option maxHeartbeats 400000 in
theorem rcopy_any (B : Nat) (x : Value) (xs : List UInt8) (w : World) (hr : Byt w B x xs) (hlen : xs.length ≤ 140737488355328) :
    Calls Tryd.prog 20 #[x] w (Fresh w xs) := by
  obtain ⟨i0, hi, hz0, hz1, hz2⟩ := info_parts info_u8
  obtain ⟨A, c, rfl⟩ := hr.form
  have HR : Hid (Byt (w.alloc (.cells #[] 5)) B (.slice A xs.length c) xs) := Lib.hid (byt_later hr _)
  have hown : (w.alloc (.cells #[] 5)).ownsRow w.heap.size 5 1 (.slice (some ⟨w.heap.size, 0, none⟩) 0 0) 0 [] := World.ownsRow_made w #[] 0 (Nat.le_refl _) (by unfold maxLen; omega) rfl
  have HO := Lib.hid hown
  clear hr hown
  go_enter Tryd.func20, Tryd.ntmps20
  go_wp2_with (at_builtin; refine wpList_append_bytes rfl (.tmp 3) (.tmp 4) 22 rfl w.heap.size 5 i0 slice_u8 hi hz0 hz1 hz2 _ 0 [] rfl HO.out B _ xs rfl HR.out (by omega) (by simp) ?_; intro v1 w1 hown1 hg1 hat1)
  go_ret
  rw [Nat.zero_add, List.nil_append] at hown1
  exact fresh_of hown1 (((Below.refl _ _).alloc (Nat.le_refl _) _).grown hg1 (by simp) (fun k hk => by cases hk; exact Nat.le_refl _))

set_option maxRecDepth 100000 in
set_option maxHeartbeats 800000 in
theorem rfits_any (v : Int) (n : Nat) (w : World) : Calls Tryd.prog 42 #[.int .i64 v, .int .i64 n] w fun e w' => e = .returned (.bool (fitsB v n)) ∧ w = w' := by
  obtain ⟨r, hr⟩ : ∃ r, r = fitsB v n := ⟨_, rfl⟩
  rw [← hr]
  by_cases hv : v = 0
  · subst hv
    rw [fits_zero] at hr
    obtain ⟨p, hp⟩ : ∃ p, ((n : Int) == 20) = p := ⟨_, rfl⟩
    obtain ⟨q, hq⟩ : ∃ q, ((n : Int) == 32) = q := ⟨_, rfl⟩
    rw [hp, hq] at hr
    subst hr
    cases p <;> cases q
    all_goals go_enter Tryd.func42, Tryd.ntmps42
    all_goals go_wp2
    all_goals go_ret
    all_goals exact ⟨rfl, rfl⟩
  · rw [fits_more hv] at hr
    have hv2 : (v == 0) = false := by simpa using hv
    obtain ⟨p, hp⟩ : ∃ p, decide (2 ≤ (n : Int)) = p := ⟨_, rfl⟩
    obtain ⟨q, hq⟩ : ∃ q, decide ((n : Int) ≤ 40) = q := ⟨_, rfl⟩
    rw [hp, hq] at hr
    subst hr
    clear hv
    cases p <;> cases q
    all_goals go_enter Tryd.func42, Tryd.ntmps42
    all_goals go_wp2
    all_goals go_ret
    all_goals exact ⟨rfl, rfl⟩

set_option maxRecDepth 100000 in
set_option maxHeartbeats 6400000 in
theorem rsegwit_any (B : Nat) (s : ByteArray) (ver : Int) (x : Value) (p : List UInt8) (w : World) (hx : Byt w B x p) (hB : B ≤ w.heap.size) (hs : s.size ≤ 140737488355328) (hl : p.length ≤ 2000) :
    Calls Tryd.prog 21 #[.string s, .int .i64 ver, x] w fun e w' => e = .returned (.tuple #[.string ⟨(segS s.data.toList ver p).2.toArray⟩, .int .i64 (segS s.data.toList ver p).1]) ∧ Below w.heap.size w w' := by
  obtain ⟨h, hh⟩ : ∃ h, h = s.data.toList := ⟨_, rfl⟩
  obtain ⟨r, hr⟩ : ∃ r, r = segS h ver p := ⟨_, rfl⟩
  rw [← hh, ← hr]
  have HH := Lib.hid hh
  have HX := Lib.hid hx
  obtain ⟨A, cx, hxf⟩ := hx.form
  subst hxf
  clear hx hh
  by_cases h0 : ver < 0
  · rw [segS_arg (.inl h0)] at hr
    subst hr
    have d0 : decide (ver < 0) = true := decide_eq_true h0
    clear h0
    go_enter Tryd.func21, Tryd.ntmps21
    go_wp2_with fail
    go_ret2
    exact ⟨rfl, Below.refl _ _⟩
  · have d0 : decide (ver < 0) = false := decide_eq_false h0
    by_cases h1 : 16 < ver
    · rw [segS_arg (.inr h1)] at hr
      subst hr
      have d1 : decide (16 < ver) = true := decide_eq_true h1
      clear h0 h1
      go_enter Tryd.func21, Tryd.ntmps21
      go_wp2_with fail
      go_ret2
      exact ⟨rfl, Below.refl _ _⟩
    · have d1 : decide (16 < ver) = false := decide_eq_false h1
      have P := rfits_any ver p.length
      cases hf : fitsB ver p.length with
      | false =>
        rw [segS_size (by omega) hf] at hr
        subst hr
        rw [hf] at P
        have HP := Lib.hid P
        clear h0 h1 hf P
        go_enter Tryd.func21, Tryd.ntmps21
        go_wp2_with fail
        refine (HP.out _).mono ?_
        rintro e w1 ⟨rfl, rfl⟩
        go_wp2_with fail
        go_ret2
        exact ⟨rfl, Below.refl _ _⟩
      | true =>
        rw [segS_go (by omega) hf] at hr
        rw [hf] at P
        have hp40 := fitsB_le hf
        have HP := Lib.hid P
        have HR := Lib.hid hr
        have REG := Lib.hid (refReg_any B _ p 8 5 true w HX.out hB (by omega))
        have hrl := reg85_len p
        have hr0 := reg85 p
        obtain ⟨G, hG⟩ : ∃ G, G = regS 8 5 true p := ⟨_, rfl⟩
        rw [← hG] at REG hrl hr0 HR
        have HG0 := Lib.hid hr0
        have HRL := Lib.hid hrl
        have hw : IntKind.u8.wrap ver = ver := by rw [IntKind.wrap_u8]; omega
        have hpos : 0 ≤ ver := by omega
        have h16 : ver ≤ 16 := by omega
        clear h0 h1 hf P hr hrl hr0 hG
        go_enter Tryd.func21, Tryd.ntmps21
        go_wp2_with fail
        refine (HP.out _).mono ?_
        rintro e w1 ⟨rfl, rfl⟩
        go_wp2_with fail
        refine REG.out.mono ?_
        rintro e w2 ⟨v, rfl, hown, hb2⟩
        rw [HG0.out]
        have hby := Byt.of_own hown
        obtain ⟨A2, c2, rfl⟩ := hown.form
        have HB2 := Lib.hid hb2
        have hown1 := own_made9 w2 5 [.int .u8 ver] [b8 ver] (by rw [List.map_cons, List.map_nil, bv_b8_of hpos (by omega)]) (by unfold maxLen; simp) (Nat.le_refl _)
        have HO1 := Lib.hid hown1
        have HM := Lib.hid (byt_later hby (.cells #[.int .u8 ver] 5))
        have hs2 := hb2.size
        obtain ⟨i0, hi, hz0, hz1, hz2⟩ := info_parts info_u8
        obtain ⟨dv, hdv⟩ : ∃ dv, decide (0 < ver) = dv := ⟨_, rfl⟩
        clear hown1 hby hown hb2 REG
        go_wp2_with (at_builtin; refine wpList_append_bytes rfl (.tmp 29) (.tmp 30) 22 rfl w2.heap.size 5 i0 slice_u8 hi hz0 hz1 hz2 _ 1 ([b8 ver].map bv) rfl HO1.out w2.heap.size _ G.2 rfl HM.out (by have := HRL.out; omega) (by simp) ?_; intro v3 w3 hown3 hg3 hat3; have HO3 := Lib.hid (own_b (ys := [b8 ver]) (zs := G.2) hown3 rfl); have HB3 := Lib.hid (((Below.refl _ w2).alloc (Nat.le_refl _) (.cells #[.int .u8 ver] 5)).grown hg3 (by simp) (fun j hj => (World.ownsRow.lt HO1.out j hj).1)); clear hown3 hg3 hat3)
        have hlen : (b8 ver :: G.2).length ≤ 4000 := by rw [List.length_cons, HRL.out]; omega
        have P4 := refbech_any w3.heap.size s v3 (b8 ver :: G.2) (decide (0 < ver)) w3 (Byt.of_own HO3.out) (Nat.le_refl _) hs (by omega)
        rw [← HH.out, ← HR.out, hdv] at P4
        have HP4 := Lib.hid P4
        obtain ⟨A3, c3, hv3⟩ := HO3.out.form
        subst hv3
        clear P4
        refine HP4.out.mono ?_
        rintro e w4 ⟨rfl, hb4⟩
        have HB5 := Lib.hid (HB2.out.trans ((HB3.out.trans (hb4.mono HB3.out.size)).mono hs2))
        clear hb4
        go_wp2_with fail
        go_ret2
        exact ⟨rfl, HB5.out⟩
end Go.Proofs.YtpaafkhlelljcaaDoor
