/-
  AmountAdds' walk: whatever the list and the two amounts. Conditions: the library's table of powers of ten holds what its text lays.
-/
import Derived.Test.YtopeblaiifkmoaaDoorAmtAwake
import Derived.Test.YtopeblaiifkmoaaDoorAmtAdd
namespace Go.Proofs.YtopeblaiifkmoaaDoor
open Go.RowKit

theorem info_i64 : (Tryd.prog.info? 2).map (fun i => (i.zero, i.size, i.bytes)) = some (some (.int .i64 0), 1, 8) := by kernel_rfl

theorem subS_ok {a b : Int} (ha : amtB a = true) (hb : amtB b = true) (h : b ≤ a) : subS a b = (a - b, 0) := by
  have h1 := amtB_true ha
  have h2 := amtB_true hb
  simp [subS, ha, hb, chk, amtB_mk (v := a - b) (by omega) (by omega)]
theorem subS_no {a b : Int} (h : amtB a = false ∨ amtB b = false ∨ a < b) : subS a b = (0, 6) := by
  rcases h with h | h | h
  · simp [subS, h]
  · simp [subS, h]
  · by_cases hab : (amtB a && amtB b) = true
    · simp only [subS, hab, if_true, chk, amtB_not (v := a - b) (by omega)]; rfl
    · simp [subS, hab]

set_option maxHeartbeats 4000000 in
theorem adds_mid {w w1 w2 : World} {v2 : Value} {ys : List Int} (hb1 : Below w.heap.size w w1) (hown : w2.ownsRow w1.heap.size 2 1 v2 (0 + ys.length) ([] ++ ys.map (Value.int .i64)))
    (hg : (w1.alloc (.cells #[] 2)).grownBy w2 (Value.slice (some ⟨w1.heap.size, 0, none⟩) 0 0).ownBlock) : Below w.heap.size w w2 ∧ ∃ A2 c2, v2 = .slice A2 ys.length c2 ∧ Ints .i64 w2 w2.heap.size (.slice A2 ys.length c2) ys := by
  have h : w2.ownsRow w1.heap.size 2 1 v2 ys.length (ys.map (Value.int .i64)) := by simpa using hown
  have hI := Ints.of_own h
  obtain ⟨A2, c2, rfl⟩ := own_form h
  refine ⟨?_, A2, c2, rfl, hI⟩
  refine (hb1.alloc hb1.size _).grown hg (by have := hb1.size; simp; omega) (fun k hk => ?_)
  have hk2 : w1.heap.size = k := by simpa [Value.ownBlock] using hk
  have := hb1.size
  omega

set_option maxRecDepth 100000 in
set_option maxHeartbeats 4000000 in
theorem adds_law (v : Value) (zs : List Int) (a b : Int) (w : World) (hp : Pow10 w) (hv : Ints .i64 w w.heap.size v zs) :
    Calls Tryd.prog 3 #[v, .int .i64 a, .int .i64 b] w fun e w' => e = .returned (.bool true) ∧ Below w.heap.size w w' := by
  obtain ⟨i0, hi, hz0, hz1, hz2⟩ := info_parts info_i64
  have hlen := hv.len
  unfold maxLen at hlen
  have hss : (amtB a = true ∧ amtB b = true ∧ b ≤ a) ∨ (amtB a = false) ∨ (amtB a = true ∧ amtB b = false) ∨ (amtB a = true ∧ amtB b = true ∧ a < b) := by
    cases amtB a <;> cases amtB b <;> simp
    omega
  have HSS := Lib.hid hss
  clear hss
  by_cases hl : 100 < zs.length
  · obtain ⟨A, c, rfl, h1, h2, h3, h4⟩ := id hv
    obtain ⟨p, o, rfl, hpb, hcell⟩ := h4 (by rintro rfl; simp at hl)
    have hv2 := hv.first 100 (by omega)
    obtain ⟨ys, hys⟩ : ∃ ys, ys = zs.take 100 := ⟨_, rfl⟩
    rw [← hys] at hv2
    have hyl : ys.length ≤ 100 := by rw [hys, List.length_take]; omega
    have HV := Lib.hid hv2
    unfold maxLen at h2
    obtain ⟨n, hn⟩ : ∃ n, n = zs.length := ⟨_, rfl⟩
    rw [← hn] at hl h1 hlen ⊢
    clear hv2 h3 h4 hv hys hn hpb hcell
    obtain ⟨⟨x, e⟩, hS⟩ : ∃ S, S = addF 0 ys := ⟨_, rfl⟩
    have c1 := fun B u w' => add_any B u ys w'
    have c2 := fun (w' : World) => refAdd_any w.heap.size (.slice (some ⟨p, o, none⟩) 100 c) ys w'
    rw [← hS] at c1 c2
    have C1 := Lib.hid c1
    have C2 := Lib.hid c2
    clear c1 c2 hS
    go_enter Tryd.func3, Tryd.ntmps3
    go_wp2_with (first | (go_at_call 9; refine (awake_any w hp).mono ?_; rintro e w1 ⟨rfl, hb1⟩; have hsz1 := hb1.size) | (at_builtin; refine wpList_append_ints rfl (.tmp 21) (.tmp 22) 22 rfl w1.heap.size 2 i0 .i64 8 Tryd.underlying22 hi hz0 hz1 hz2 _ 0 [] rfl (World.ownsRow_made w1 #[] 0 (Nat.le_refl _) (by unfold maxLen; omega) rfl) w.heap.size _ ys rfl ((HV.out.below hb1).below ((Below.refl _ _).alloc hb1.size _)) (by unfold maxLen; omega) (by omega) (by simp) ?_; intro v2 w2 hown2 hg2 hat2; obtain ⟨hb2, A2, c2, rfl, hi2⟩ := adds_mid hb1 hown2 hg2; clear hown2 hg2 hat2))
    refine (C1.out _ _ _ hi2).mono ?_
    rintro e w' ⟨rfl, rfl⟩
    go_wp2_with fail
    refine (C2.out _ (HV.out.below hb2)).mono ?_
    rintro e w' ⟨rfl, rfl⟩
    rcases HSS.out with ⟨ha, hb, hab⟩ | ha | ⟨ha, hb⟩ | ⟨ha, hb, hab⟩
    · have hs := subS_ok ha hb hab
      have c3 := fun (w' : World) => sub_any a b w'
      rw [hs] at c3
      have C3 := Lib.hid c3
      have hr := addF_back ha hb hab
      have c4 := refAdd_any (w2.heap.size + 1) _ [a - b, b] _ (Ints.made .i64 w2 2 [a - b, b] [.int .i64 (a - b), .int .i64 b] rfl (by unfold maxLen; simp))
      rw [hr] at c4
      have C4 := Lib.hid c4
      have ba := amtB_true ha
      have bb := amtB_true hb
      clear hs c3 hr c4
      go_wp2_with (first | (go_at_call 12; refine (valid_any _ _).mono ?_; rintro e w' ⟨rfl, rfl⟩) | (go_at_call 13; refine (refValid_any _ _).mono ?_; rintro e w' ⟨rfl, rfl⟩) | (go_at_call 14; refine (C3.out _).mono ?_; rintro e w' ⟨rfl, rfl⟩) | (go_at_call 11; refine C4.out.mono ?_; rintro e w' ⟨rfl, rfl⟩))
      go_ret
      exact ⟨rfl, hb2.alloc hb2.size _⟩
    · have c3 := fun (w' : World) => sub_any a b w'
      rw [subS_no (.inl ha)] at c3
      have C3 := Lib.hid c3
      clear c3
      go_wp2_with (first | (go_at_call 12; refine (valid_any _ _).mono ?_; rintro e w' ⟨rfl, rfl⟩) | (go_at_call 13; refine (refValid_any _ _).mono ?_; rintro e w' ⟨rfl, rfl⟩) | (go_at_call 14; refine (C3.out _).mono ?_; rintro e w' ⟨rfl, rfl⟩))
      go_ret
      exact ⟨rfl, hb2⟩
    · have c3 := fun (w' : World) => sub_any a b w'
      rw [subS_no (.inr (.inl hb))] at c3
      have C3 := Lib.hid c3
      clear c3
      go_wp2_with (first | (go_at_call 12; refine (valid_any _ _).mono ?_; rintro e w' ⟨rfl, rfl⟩) | (go_at_call 13; refine (refValid_any _ _).mono ?_; rintro e w' ⟨rfl, rfl⟩) | (go_at_call 14; refine (C3.out _).mono ?_; rintro e w' ⟨rfl, rfl⟩))
      go_ret
      exact ⟨rfl, hb2⟩
    · have c3 := fun (w' : World) => sub_any a b w'
      rw [subS_no (.inr (.inr hab))] at c3
      have C3 := Lib.hid c3
      clear c3
      go_wp2_with (first | (go_at_call 12; refine (valid_any _ _).mono ?_; rintro e w' ⟨rfl, rfl⟩) | (go_at_call 13; refine (refValid_any _ _).mono ?_; rintro e w' ⟨rfl, rfl⟩) | (go_at_call 14; refine (C3.out _).mono ?_; rintro e w' ⟨rfl, rfl⟩))
      go_ret
      exact ⟨rfl, hb2⟩
  · obtain ⟨A, c, rfl, h1, h2, h3, h4⟩ := id hv
    obtain ⟨ys, hys⟩ : ∃ ys, ys = zs := ⟨_, rfl⟩
    rw [← hys] at hv
    have hyl : ys.length ≤ 100 := by rw [hys]; omega
    have HV := Lib.hid hv
    unfold maxLen at h2
    rw [← hys] at hl h1 hlen ⊢
    obtain ⟨n, hn⟩ : ∃ n, n = ys.length := ⟨_, rfl⟩
    rw [← hn] at hl h1 hlen HV ⊢
    clear h3 h4 hv hys hn
    obtain ⟨⟨x, e⟩, hS⟩ : ∃ S, S = addF 0 ys := ⟨_, rfl⟩
    have c1 := fun B u w' => add_any B u ys w'
    have c2 := fun (w' : World) => refAdd_any w.heap.size (.slice A n c) ys w'
    rw [← hS] at c1 c2
    have C1 := Lib.hid c1
    have C2 := Lib.hid c2
    clear c1 c2 hS
    go_enter Tryd.func3, Tryd.ntmps3
    go_wp2_with (first | (go_at_call 9; refine (awake_any w hp).mono ?_; rintro e w1 ⟨rfl, hb1⟩; have hsz1 := hb1.size) | (at_builtin; refine wpList_append_ints rfl (.tmp 21) (.tmp 22) 22 rfl w1.heap.size 2 i0 .i64 8 Tryd.underlying22 hi hz0 hz1 hz2 _ 0 [] rfl (World.ownsRow_made w1 #[] 0 (Nat.le_refl _) (by unfold maxLen; omega) rfl) w.heap.size _ ys rfl ((HV.out.below hb1).below ((Below.refl _ _).alloc hb1.size _)) (by unfold maxLen; omega) (by omega) (by simp) ?_; intro v2 w2 hown2 hg2 hat2; obtain ⟨hb2, A2, c2, rfl, hi2⟩ := adds_mid hb1 hown2 hg2; clear hown2 hg2 hat2))
    refine (C1.out _ _ _ hi2).mono ?_
    rintro e w' ⟨rfl, rfl⟩
    go_wp2_with fail
    refine (C2.out _ (HV.out.below hb2)).mono ?_
    rintro e w' ⟨rfl, rfl⟩
    rcases HSS.out with ⟨ha, hb, hab⟩ | ha | ⟨ha, hb⟩ | ⟨ha, hb, hab⟩
    · have hs := subS_ok ha hb hab
      have c3 := fun (w' : World) => sub_any a b w'
      rw [hs] at c3
      have C3 := Lib.hid c3
      have hr := addF_back ha hb hab
      have c4 := refAdd_any (w2.heap.size + 1) _ [a - b, b] _ (Ints.made .i64 w2 2 [a - b, b] [.int .i64 (a - b), .int .i64 b] rfl (by unfold maxLen; simp))
      rw [hr] at c4
      have C4 := Lib.hid c4
      have ba := amtB_true ha
      have bb := amtB_true hb
      clear hs c3 hr c4
      go_wp2_with (first | (go_at_call 12; refine (valid_any _ _).mono ?_; rintro e w' ⟨rfl, rfl⟩) | (go_at_call 13; refine (refValid_any _ _).mono ?_; rintro e w' ⟨rfl, rfl⟩) | (go_at_call 14; refine (C3.out _).mono ?_; rintro e w' ⟨rfl, rfl⟩) | (go_at_call 11; refine C4.out.mono ?_; rintro e w' ⟨rfl, rfl⟩))
      go_ret
      exact ⟨rfl, hb2.alloc hb2.size _⟩
    · have c3 := fun (w' : World) => sub_any a b w'
      rw [subS_no (.inl ha)] at c3
      have C3 := Lib.hid c3
      clear c3
      go_wp2_with (first | (go_at_call 12; refine (valid_any _ _).mono ?_; rintro e w' ⟨rfl, rfl⟩) | (go_at_call 13; refine (refValid_any _ _).mono ?_; rintro e w' ⟨rfl, rfl⟩) | (go_at_call 14; refine (C3.out _).mono ?_; rintro e w' ⟨rfl, rfl⟩))
      go_ret
      exact ⟨rfl, hb2⟩
    · have c3 := fun (w' : World) => sub_any a b w'
      rw [subS_no (.inr (.inl hb))] at c3
      have C3 := Lib.hid c3
      clear c3
      go_wp2_with (first | (go_at_call 12; refine (valid_any _ _).mono ?_; rintro e w' ⟨rfl, rfl⟩) | (go_at_call 13; refine (refValid_any _ _).mono ?_; rintro e w' ⟨rfl, rfl⟩) | (go_at_call 14; refine (C3.out _).mono ?_; rintro e w' ⟨rfl, rfl⟩))
      go_ret
      exact ⟨rfl, hb2⟩
    · have c3 := fun (w' : World) => sub_any a b w'
      rw [subS_no (.inr (.inr hab))] at c3
      have C3 := Lib.hid c3
      clear c3
      go_wp2_with (first | (go_at_call 12; refine (valid_any _ _).mono ?_; rintro e w' ⟨rfl, rfl⟩) | (go_at_call 13; refine (refValid_any _ _).mono ?_; rintro e w' ⟨rfl, rfl⟩) | (go_at_call 14; refine (C3.out _).mono ?_; rintro e w' ⟨rfl, rfl⟩))
      go_ret
      exact ⟨rfl, hb2⟩
end Go.Proofs.YtopeblaiifkmoaaDoor
