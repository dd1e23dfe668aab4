/-
  The law on hexadecimal digits. Conditions: the listed table holds what its text lays.
-/
import Derived.Test.YtginbfeimiihlaaDoorB58
import Derived.Test.YtginbfeimiihlaaDoorTEq
namespace Go.Proofs.YtginbfeimiihlaaDoor
open Go.RowKit

theorem val_dig_fin : ∀ n : Fin 16, valB (b8 (digI (n.val : Int))) = (n.val : Int) := by decide +kernel
theorem val_dig {n : Int} (h0 : 0 ≤ n) (h1 : n < 16) : valB (b8 (digI n)) = n := by
  have h := val_dig_fin ⟨n.toNat, by omega⟩
  have e : ((n.toNat : Nat) : Int) = n := by omega
  dsimp only at h
  rw [e] at h
  exact h
theorem outL_cons (a b : UInt8) (cs : List UInt8) (n : Nat) : outL (a :: b :: cs) (n + 1) = b8 (16 * valB a + valB b) :: outL cs n := by
  unfold outL
  rw [List.range_succ_eq_map, List.map_cons, List.map_map]
  congr 1
theorem hex_back (xs : List UInt8) : GoodHex (digsOf xs) ∧ outL (digsOf xs) xs.length = xs := by
  induction xs with
  | nil => exact ⟨⟨rfl, fun c h => by cases h⟩, rfl⟩
  | cons c xs ih =>
    obtain ⟨⟨h1, h2⟩, h3⟩ := ih
    have hc := c.toNat_lt
    have e : digsOf (c :: xs) = b8 (digI ((c.toNat : Int) / 16)) :: b8 (digI ((c.toNat : Int) % 16)) :: digsOf xs := rfl
    have v1 := val_dig (n := (c.toNat : Int) / 16) (by omega) (by omega)
    have v2 := val_dig (n := (c.toNat : Int) % 16) (by omega) (by omega)
    rw [e]
    refine ⟨⟨by simp only [List.length_cons]; omega, ?_⟩, ?_⟩
    · intro d hd
      simp only [List.mem_cons] at hd
      rcases hd with rfl | rfl | hd
      · rw [v1]; omega
      · rw [v2]; omega
      · exact h2 d hd
    · rw [List.length_cons, outL_cons, v1, v2, h3]
      congr 1
      apply UInt8.toNat_inj.1
      have := b8_toNat (16 * ((c.toNat : Int) / 16) + (c.toNat : Int) % 16)
      omega

theorem hexp2_any (B : Nat) (x : Value) (xs : List UInt8) (w : World) (hx : Byt w B x xs) (hB : B ≤ w.heap.size) (hl : xs.length ≤ 30000) :
    Calls Tryd.prog 8 #[x] w fun e w' => e = .returned (.string ⟨(digsOf xs).toArray⟩) ∧ Below w.heap.size w w' := by
  rw [← digs_letters]
  exact hexp_any B x xs w hx hB hl

/-- A string and its bytes. -/
theorem toList_mk (l : List UInt8) : (ByteArray.data ⟨l.toArray⟩).toList = l := rfl

set_option maxRecDepth 100000 in
set_option maxHeartbeats 3200000 in
theorem hex_law (B : Nat) (x : Value) (xs : List UInt8) (s : ByteArray) (w : World) (hc : CodeIs w) (hx : Byt w B x xs) (hB : B ≤ w.heap.size) (hs : s.size ≤ 140737488355328) :
    Calls Tryd.prog 3 #[x, .string s] w fun e w' => e = .returned (.bool true) ∧ Below w.heap.size w w' := by
  obtain ⟨A, c, hxf⟩ := hx.form
  subst hxf
  have HX := Lib.hid hx
  have HA := Lib.hid (awake_any w hc)
  clear hx hc
  go_enter Tryd.func3, Tryd.ntmps3
  go_wp2_with fail
  refine HA.out.mono ?_
  rintro e w1 ⟨rfl, hb1⟩
  have hs1 := hb1.size
  have S1 := Lib.hid (short_any 500 B _ xs w1 (HX.out.below (hb1.mono hB)) (by omega))
  go_wp2_with fail
  refine S1.out.mono ?_
  rintro e w1' ⟨⟨y, rfl, hy⟩, rfl⟩
  obtain ⟨A1, c1, rfl⟩ := hy.form
  obtain ⟨ys, hys⟩ : ∃ ys, ys = xs.take 500 := ⟨_, rfl⟩
  have hyl : ys.length ≤ 500 := by rw [hys, List.length_take]; omega
  rw [← hys] at hy ⊢
  have HY := Lib.hid hy
  clear hy hys
  go_upto_if 17 with fail
  go_cut [1] (fun v wx => ∃ s' : ByteArray, v = .string s' ∧ s'.size ≤ 1000 ∧ w1 = wx)
  case first =>
    by_cases h : 1000 < s.size
    · have hd : decide ((1000 : Int) < (s.size : Int)) = true := decide_eq_true (by omega)
      go_wp2
      go_meet
      refine ⟨_, rfl, ?_, rfl⟩
      simp [ByteArray.size_extract]
      omega
    · have hd : decide ((1000 : Int) < (s.size : Int)) = false := decide_eq_false (by omega)
      go_wp2
      go_meet
      exact ⟨s, rfl, by omega, rfl⟩
  case rest =>
    obtain ⟨s', rfl, hs', hwc⟩ := hcut
    subst hwc
    have CH := Lib.hid (hexp2_any B _ ys w1 HY.out (by omega) (by omega))
    go_wp2_with fail
    refine CH.out.mono ?_
    rintro e w2 ⟨rfl, hb2⟩
    have hs2 := hb2.size
    obtain ⟨hback1, hback2⟩ := hex_back ys
    have hdl := digsOf_length ys
    have CF := fromHex_any ⟨(digsOf ys).toArray⟩ w2 (by show (digsOf ys).toArray.size ≤ 20000; simp; omega)
    rw [toList_mk] at CF
    have CFh := Lib.hid CF
    have HB1 := Lib.hid hback1
    have HB2 := Lib.hid hback2
    have HDL := Lib.hid hdl
    clear CF hback1 hback2 hdl
    go_wp2_with fail
    refine CFh.out.mono ?_
    rintro e w3 ⟨hb3, ⟨_, g, n, hn, rfl, hrow⟩ | ⟨hbad, _⟩⟩
    rotate_left
    · exact absurd HB1.out hbad
    have hn2 : n = ys.length := by have := HDL.out; omega
    rw [hn2, HB2.out] at hrow
    rw [hn2]
    have hs3 := hb3.size
    have hy3 : Byt w3 B (.slice A1 ys.length c1) ys := (HY.out.below (hb2.mono (by omega))).below (hb3.mono (by omega))
    have CR := Lib.hid (refHex_any B _ ys w3 hy3 (by omega) (by omega))
    have HROW := Lib.hid hrow
    have HY3 := Lib.hid hy3
    clear hn hn2 hrow hy3
    go_wp2_with fail
    refine CR.out.mono ?_
    rintro e w4 ⟨rfl, hb4⟩
    have hs4 := hb4.size
    have hrow4 : Row w4 g ys := HROW.out.turns (Turns.of_below hb4 (S := fun _ => False)) (fun h => h)
    have hby4 := hrow4.byt (n := ys.length) (c := ys.length) (Nat.le_refl _) (Nat.le_refl _) (by unfold maxLen; omega)
    rw [List.take_length] at hby4
    have CE := Lib.hid (equal_yes _ _ _ _ _ _ w4 hby4 (HY3.out.below (hb4.mono (by omega))) rfl)
    clear hrow4 hby4
    go_wp2_with fail
    refine CE.out.mono ?_
    rintro e w4' ⟨rfl, rfl⟩
    have CF2 := Lib.hid (fromHex_any s' w4 (by omega))
    go_wp2_with fail
    refine CF2.out.mono ?_
    rintro e w5 ⟨hb5, hpost5⟩
    have hs5 := hb5.size
    have CF3 := Lib.hid (refFromHex_any s' w5 (by omega))
    have HALL : Below w.heap.size w w5 := (((hb1.trans (hb2.mono hs1)).trans (hb3.mono (by omega))).trans (hb4.mono (by omega))).trans (hb5.mono (by omega))
    rcases hpost5 with ⟨hgood, g5, n5, hn5, rfl, hrow5⟩ | ⟨hbad, rfl⟩
    · have HG := Lib.hid hgood
      have HN5 := Lib.hid hn5
      have HR5 := Lib.hid hrow5
      clear hgood hn5 hrow5
      go_wp2_with fail
      refine CF3.out.mono ?_
      rintro e w6 ⟨hb6, ⟨_, v6, rfl, hown6⟩ | ⟨hbad, _⟩⟩
      rotate_left
      · exact absurd HG.out hbad
      have hs6 := hb6.size
      have hrow6 : Row w6 g5 (outL s'.data.toList n5) := HR5.out.turns (Turns.of_below hb6 (S := fun _ => False)) (fun h => h)
      have hn5b : n5 ≤ 20000 := by
        have h1 := HN5.out
        have h2 : s'.data.toList.length = s'.size := rfl
        omega
      have hby6 := hrow6.byt (n := n5) (c := n5) (by rw [outL_length]; exact Nat.le_refl _) (Nat.le_refl _) (by unfold maxLen; omega)
      rw [List.take_of_length_le (by rw [outL_length]; exact Nat.le_refl _)] at hby6
      have hbo6 := Byt.of_own hown6
      rw [← HN5.out] at hbo6
      have CE2 := Lib.hid (equal_yes _ _ _ _ _ _ w6 hby6 hbo6 rfl)
      obtain ⟨A6, c6, rfl⟩ := own_form hown6
      clear hrow6 hby6 hbo6 hown6
      go_wp2_with fail
      refine CE2.out.mono ?_
      rintro e w6' ⟨rfl, rfl⟩
      go_wp2
      go_ret
      exact ⟨rfl, HALL.trans (hb6.mono (by omega))⟩
    · have HBAD := Lib.hid hbad
      clear hbad
      go_wp2_with fail
      refine CF3.out.mono ?_
      rintro e w6 ⟨hb6, ⟨hgood, _⟩ | ⟨_, rfl⟩⟩
      · exact absurd hgood HBAD.out
      have hs6 := hb6.size
      have CE2 := Lib.hid (equal_yes _ _ _ _ _ _ w6 (Byt.nil w6 0) (Byt.nil w6 0) rfl)
      go_wp2_with fail
      refine CE2.out.mono ?_
      rintro e w6' ⟨rfl, rfl⟩
      go_wp2
      go_ret
      exact ⟨rfl, HALL.trans (hb6.mono (by omega))⟩
end Go.Proofs.YtginbfeimiihlaaDoor
