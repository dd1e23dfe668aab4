/-
  The law's fixed fact: three that paid 5000, in the next block. Conditions: none.
-/
import Derived.Test.YtfhpodeppmnopaaFeDo
namespace Go.Proofs.Ytfhpodeppmnopaa
open Go.RowKit

def awS (i : Nat) : Bs := (List.range i).foldl (fun S j => enterF S j 5000 1) bs0
theorem awS_next (i : Nat) : awS (i + 1) = enterF (awS i) i 5000 1 := by unfold awS; rw [List.range_succ, List.foldl_append]; rfl
def awB : Bs := blockF (awS 3) 2 [0, 1, 2]
theorem awB_est : estX awB 1 90 = 4000 ∧ estE awB 1 90 = 0 := by decide +kernel
theorem awB_all : allF awB 2 = 3000 ∧ wiF awB 2 1 = 3000 ∧ awB.W.length = 0 := by decide +kernel
theorem ok_aw : ∀ i, i ≤ 3 → Ok i (awS i)
  | 0, _ => ok_zero
  | i + 1, h => by rw [awS_next]; exact (ok_aw i (by omega)).enter _ (by omega) (by omega) (by omega)

set_option maxRecDepth 100000 in
set_option maxHeartbeats 3200000 in
theorem awake_any (w : World) : Calls Try.prog 4 #[] w fun e w' => e = .returned (.bool true) ∧ Below w.heap.size w w' := by
  go_enter Try.func4, Try.ntmps4
  go_wp2_with fail
  refine (new_any 7 _).mono ?_
  rintro e w2 ⟨rfl, hbk, hbl⟩
  have HO := Lib.hid (show Owned w w2 7 w.heap.size none bs0 from ⟨hbk, hbl, Nat.le_refl _, fun b q => by cases q⟩)
  obtain ⟨g, hg⟩ : ∃ g, g = w.heap.size := ⟨_, rfl⟩
  rw [← hg] at HO ⊢
  clear hbk hbl hg
  go_wp2_with fail
  go_loopw [2] (fun s wr => ∃ (i : Nat) (m : Option Nat), i ≤ 3 ∧ s = .int .u8 (i : Int) ∧ Owned w wr 7 g m (awS i)) (fun s _ => 3 - (intOf s).toNat)
  case atStart => exact ⟨0, none, by omega, rfl, HO.out⟩
  case round =>
    obtain ⟨i, m, hi, rfl, hown⟩ := hrel
    by_cases hlt : i < 3
    · have dk : decide ((i : Int) < 3) = true := decide_eq_true (by omega)
      have wi : IntKind.u8.wrap ((i : Int) + 1) = (i : Int) + 1 := by rw [IntKind.wrap_u8]; omega
      have hok := ok_aw i hi
      have hen := fun W (h : BookAt W 7 g m (awS i)) => enter_any 7 g i m (awS i) 5000 1 W (.inl rfl) (by omega) h (fun e he => (hok.bk e he).2.1) hok.nd (by omega) (by omega)
      rw [← awS_next] at hen
      have HEN := Lib.hid hen
      have HOWN := Lib.hid hown
      clear hok hen hown
      go_wp2_with fail
      refine (name_any i _).mono ?_
      rintro e3 w3 ⟨rfl, hb3⟩
      have O3 := Lib.hid (HOWN.out.below hb3)
      clear hb3
      go_wp2_with fail
      refine (HEN.out _ O3.out.1).mono ?_
      rintro e4 w4 ⟨rfl, hen4⟩
      obtain ⟨m4, hO4⟩ := O3.out.entered hen4
      have O4 := Lib.hid hO4
      clear hen4 hO4
      go_wp2_with fail
      exact ⟨⟨i + 1, m4, hlt, by first | rfl | (rw [wi]; rfl), O4.out⟩, by first | (simp [intOf, wi]; omega) | (simp [intOf]; omega)⟩
    · have dk : decide ((i : Int) < 3) = false := decide_eq_false (by omega)
      have hi3 : i = 3 := by omega
      rw [hi3] at hown
      have HOWN := Lib.hid hown
      have H3 := Lib.hid (fun W => three_names 7 0 1 2 W)
      clear hown hi3
      go_wp2_with fail
      refine (name_any 0 _).mono ?_
      rintro e3 w3 ⟨rfl, hb3⟩
      have O3 := Lib.hid (HOWN.out.below hb3)
      clear hb3
      go_wp2_with fail
      refine (name_any 1 _).mono ?_
      rintro e4 w4 ⟨rfl, hb4⟩
      have O4 := Lib.hid (O3.out.below hb4)
      clear hb4
      go_wp2_with fail
      refine (name_any 2 _).mono ?_
      rintro e5 w5 ⟨rfl, hb5⟩
      have O5 := Lib.hid (O4.out.below hb5)
      have hb6 : Below w5.heap.size w5 (w5.alloc (.cells ((nmI 7 0 ++ nmI 7 1 ++ nmI 7 2).map (Value.int .u8)).toArray 45)) := (Below.refl _ w5).alloc (Nat.le_refl _) _
      have hn6 : NmS (w5.alloc (.cells ((nmI 7 0 ++ nmI 7 1 ++ nmI 7 2).map (Value.int .u8)).toArray 45)) 7 (.slice (some ⟨w5.heap.size, 0, none⟩) 3 3) [0, 1, 2] (fun q => q = g ∨ m = some q) :=
        nmS_of (ids := [0, 1, 2]) (xs := nmI 7 0 ++ nmI 7 1 ++ nmI 7 2) (IRow.new w5 45 .u8 (nmI 7 0 ++ nmI 7 1 ++ nmI 7 2)) (fun a id ha j v hv => by
          have hj : j < 32 := (List.getElem?_eq_some_iff.1 hv).1
          rcases a with _ | _ | _ | a
          · obtain rfl : 0 = id := by simpa using ha
            rw [List.append_assoc, List.getElem?_append_left (by rw [nmI_length]; omega)]
            simpa using hv
          · obtain rfl : 1 = id := by simpa using ha
            rw [List.append_assoc, List.getElem?_append_right (by rw [nmI_length]; omega), nmI_length, List.getElem?_append_left (by rw [nmI_length]; omega), show (0 + 1) * 32 + j - 32 = j by omega]
            exact hv
          · obtain rfl : 2 = id := by simpa using ha
            rw [List.append_assoc, List.getElem?_append_right (by rw [nmI_length]; omega), nmI_length, List.getElem?_append_right (by rw [nmI_length]; omega), nmI_length, show (0 + 1 + 1) * 32 + j - 32 - 32 = j by omega]
            exact hv
          · simp at ha) (fun q => q.elim (fun q => by have := O5.out.1.1.lt; omega) (fun q => by have := O5.out.1.2.lt q; omega)) (show 3 ≤ 9223372036854775807 by decide)
      have O6 := Lib.hid (O5.out.below hb6)
      have hbk := block_any 7 g 3 m (awS 3) 2 _ [0, 1, 2] _ (.inl rfl) (by simp) O6.out.1 (ok_aw 3 (by omega)) (by omega) hn6 (by omega) (by omega)
      have HBK := Lib.hid hbk
      clear hb5 hb6 hn6 hbk
      obtain ⟨N6, hN6⟩ : ∃ N6, N6 = ((nmI 7 0 ++ nmI 7 1 ++ nmI 7 2).map (Value.int .u8)).toArray := ⟨_, rfl⟩
      rw [← hN6] at HBK O6
      simp only [← hN6] at H3
      clear hN6
      go_wp2_with (refine wpList_buildSlice rfl 66 3 _ rfl _ _ (by simp only [List.map_toArray, List.map_cons, List.map_nil]; exact H3.out _) ?_)
      refine HBK.out.mono ?_
      rintro e7 w7 ⟨rfl, hb7, ht7⟩
      have hO7 : Owned w w7 7 g m awB := O6.out.turned hb7 ht7
      have hok7 : Ok 3 awB := (ok_aw 3 (by omega)).block 2 [0, 1, 2]
      have hes := estimate_any 7 g 3 m awB 1 90 w7 hO7.1 hok7 (by omega) (by omega) (by omega) (by omega) (by omega)
      have hal := all_any 7 g m awB 2 w7 hO7.1
      have hwi := within_any 7 g m awB 2 1 w7 hO7.1 (by omega) (by omega)
      have hwa := waits_any 7 g m awB w7 hO7.1
      rw [awB_est.1, awB_est.2] at hes
      rw [awB_all.1] at hal
      rw [awB_all.2.1] at hwi
      rw [awB_all.2.2] at hwa
      have HES := Lib.hid hes
      have HAL := Lib.hid hal
      have HWI := Lib.hid hwi
      have HWA := Lib.hid hwa
      have HB7 := Lib.hid hO7.2.1
      clear hes hal hwi hwa hb7 ht7 hO7 hok7
      go_wp2_with fail
      refine HES.out.mono ?_
      rintro e8 w8 ⟨rfl, rfl⟩
      go_wp2_with fail
      refine HAL.out.mono ?_
      rintro e8 w8 ⟨rfl, rfl⟩
      go_wp2_with fail
      refine HWI.out.mono ?_
      rintro e8 w8 ⟨rfl, rfl⟩
      go_wp2_with fail
      refine HWA.out.mono ?_
      rintro e8 w8 ⟨rfl, rfl⟩
      go_wp2_with fail
      exact bodyPost_ret (results_tmp rfl _ _ _) rfl ⟨rfl, HB7.out⟩
end Go.Proofs.Ytfhpodeppmnopaa
