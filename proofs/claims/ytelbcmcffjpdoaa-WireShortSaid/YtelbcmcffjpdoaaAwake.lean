/-
  The fixed fact of the wire laws comes out true, whatever the memory. Conditions: none.
-/
import Derived.Test.YtelbcmcffjpdoaaRdr
namespace Go.Proofs.Ytelbcmcffjpdoaa
open Go.RowKit

theorem wr_new (w : World) : Wr (w.alloc (.cells #[.slice none 0 0] 26)) w.heap.size (w.heap.size + 1) (.slice none 0 0) [] :=
  ⟨heap_alloc_new w _, World.ownsRow_nil _ _ _ _⟩

set_option maxHeartbeats 800000 in
theorem awake_any (w : World) :
    Calls Try.prog 7 #[] w fun e w' => e = .returned (.bool true) ∧ Below w.heap.size w w' := by
  go_enter Try.func7, Try.ntmps7
  go_wp2_with fail
  refine (size_any w.heap.size (w.heap.size + 1) _ 70000 [] _ (by omega) (by omega) (wr_new w) (by simp) (by simp)).mono ?_
  rintro e w1 ⟨rfl, v1, hw1, ht1, hb1⟩
  have hbel1 : Below w.heap.size w w1 := ((Below.refl _ _).alloc (Nat.le_refl _) _).trans (ht1.below_of (by simp) (by intro i hi h; rcases h with h | h; omega; cases h))
  have hs : ([] : List UInt8) ++ sizeB 70000 = [254, 112, 17, 1, 0] := by rfl
  rw [hs] at hw1
  clear hs ht1 hb1
  go_wp2_with fail
  refine (open_any (w1.heap.size + 1) _ [253, 252, 0] _ (Byt.made w1 _ [.int .u8 253, .int .u8 252, .int .u8 0] [253, 252, 0] rfl (by unfold maxLen; simp)) (by simp)).mono ?_
  rintro e w2 ⟨r, v2, rfl, hc2, hr2, hb2⟩
  have hw2 : Wr w2 w.heap.size (w.heap.size + 1) v1 [254, 112, 17, 1, 0] := (hw1.alloc _).turns (Turns.of_below (S := fun _ => False) hb2) (fun h => h) (fun _ _ h => h)
  have hsz1 := hbel1.size
  have hbel2 : Below w.heap.size w w2 := (hbel1.alloc hbel1.size _).trans (hb2.mono (by simp; omega))
  clear hw1 hbel1
  go_wp2_with fail
  refine (out_any _ _ _ _ w2 hw2 (by simp)).mono ?_
  rintro e w3 ⟨A3, c3, rfl, hown3, hb3⟩
  have hst := run_string_of (P := Try.prog) w3 24 9 5 slice_u8 Try.underlying5 Try.underlying9 _ _ _ (Byt.of_own hown3)
  have hc3 := hc2.below hb3
  have hbel3 := hbel2.trans (hb3.mono hbel2.size)
  clear hown3 hb3 hc2 hbel2 hb2 hw2
  simp only [List.length_cons, List.length_nil, Nat.reduceAdd] at hst
  have hrs : sizeR 0 [253, 252, 0] = (0, 3, [253, 252, 0]) := by decide +kernel
  have hsz := rsz_any r r v2 0 [253, 252, 0] w3 hc3
  rw [hrs] at hsz
  have HZ := Lib.hid hsz
  clear hsz hrs
  go_wp2_with fail
  refine HZ.out.mono ?_
  rintro e w4 ⟨rfl, v4, hc4, ht4⟩
  have hbel4 : Below w.heap.size w w4 := hbel3.trans (ht4.below_of (B := w.heap.size) hbel3.size (by intro i hi h; simp at hr2; omega))
  clear HZ hc3 hbel3 ht4 hst
  go_wp2_with fail
  refine (rerr_any r r v4 3 _ w4 hc4).mono ?_
  rintro e w5 ⟨rfl, rfl⟩
  go_wp2_with fail
  refine (length_any 253 _).mono ?_
  rintro e w5 ⟨rfl, rfl⟩
  have hl3 : sizeLen 253 = 3 := by rfl
  rw [hl3]
  go_wp2
  go_ret
  exact ⟨rfl, hbel4⟩

end Go.Proofs.Ytelbcmcffjpdoaa
