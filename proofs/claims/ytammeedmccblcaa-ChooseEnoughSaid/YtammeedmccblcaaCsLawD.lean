/-
  The law's fixed fact: four coins, the task 6. Conditions: none.
-/
import Derived.Test.YtammeedmccblcaaCsLawA
namespace Go.Proofs.Ytammeedmccblcaa.Cs
open Go.RowKit

def fourL : List (Int × Int) := [(5, 0), (4, 0), (3, 0), (1, 0)]
theorem four_largest : LargestF 6 0 fourL = (0, [0, 1]) := by decide +kernel
theorem four_branch : BranchF 6 0 0 100 fourL = (0, [0, 3]) := by decide +kernel
theorem four_ok : CoinsOk fourL := by
  intro c hc
  simp only [fourL, List.mem_cons, List.not_mem_nil, or_false] at hc
  rcases hc with rfl | rfl | rfl | rfl <;> simp
theorem four_row (w : World) (t : TypeId) : CrR (w.alloc (.cells #[.int .i64 5, .int .i64 0, .int .i64 4, .int .i64 0, .int .i64 3, .int .i64 0, .int .i64 1, .int .i64 0] t)) (w.heap.size + 1) (.slice (some ⟨w.heap.size, 0, none⟩) 4 4) fourL := by
  refine ⟨_, 4, rfl, Nat.le_refl _, by unfold maxLen; omega, fun _ => ⟨w.heap.size, 0, rfl, by omega, ?_⟩⟩
  exact (VRow.new w t (fourL.flatMap crC)).range (fun q v hv => by rw [Nat.zero_add]; exact hv)
theorem Ints.two {w : World} {B : Nat} {v : Value} {a b : Int} (h : Ints .i64 w B v [a, b]) : ∃ g o c, v = .slice (some ⟨g, o, none⟩) 2 c ∧ 2 ≤ c ∧ c ≤ 9223372036854775807 ∧ g < B ∧ w.cell? ⟨g, o + 1, none⟩ = some (.int .i64 b) := by
  obtain ⟨A, c, rfl, h1, h2, _, hx⟩ := h
  obtain ⟨g, o, rfl, hg, hc⟩ := hx (by simp)
  exact ⟨g, o, c, rfl, h1, h2, hg, hc 1 b rfl⟩
set_option maxRecDepth 100000 in
set_option maxHeartbeats 6400000 in
theorem awake_any (w : World) : Calls Try.prog 7 #[] w fun r w' => r = .returned (.bool true) ∧ Below w.heap.size w w' := by
  have hLg := fun (B : Nat) (v : Value) (W : World) (hX : CrR W B v fourL) (hB : B ≤ W.heap.size) => Largest_any B v fourL 6 0 0 0 0 W hX hB (by decide) four_ok
  have hBr := fun (B : Nat) (v : Value) (W : World) (hX : CrR W B v fourL) (hB : B ≤ W.heap.size) => Branch_any B v fourL 6 0 0 100 0 W hX hB (by decide) four_ok (by omega)
  simp only [four_largest, four_branch, tkC] at hLg hBr
  have HLG := Lib.hid hLg
  have HBR := Lib.hid hBr
  clear hLg hBr
  go_enter Try.func7, Try.ntmps7
  go_upto_region 2 with fail
  have hrow := four_row w 35
  have hbW : Below w.heap.size w (w.alloc (.cells #[.int .i64 5, .int .i64 0, .int .i64 4, .int .i64 0, .int .i64 3, .int .i64 0, .int .i64 1, .int .i64 0] 35)) := (Below.refl _ _).alloc (Nat.le_refl _) _
  change Code.wp _ _ _ _ (w.alloc (.cells #[.int .i64 5, .int .i64 0, .int .i64 4, .int .i64 0, .int .i64 3, .int .i64 0, .int .i64 1, .int .i64 0] 35))
  have hs : (w.alloc (.cells #[.int .i64 5, .int .i64 0, .int .i64 4, .int .i64 0, .int .i64 3, .int .i64 0, .int .i64 1, .int .i64 0] 35)).heap.size = w.heap.size + 1 := by simp
  obtain ⟨W1, hW1⟩ : ∃ z, z = w.alloc (.cells #[.int .i64 5, .int .i64 0, .int .i64 4, .int .i64 0, .int .i64 3, .int .i64 0, .int .i64 1, .int .i64 0] 35) := ⟨_, rfl⟩
  rw [← hW1] at hrow hbW hs ⊢
  rw [← hs] at hrow
  obtain ⟨G, hG⟩ : ∃ z, z = w.heap.size := ⟨_, rfl⟩
  rw [← hG] at hrow ⊢
  have HROW := Lib.hid hrow
  have HBW := Lib.hid hbW
  clear hrow hbW hs hW1 hG
  go_wp2_with (first
    | (go_at_call 12; refine (HLG.out _ _ _ HROW.out (Nat.le_refl _)).mono ?_; rintro e w2 ⟨p1, rfl, hp1, hb1⟩)
    | (go_at_call 16; refine (HBR.out _ _ _ (HROW.out.below hb1) hb1.size).mono ?_; rintro e w3 ⟨p2, rfl, hp2, hb2⟩
       have hq1 := Ints.two (a := 0) (b := 1) (Ints.below hp1 hb2)
       have hq2 := Ints.two (a := 0) (b := 3) hp2
       obtain ⟨g1, o1, c1, rfl, _, _, _, k1⟩ := hq1
       obtain ⟨g2, o2, c2, rfl, _, _, _, k2⟩ := hq2))
  go_ret
  exact ⟨rfl, HBW.out.trans ((hb1.trans (hb2.mono hb1.size)).mono HBW.out.size)⟩
end Go.Proofs.Ytammeedmccblcaa.Cs
