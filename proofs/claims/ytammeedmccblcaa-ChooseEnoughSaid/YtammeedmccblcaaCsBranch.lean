/-
  Just as much as is needed, searched for. Conditions: what the coins bring together may be.
-/
import Derived.Test.YtammeedmccblcaaCsStep
namespace Go.Proofs.Ytammeedmccblcaa.Cs
open Go.RowKit

def branchR (need extra : Int) (t : Nat) (H : List Cn) (tot : Int) : Int × List Cn := if (stepF need extra H t 0 tot).1 then (0, (stepF need extra H t 0 tot).2.1) else (7, [])
theorem zero_search (W : World) : (zeroValue 78).run Try.prog W = .ok (.agg #[.int .i64 0, .int .i64 0, .int .i64 0, .int .i64 0, .int .u64 0, .slice none 0 0, .int .i64 0, .slice none 0 0]) W := by kernel_rfl
theorem build_search (a b c d e f : Int) (A : Option Addr) (n k : Nat) (W : World) : (Instr.build 78 #[(0, .agg #[.int .i64 a, .int .i64 b, .int .i64 c, .int .i64 d, .int .u64 e, .slice A n k, .int .i64 f])]).run Try.prog W = .ok (.agg #[.int .i64 a, .int .i64 b, .int .i64 c, .int .i64 d, .int .u64 e, .slice A n k, .int .i64 f, .slice none 0 0]) W := by kernel_rfl
set_option maxRecDepth 100000 in
set_option maxHeartbeats 3200000 in
theorem branch_any (B : Nat) (need extra rate seed tot : Int) (t : Nat) (H : List Cn) (u : Value) (w : World) (hu : CnR w B u H) (hB : B ≤ w.heap.size) (hp : Pos H) (hs : sumD H ≤ 2100000000000000) (hl : H.length ≤ 1000) (hn0 : 0 ≤ need) (hn1 : need ≤ 9223372036854775807) (ht : t ≤ 100000) (htot : tot = sumD H) :
    Calls Try.prog 32 #[.agg (hnC (tkC need extra rate (t : Int) seed) u tot).toArray] w fun e w' => ∃ v, e = .returned (.tuple #[v, .int .i64 (branchR need extra t H tot).1]) ∧ CnR w' w'.heap.size v (branchR need extra t H tot).2 ∧ Below w.heap.size w w' := by
  obtain ⟨R, hR⟩ : ∃ z, z = branchR need extra t H tot := ⟨_, rfl⟩
  rw [← hR]
  unfold branchR at hR
  have hst := fun (G : Nat) (W : World) (hu : CnR W G u H) (hv : VRow W G 78 (srC need extra rate t seed u tot (.slice none 0 0))) => step_any G need extra rate seed tot u H hp hl hn0 hn1 H 0 t 0 tot [] (.slice none 0 0) W rfl (Nat.zero_le _) htot (Int.le_refl _) (by omega) ht (Nat.zero_le _) hu hv (World.ownsRow_nil _ _ _ _)
  obtain ⟨S, hS⟩ : ∃ z, z = stepF need extra H t 0 tot := ⟨_, rfl⟩
  simp only [← hS] at hst
  rw [← hS] at hR
  obtain ⟨A, c, rfl, _, _⟩ := hu.form
  obtain ⟨nH, hnH⟩ : ∃ z, z = H.length := ⟨_, rfl⟩
  rw [← hnH] at hu hst ⊢
  have HR := Lib.hid hR
  have HU := Lib.hid hu
  have HB := Lib.hid hB
  have hbs := build_search
  have hzs := zero_search
  clear hR hu hB hS hnH hp hs hl htot
  unfold tkC hnC
  go_enter Try.func32, Try.ntmps32
  go_upto_region 2 with fail
  obtain ⟨O1, hO1⟩ : ∃ z, z = Obj.cells [Value.int .i64 need, .int .i64 extra, .int .i64 rate, .int .i64 (t : Int), .int .u64 seed, .slice A nH c, .int .i64 tot].toArray 60 := ⟨_, rfl⟩
  obtain ⟨w2, hw2⟩ : ∃ z, z = (w.alloc O1).alloc (.cells (srC need extra rate t seed (.slice A nH c) tot (.slice none 0 0)).toArray 78) := ⟨_, rfl⟩
  have hs1 : (w.alloc O1).heap.size = w.heap.size + 1 := by simp
  have b1 : Below w.heap.size w (w.alloc O1) := (Below.refl _ _).alloc (Nat.le_refl _) _
  have b2 : Below w.heap.size w w2 := by rw [hw2]; exact b1.alloc (by rw [hs1]; omega) _
  have v1 : VRow w2 w.heap.size 60 [Value.int .i64 need, .int .i64 extra, .int .i64 rate, .int .i64 (t : Int), .int .u64 seed, .slice A nH c, .int .i64 tot] := by
    rw [hw2, hO1]
    exact (VRow.new w 60 _).below ((Below.refl _ _).alloc (Nat.le_refl _) _) (by simp)
  have v2 : VRow w2 (w.heap.size + 1) 78 (srC need extra rate t seed (.slice A nH c) tot (.slice none 0 0)) := by
    rw [hw2, ← hs1]
    exact VRow.new _ _ _
  change Code.wp _ _ _ _ ((w.alloc (Obj.cells [Value.int .i64 need, .int .i64 extra, .int .i64 rate, .int .i64 (t : Int), .int .u64 seed, .slice A nH c, .int .i64 tot].toArray 60)).alloc (.cells (srC need extra rate t seed (.slice A nH c) tot (.slice none 0 0)).toArray 78))
  rw [← hO1, ← hw2]
  obtain ⟨G0, hG0⟩ : ∃ z, z = w.heap.size := ⟨_, rfl⟩
  obtain ⟨G, hG⟩ : ∃ z, z = w.heap.size + 1 := ⟨_, rfl⟩
  rw [← hG0] at v1
  rw [← hG] at v2
  rw [← hG, ← hG0]
  have x6 : w2.cell? ⟨G0, 6, none⟩ = some (.int .i64 tot) := v1.cell rfl
  have hu2 : CnR w2 G (.slice A nH c) H := (HU.out.below (b2.mono HB.out)).more (by have := HB.out; omega)
  have HST := Lib.hid (hst G w2 hu2 v2)
  have HGG := Lib.hid hG
  have B2 := Lib.hid b2
  clear hst hu2 v1 v2 b1 b2 hs1 hw2 hO1 hG hG0 hbs hzs
  obtain ⟨f, p, t'⟩ := S
  cases f with
  | true =>
    have hRe : R = (0, p) := HR.out
    subst hRe
    go_wp2_with (first
      | (go_at_call 41; refine HST.out.mono ?_; rintro e w3 ⟨pk, rfl, V3, O3, t3, o3⟩; have y7 := V3.cell (i := 7) rfl))
    go_ret2
    refine ⟨pk, rfl, ?_, ?_⟩
    · rw [List.nil_append] at O3
      exact RowR.of_own O3
    · exact B2.out.trans (t3.below_of (by have := B2.out.size; exact this) (fun i hi h => h.elim (fun e => by have := HGG.out; omega) (fun e => by cases e)))
  | false =>
    have hRe : R = (7, []) := HR.out
    subst hRe
    go_wp2_with (first
      | (go_at_call 41; refine HST.out.mono ?_; rintro e w3 ⟨pk, rfl, V3, O3, t3, o3⟩))
    go_ret2
    exact ⟨.slice none 0 0, rfl, RowR.nil _ _, B2.out.trans (t3.below_of (by have := B2.out.size; exact this) (fun i hi h => h.elim (fun e => by have := HGG.out; omega) (fun e => by cases e)))⟩
end Go.Proofs.Ytammeedmccblcaa.Cs
