/-
  Texts joined: Double, TvS, TvB. Conditions: those of each.
-/
import Derived.Test.YthelmclpmalofaaDoorK10
import Derived.Test.YthelmclpmalofaaDoorK5
import Derived.Great.BuildSlice
/-
  hash.Double and Sum.Twice, walked. Conditions: the size stays below 2^59; the roots are laid.
-/
namespace Go.Proofs.YthelmclpmalofaaDoor
open Go.RowKit

theorem IRow.bytes {w : World} {g : Nat} {t : TypeId} {bs : List UInt8} (h : IRow w g t .u8 (nums bs)) (hl : bs.length ≤ maxLen) : Byt w (g + 1) (.slice (some ⟨g, 0, none⟩) bs.length bs.length) bs :=
  ⟨_, _, rfl, Nat.le_refl _, hl, (by intro h; cases h), fun _ => ⟨g, 0, rfl, Nat.lt_succ_self _, fun j u hu => by
    rw [Nat.zero_add]
    exact h.cell (by unfold nums; rw [List.getElem?_map, hu]; rfl)⟩⟩

set_option maxRecDepth 100000 in
set_option maxHeartbeats 3200000 in
theorem double_any (B : Nat) (v : Value) (b : List UInt8) (W0 : World) (hb : Byt W0 B v b) (hB : B ≤ W0.heap.size) (hlen : b.length < 576460752303423488) (hroots : Roots W0) :
    Calls Tryd.prog 53 #[v] W0 fun e w' => e = .returned (digV (sha256 (sha256 b))) ∧ Below W0.heap.size W0 w' := by
  obtain ⟨A, c, rfl⟩ := hb.form
  have HB := Lib.hid hb
  clear hb
  have rA := IRow.new W0 36 .u8 (List.replicate 32 0)
  have bA : Below W0.heap.size W0 (W0.alloc (.cells ((List.replicate 32 (0 : Int)).map (Value.int .u8)).toArray 36)) := (Below.refl _ W0).alloc (Nat.le_refl _) _
  have HR := Lib.hid hroots
  clear hroots
  go_enter Tryd.func53, Tryd.ntmps53
  go_upto_region 1 with fail
  change Code.wp _ _ _ _ (W0.alloc (.cells ((List.replicate 32 (0 : Int)).map (Value.int .u8)).toArray 36))
  obtain ⟨wA, hwA⟩ : ∃ x, x = W0.alloc (.cells ((List.replicate 32 (0 : Int)).map (Value.int .u8)).toArray 36) := ⟨_, rfl⟩
  rw [← hwA] at rA bA ⊢
  obtain ⟨B0, hB0⟩ : ∃ B0, B0 = W0.heap.size := ⟨_, rfl⟩
  rw [← hB0] at rA bA ⊢
  have C1 := Lib.hid (sum256_any B _ b wA (HB.out.below (bA.mono (by omega))) (by have := bA.size; omega) hlen (HR.out.below (by rw [← hB0]; exact bA)))
  have RA := Lib.hid rA
  have BA := Lib.hid bA
  have HB0 := Lib.hid hB0
  have RO := Lib.hid (HR.out.below (show Below W0.heap.size W0 wA by rw [← hB0]; exact bA))
  clear hwA rA bA hB0
  go_wp2_with fail
  refine C1.out.mono ?_
  rintro e w2 ⟨rfl, hb2⟩
  have hsz : (nums (sha256 b)).length = 32 := by rw [nums_length, sha256_length]
  have HI := Lib.hid (show (Tryd.prog.info? 36).map (·.size) = some (nums (sha256 b)).length by rw [hsz]; exact info_h)
  have HL := Lib.hid (show (List.replicate 32 (0 : Int)).length = (nums (sha256 b)).length by rw [hsz]; rfl)
  have rA2 := RA.out.below hb2 RA.out.lt
  have bA2 := BA.out.trans (hb2.mono (by have := BA.out.size; have := HB0.out; omega))
  have rO := RO.out.below hb2
  have rC := IRow.new w2 36 .u8 (List.replicate 32 0)
  have rC2 := setRow_irow (ys := nums (sha256 b)) rC
  have bC : Below w2.heap.size w2 ((w2.alloc (.cells ((List.replicate 32 (0 : Int)).map (Value.int .u8)).toArray 36)).setRow w2.heap.size ((nums (sha256 b)).map (Value.int .u8)).toArray) := below_setRow ((Below.refl _ w2).alloc (Nat.le_refl _) _) (Nat.le_refl _) _
  have RA2 := Lib.hid rA2
  have BA2 := Lib.hid bA2
  have RO2 := Lib.hid rO
  have RC := Lib.hid rC
  have RC2 := Lib.hid rC2
  have BC := Lib.hid bC
  clear hb2 rA2 bA2 rO rC rC2 bC hsz
  unfold digV
  go_upto_region 2 with (refine wpList_store_irow rfl 36 (.tmp 3) (.tmp 5) rfl (g := w2.heap.size) (t := 36) (k := .u8) (xs := List.replicate 32 0) (ys := nums (sha256 b)) rfl rfl RC.out HI.out HL.out ?_)
  change Code.wp _ _ _ _ ((w2.alloc (.cells ((List.replicate 32 (0 : Int)).map (Value.int .u8)).toArray 36)).setRow w2.heap.size ((nums (sha256 b)).map (Value.int .u8)).toArray)
  obtain ⟨w3, hw3⟩ : ∃ x, x = (w2.alloc (.cells ((List.replicate 32 (0 : Int)).map (Value.int .u8)).toArray 36)).setRow w2.heap.size ((nums (sha256 b)).map (Value.int .u8)).toArray := ⟨_, rfl⟩
  rw [← hw3]
  have rC3 : IRow w3 w2.heap.size 36 .u8 (nums (sha256 b)) := by rw [hw3]; exact RC2.out
  have bC3 : Below w2.heap.size w2 w3 := by rw [hw3]; exact BC.out
  have rA3 := RA2.out.below bC3 RA2.out.lt
  have bA3 := BA2.out.trans (bC3.mono (by have := BA2.out.size; have := HB0.out; omega))
  have ro3 := RO2.out.below bC3
  have hby := rC3.bytes (by rw [sha256_length]; unfold maxLen; omega)
  rw [sha256_length] at hby
  have C2 := Lib.hid (sum256_any _ _ _ w3 hby (by have := rC3.lt; omega) (by rw [sha256_length]; omega) ro3)
  have RA3 := Lib.hid rA3
  have BA3 := Lib.hid bA3
  clear hw3 rC3 bC3 rA3 bA3 ro3 hby RA2 BA2 RO2 RC RC2 BC HI HL
  dsimp only [Act.put]
  go_wp2_with fail
  refine C2.out.mono ?_
  rintro e w4 ⟨rfl, hb4⟩
  have hsz : (nums (sha256 (sha256 b))).length = 32 := by rw [nums_length, sha256_length]
  have HI := Lib.hid (show (Tryd.prog.info? 36).map (·.size) = some (nums (sha256 (sha256 b))).length by rw [hsz]; exact info_h)
  have HL := Lib.hid (show (List.replicate 32 (0 : Int)).length = (nums (sha256 (sha256 b))).length by rw [hsz]; rfl)
  have ra4 := RA3.out.below hb4 RA3.out.lt
  have b4 := BA3.out.trans (hb4.mono (by have := BA3.out.size; have := HB0.out; omega))
  have HFIN := Lib.hid (setRow_irow (ys := nums (sha256 (sha256 b))) ra4)
  have HBF := Lib.hid (below_setRow b4 (Nat.le_refl _) ((nums (sha256 (sha256 b))).map (Value.int .u8)).toArray)
  have RA4 := Lib.hid ra4
  clear ra4 b4 hb4 hsz
  unfold digV
  go_wp2_with (refine wpList_store_irow rfl 36 (.tmp 2) (.tmp 7) rfl (g := B0) (t := 36) (k := .u8) (xs := List.replicate 32 0) (ys := nums (sha256 (sha256 b))) rfl rfl RA4.out HI.out HL.out ?_)
  refine bodyPost_ret (v := digV (sha256 (sha256 b))) ?_ rfl ⟨rfl, by rw [← HB0.out]; exact HBF.out⟩
  obtain ⟨fr, hrw⟩ : ∃ fr, ((w4.setRow B0 ((nums (sha256 (sha256 b))).map (Value.int .u8)).toArray)).heap[B0]? = some (.cells ((nums (sha256 (sha256 b))).map (Value.int .u8)).toArray 36 fr) := ⟨_, HFIN.out⟩
  exact results_cell_row Tryd.results53 _ _ B0 36 ((nums (sha256 (sha256 b))).map (Value.int .u8)).toArray fr _ rfl hrw Tryd.underlying36 rfl (by rw [List.size_toArray, List.length_map]; exact HI.out)

end Go.Proofs.YthelmclpmalofaaDoor

/-
  sighash: chosen, alone, has, nothing, digest. Conditions: none.
-/
namespace Go.Proofs.YthelmclpmalofaaDoor
open Go.RowKit

def chosenF (k : Int) : Int := if k % 32 = 2 then 2 else if k % 32 = 3 then 3 else 1
def aloneF (k : Int) : Bool := decide (128 ≤ k)

theorem chosen_any (k : Int) (w : World) (h0 : 0 ≤ k) (h1 : k < 256) :
    Calls Tryd.prog 24 #[.int .u8 k] w fun e w' => e = .returned (.int .u8 (chosenF k)) ∧ w = w' := by
  by_cases c2 : k % 32 = 2
  · have hc : chosenF k = 2 := by unfold chosenF; rw [if_pos c2]
    rw [hc]
    clear hc
    go_enter Tryd.func24, Tryd.ntmps24
    go_wp2
    go_ret
    exact ⟨by rw [c2]; rfl, rfl⟩
  · by_cases c3 : k % 32 = 3
    · have hc : chosenF k = 3 := by unfold chosenF; rw [if_neg c2, if_pos c3]
      rw [hc]
      clear hc
      go_enter Tryd.func24, Tryd.ntmps24
      go_wp2
      go_ret
      exact ⟨by rw [c3]; rfl, rfl⟩
    · have hc : chosenF k = 1 := by unfold chosenF; rw [if_neg c2, if_neg c3]
      rw [hc]
      clear hc
      go_enter Tryd.func24, Tryd.ntmps24
      go_wp2
      go_ret
      exact ⟨rfl, rfl⟩
theorem and_128 : ∀ n : Nat, n < 256 → (bits .and .u8 (n : Int) 128 != 0) = decide (128 ≤ (n : Int)) := by decide +kernel
theorem alone_any (k : Int) (w : World) (h0 : 0 ≤ k) (h1 : k < 256) :
    Calls Tryd.prog 50 #[.int .u8 k] w fun e w' => e = .returned (.bool (aloneF k)) ∧ w = w' := by
  obtain ⟨n, rfl⟩ : ∃ n : Nat, k = n := ⟨k.toNat, by omega⟩
  have hk := and_128 n (by omega)
  unfold aloneF
  go_enter Tryd.func50, Tryd.ntmps50
  go_wp2
  go_ret
  exact ⟨rfl, rfl⟩
theorem hasIn_any (A : Option Addr) (n c : Nat) (i : Int) (w : World) :
    Calls Tryd.prog 23 #[.slice A n c, .int .i64 i] w fun e w' => e = .returned (.bool (decide (0 ≤ i ∧ i < n))) ∧ w = w' := by
  by_cases h0 : 0 ≤ i
  · have d : decide (0 ≤ i) = true := decide_eq_true h0
    have hr : decide (0 ≤ i ∧ i < n) = decide (i < n) := by rw [decide_eq_decide]; exact ⟨fun q => q.2, fun q => ⟨h0, q⟩⟩
    rw [hr]
    clear hr
    go_enter Tryd.func23, Tryd.ntmps23
    go_wp2
    go_ret
    exact ⟨rfl, rfl⟩
  · have d : decide (0 ≤ i) = false := decide_eq_false h0
    have hr : decide (0 ≤ i ∧ i < n) = false := decide_eq_false (fun q => h0 q.1)
    rw [hr]
    clear hr
    go_enter Tryd.func23, Tryd.ntmps23
    go_wp2
    go_ret
    exact ⟨rfl, rfl⟩
theorem hasOut_any (A : Option Addr) (n c : Nat) (i : Int) (w : World) :
    Calls Tryd.prog 25 #[.slice A n c, .int .i64 i] w fun e w' => e = .returned (.bool (decide (0 ≤ i ∧ i < n))) ∧ w = w' := by
  by_cases h0 : 0 ≤ i
  · have d : decide (0 ≤ i) = true := decide_eq_true h0
    have hr : decide (0 ≤ i ∧ i < n) = decide (i < n) := by rw [decide_eq_decide]; exact ⟨fun q => q.2, fun q => ⟨h0, q⟩⟩
    rw [hr]
    clear hr
    go_enter Tryd.func25, Tryd.ntmps25
    go_wp2
    go_ret
    exact ⟨rfl, rfl⟩
  · have d : decide (0 ≤ i) = false := decide_eq_false h0
    have hr : decide (0 ≤ i ∧ i < n) = false := decide_eq_false (fun q => h0 q.1)
    rw [hr]
    clear hr
    go_enter Tryd.func25, Tryd.ntmps25
    go_wp2
    go_ret
    exact ⟨rfl, rfl⟩
theorem ne_hash : (36 : TypeId) ≠ 5 := by decide
/-- The digest of nothing. -/
def oneB : List UInt8 := 1 :: List.replicate 31 0
theorem build_one (W : World) : (Instr.build 36 #[(0, .int .u8 1)]).run Tryd.prog W = .ok (digV oneB) W := by kernel_rfl
theorem wpList_build_lit {ops : Array Oper} {rest : List Oper} {op : Oper} {a : Act} {w : World} {Q : Exit → Act → World → Prop} (hgd : op.guard = none) (ty : TypeId) (parts : Array (Nat × Operand)) (v : Value) (ho : op.op = .build ty parts)
    (hx : ∀ w, (Instr.build ty (parts.map fun p => (p.1, a.eval p.2))).run Tryd.prog w = .ok v w)
    (hn : wpList Tryd.prog ops Q rest (a.put op.dst v) w) : wpList Tryd.prog ops Q (op :: rest) a w :=
  wpList_plain hgd fun K hK => by
    unfold Oper.wp execOp
    have hx2 := hx w
    simp only [ho, hx2, Sem.run_bind, Sem.run_pure, Result.andThen_ok]
    exact hK _ _ hn
set_option maxRecDepth 100000 in
set_option maxHeartbeats 800000 in
theorem nothing_any (w : World) :
    Calls Tryd.prog 26 #[] w fun e w' => e = .returned (digV oneB) ∧ Below w.heap.size w w' := by
  have hb := build_one
  have hsz : (nums oneB).length = 32 := by rw [nums_length]; rfl
  have HI := Lib.hid (show (Tryd.prog.info? 36).map (·.size) = some (nums oneB).length by rw [hsz]; exact info_h)
  have HL := Lib.hid (show (List.replicate 32 (0 : Int)).length = (nums oneB).length by rw [hsz]; rfl)
  have rA := IRow.new w 36 .u8 (List.replicate 32 0)
  have rF := setRow_irow (ys := nums oneB) rA
  have bF : Below w.heap.size w ((w.alloc (.cells ((List.replicate 32 (0 : Int)).map (Value.int .u8)).toArray 36)).setRow w.heap.size ((nums oneB).map (Value.int .u8)).toArray) := below_setRow ((Below.refl _ w).alloc (Nat.le_refl _) _) (Nat.le_refl _) _
  unfold digV at hb ⊢
  obtain ⟨NS, hNS⟩ : ∃ z, z = nums oneB := ⟨_, rfl⟩
  rw [← hNS] at hb HI HL rF bF ⊢
  have HBB := Lib.hid hb
  have RA := Lib.hid rA
  have RF := Lib.hid rF
  have BF := Lib.hid bF
  clear hb hsz rA rF bF hNS
  go_enter Tryd.func26, Tryd.ntmps26
  go_upto_region 1 with fail
  change Code.wp _ _ _ _ (w.alloc (.cells ((List.replicate 32 (0 : Int)).map (Value.int .u8)).toArray 36))
  obtain ⟨w1, hw1⟩ : ∃ z, z = w.alloc (.cells ((List.replicate 32 (0 : Int)).map (Value.int .u8)).toArray 36) := ⟨_, rfl⟩
  obtain ⟨G, hG⟩ : ∃ z, z = w.heap.size := ⟨_, rfl⟩
  rw [← hw1, ← hG] at RA RF BF ⊢
  clear hw1
  have HG := Lib.hid hG
  clear hG
  go_wp2_with (first
    | (refine wpList_build_lit rfl 36 _ (.agg (NS.map (Value.int .u8)).toArray) rfl (fun W => by (simp only [List.map_toArray, List.map_cons, List.map_nil]; exact HBB.out W)) ?_)
    | (refine wpList_store_irow rfl 36 (.tmp 0) (.tmp 1) rfl (g := G) (t := 36) (k := .u8) (xs := List.replicate 32 0) (ys := NS) rfl rfl RA.out HI.out HL.out ?_))
  refine bodyPost_ret (v := .agg (NS.map (Value.int .u8)).toArray) ?_ rfl ⟨rfl, by rw [← HG.out]; exact BF.out⟩
  obtain ⟨fr, hrw⟩ : ∃ fr, (w1.setRow G (NS.map (Value.int .u8)).toArray).heap[G]? = some (.cells (NS.map (Value.int .u8)).toArray 36 fr) := ⟨_, RF.out⟩
  exact results_cell_row Tryd.results26 _ _ G 36 (NS.map (Value.int .u8)).toArray fr _ rfl hrw Tryd.underlying36 rfl (by rw [List.size_toArray, List.length_map]; exact HI.out)

set_option maxRecDepth 100000 in
set_option maxHeartbeats 3200000 in
theorem digest_any (f : FuncId) (caps : Array Value) (zs : List UInt8) (W0 : World) (hroots : Roots W0) (hz : zs.length ≤ 60000)
    (eg : ∀ args W, (callFunc f args).run Tryd.prog W = .ok (.enter f args) W)
    (hcl : ∀ g W, WrT W0 W W0.heap.size g [] → Calls Tryd.prog f (#[.pointer (some ⟨g, 0, none⟩)] ++ caps) W (WrD W0 W0.heap.size g W zs)) :
    Calls Tryd.prog 29 #[.func (.func f) #[] caps] W0 fun e w' => e = .returned (digV (sha256 (sha256 zs))) ∧ Below W0.heap.size W0 w' := by
  have HR := Lib.hid hroots
  have HCL := Lib.hid hcl
  have rA := VRow.new W0 36 ((List.replicate 32 (0 : Int)).map (Value.int .u8))
  have bA : Below W0.heap.size W0 (W0.alloc (.cells ((List.replicate 32 (0 : Int)).map (Value.int .u8)).toArray 36)) := (Below.refl _ W0).alloc (Nat.le_refl _) _
  have hw1 := WrT.new bA (Nat.le_refl _)
  have hs1 : (W0.alloc (.cells ((List.replicate 32 (0 : Int)).map (Value.int .u8)).toArray 36)).heap.size = W0.heap.size + 1 := by simp
  rw [hs1] at hw1
  have rA1 := rA.below ((Below.refl _ _).alloc (Nat.le_refl _) (.cells #[.slice none 0 0] 81)) (by rw [hs1]; omega)
  go_enter Tryd.func29, Tryd.ntmps29
  go_upto_region 2 with fail
  change Code.wp _ _ _ _ ((W0.alloc (.cells ((List.replicate 32 (0 : Int)).map (Value.int .u8)).toArray 36)).alloc (.cells #[.slice none 0 0] 81))
  obtain ⟨w1, hw1e⟩ : ∃ z, z = ((W0.alloc (.cells ((List.replicate 32 (0 : Int)).map (Value.int .u8)).toArray 36)).alloc (.cells #[.slice none 0 0] 81)) := ⟨_, rfl⟩
  obtain ⟨g, hg⟩ : ∃ z, z = W0.heap.size + 1 := ⟨_, rfl⟩
  obtain ⟨GA, hGA⟩ : ∃ z, z = W0.heap.size := ⟨_, rfl⟩
  have hne : GA ≠ g := by omega
  have H1 := Lib.hid (show WrT W0 w1 W0.heap.size g [] by rw [hw1e, hg]; exact hw1)
  have R1 := Lib.hid (show VRow w1 GA 36 ((List.replicate 32 (0 : Int)).map (Value.int .u8)) by rw [hw1e, hGA]; exact rA1)
  rw [← hw1e, ← hg, ← hGA]
  have HGA := Lib.hid hGA
  have HNE := Lib.hid hne
  clear hw1 hw1e hg hGA hne rA rA1 bA hs1 hroots hcl
  go_wp2_with fail
  refine (HCL.out g w1 H1.out).mono ?_
  rintro e w2 ⟨rfl, h2, k2⟩
  have H2 := Lib.hid h2
  have R2 := Lib.hid (k2 GA _ _ ne_hash HNE.out R1.out)
  clear h2 k2
  go_wp2_with fail
  refine (out_t zs w2 H2.out hz).mono ?_
  rintro e w3 ⟨A, c, rfl, hown, hb3⟩
  have C2 := Lib.hid (double_any w3.heap.size _ zs w3 (OwnB.byt hown) (Nat.le_refl _) (by omega) (HR.out.below (H2.out.bel.trans (hb3.mono H2.out.bel.size))))
  have R3 := Lib.hid (R2.out.below hb3 R2.out.lt)
  have B3 := Lib.hid (H2.out.bel.trans (hb3.mono H2.out.bel.size))
  clear hown hb3
  go_wp2_with fail
  refine C2.out.mono ?_
  rintro e w4 ⟨rfl, hb4⟩
  have R4 := Lib.hid (R3.out.below hb4 R3.out.lt)
  have B4 := Lib.hid (B3.out.trans (hb4.mono B3.out.size))
  have hsz : (nums (sha256 (sha256 zs))).length = 32 := by rw [nums_length, sha256_length]
  have HI := Lib.hid (show (Tryd.prog.info? 36).map (·.size) = some (nums (sha256 (sha256 zs))).length by rw [hsz]; exact info_h)
  have HL := Lib.hid (show (List.replicate 32 (0 : Int)).length = (nums (sha256 (sha256 zs))).length by rw [hsz]; rfl)
  have r4 : IRow w4 GA 36 .u8 (List.replicate 32 0) := R4.out
  have HFIN := Lib.hid (setRow_irow (ys := nums (sha256 (sha256 zs))) r4)
  have HBF := Lib.hid (below_setRow B4.out (show W0.heap.size ≤ GA by have := HGA.out; omega) ((nums (sha256 (sha256 zs))).map (Value.int .u8)).toArray)
  have RR4 := Lib.hid r4
  clear hb4 hsz r4
  unfold digV
  go_wp2_with (refine wpList_store_irow rfl 36 (.tmp 2) (.tmp 7) rfl (g := GA) (t := 36) (k := .u8) (xs := List.replicate 32 0) (ys := nums (sha256 (sha256 zs))) rfl rfl RR4.out HI.out HL.out ?_)
  refine bodyPost_ret (v := digV (sha256 (sha256 zs))) ?_ rfl ⟨rfl, HBF.out⟩
  obtain ⟨fr, hrw⟩ : ∃ fr, (w4.setRow GA ((nums (sha256 (sha256 zs))).map (Value.int .u8)).toArray).heap[GA]? = some (.cells ((nums (sha256 (sha256 zs))).map (Value.int .u8)).toArray 36 fr) := ⟨_, HFIN.out⟩
  exact results_cell_row Tryd.results29 _ _ GA 36 ((nums (sha256 (sha256 zs))).map (Value.int .u8)).toArray fr _ rfl hrw Tryd.underlying36 rfl (by rw [List.size_toArray, List.length_map]; exact HI.out)
end Go.Proofs.YthelmclpmalofaaDoor

/-
  Struct values of transactions, built. Conditions: none.
-/
namespace Go.Proofs.YthelmclpmalofaaDoor
open Go.RowKit

theorem tfoldl_set : ∀ (v : List Value) (off j0 : Nat) (cells : Array Value), off + j0 + v.length ≤ cells.size →
    ((v.zipIdx j0).foldl (fun cs (p : Value × Nat) => cs.setIfInBounds (off + p.2) p.1) cells).toList = cells.toList.take (off + j0) ++ v ++ cells.toList.drop (off + j0 + v.length)
  | [], off, j0, cells, _ => by simp
  | x :: v, off, j0, cells, h => by
    rw [List.zipIdx_cons, List.foldl_cons]
    have ih := tfoldl_set v off (j0 + 1) (cells.setIfInBounds (off + j0) x) (by simp at h ⊢; omega)
    rw [ih, Array.toList_setIfInBounds]
    exact list_seg_step cells.toList (off + j0) x v (by simp at h ⊢; omega)
theorem tfill_next {place : Nat → Option (Nat × Nat)} {i off n : Nat} {v : Value} {rest : List (Nat × Value)} {cells : List Value} (cs : List Value) (hp : place i = some (off, n)) (hv : v.cells.toList = cs) (hn : cs.length = n) (hf : off + n ≤ cells.length) :
    Instr.fill place cells.toArray ((i, v) :: rest) = Instr.fill place (cells.take off ++ cs ++ cells.drop (off + n)).toArray rest := by
  have hs : v.cells.size = n := by rw [← Array.length_toList, hv, hn]
  conv => lhs; unfold Instr.fill
  rw [hp]
  have hc : ¬ ((decide (v.cells.size ≠ n) || decide (off + v.cells.size > cells.toArray.size)) = true) := by
    rw [hs]
    simp
    omega
  have hq : (v.cells.zipIdx.foldl (fun cs (x : Value × Nat) => cs.setIfInBounds (off + x.2) x.1) cells.toArray) = (cells.take off ++ cs ++ cells.drop (off + n)).toArray := by
    have e := tfoldl_set cs off 0 cells.toArray (by simp [hn]; omega)
    apply Array.toList_inj.1
    rw [← Array.foldl_toList, Array.toList_zipIdx, hv]
    rw [e]
    simp [hn]
  rw [← hq]
  split
  · rename_i h; cases h
  · rename_i o s h
    obtain ⟨rfl, rfl⟩ := Prod.mk.inj (Option.some.inj h)
    rw [if_neg (by simpa using hc)]
/-- A place's cells. -/
def opC (h : List UInt8) (ix : Int) : List Value := h.map bv ++ [.int .u32 ix]
theorem opC_length {h : List UInt8} (ix : Int) (hl : h.length = 32) : (opC h ix).length = 33 := by unfold opC; rw [List.length_append, List.length_map, hl]; rfl
theorem inC_op (x : InV) : inC x = opC x.p.h x.p.ix ++ [x.sv, .int .u32 x.p.sq, x.wv] := by unfold inC opC; simp
theorem in_built (parts : List (Nat × Value)) : Tryd.prog.built 49 parts = Instr.fill (#[(0, 33), (33, 1), (34, 1), (35, 1)][·]?) zTin.toArray parts := by kernel_rfl
theorem tin_split {O : List Value} (_hO : O.length = 33) : zTin.take 0 ++ O ++ zTin.drop (0 + 33) = O ++ [Value.slice none 0 0, .int .u32 0, .slice none 0 0] := by
  rw [List.take_zero, List.nil_append]
  rfl
theorem seg_1 {O : List Value} (hO : O.length = 33) (a b c v : Value) : (O ++ [a, b, c]).take 33 ++ [v] ++ (O ++ [a, b, c]).drop (33 + 1) = O ++ [v, b, c] := by
  rw [List.take_append, List.drop_append, hO, List.take_of_length_le (by omega), List.drop_of_length_le (by omega)]
  simp
theorem seg_2 {O : List Value} (hO : O.length = 33) (a b c v : Value) : (O ++ [a, b, c]).take 34 ++ [v] ++ (O ++ [a, b, c]).drop (34 + 1) = O ++ [a, v, c] := by
  rw [List.take_append, List.drop_append, hO, List.take_of_length_le (by omega), List.drop_of_length_le (by omega)]
  simp
theorem seg_3 {O : List Value} (hO : O.length = 33) (a b c v : Value) : (O ++ [a, b, c]).take 35 ++ [v] ++ (O ++ [a, b, c]).drop (35 + 1) = O ++ [a, b, v] := by
  rw [List.take_append, List.drop_append, hO, List.take_of_length_le (by omega), List.drop_of_length_le (by omega)]
  simp
theorem len_36 {O : List Value} (hO : O.length = 33) (a b c : Value) : (O ++ [a, b, c]).length = 36 := by rw [List.length_append, hO]; rfl
/-- A place, a script, a number. -/
theorem build_own {O : List Value} (hO : O.length = 33) (A : Option Addr) (n c : Nat) (sq : Int) (W : World) :
    (Instr.build 49 #[(0, .agg O.toArray), (1, .slice A n c), (2, .int .u32 sq)]).run Tryd.prog W = .ok (.agg (O ++ [Value.slice A n c, .int .u32 sq, .slice none 0 0]).toArray) W := by
  refine run_build W _ _ _ ?_
  rw [in_built, tfill_next O (off := 0) (n := 33) rfl rfl hO (by decide), tin_split hO,
    tfill_next [Value.slice A n c] (off := 33) (n := 1) rfl rfl rfl (by rw [len_36 hO]; omega), seg_1 hO,
    tfill_next [Value.int .u32 sq] (off := 34) (n := 1) rfl rfl rfl (by rw [len_36 hO]; omega), seg_2 hO]
  rfl
theorem build_place {O : List Value} (hO : O.length = 33) (W : World) :
    (Instr.build 49 #[(0, .agg O.toArray)]).run Tryd.prog W = .ok (.agg (O ++ [Value.slice none 0 0, .int .u32 0, .slice none 0 0]).toArray) W := by
  refine run_build W _ _ _ ?_
  rw [in_built, tfill_next O (off := 0) (n := 33) rfl rfl hO (by decide), tin_split hO]
  rfl
theorem build_seq {O : List Value} (hO : O.length = 33) (sq : Int) (W : World) :
    (Instr.build 49 #[(0, .agg O.toArray), (2, .int .u32 sq)]).run Tryd.prog W = .ok (.agg (O ++ [Value.slice none 0 0, .int .u32 sq, .slice none 0 0]).toArray) W := by
  refine run_build W _ _ _ ?_
  rw [in_built, tfill_next O (off := 0) (n := 33) rfl rfl hO (by decide), tin_split hO,
    tfill_next [Value.int .u32 sq] (off := 34) (n := 1) rfl rfl rfl (by rw [len_36 hO]; omega), seg_2 hO]
  rfl
theorem build_whole {O : List Value} (hO : O.length = 33) (A : Option Addr) (n c : Nat) (sq : Int) (A2 : Option Addr) (n2 c2 : Nat) (W : World) :
    (Instr.build 49 #[(0, .agg O.toArray), (1, .slice A n c), (2, .int .u32 sq), (3, .slice A2 n2 c2)]).run Tryd.prog W = .ok (.agg (O ++ [Value.slice A n c, .int .u32 sq, .slice A2 n2 c2]).toArray) W := by
  refine run_build W _ _ _ ?_
  rw [in_built, tfill_next O (off := 0) (n := 33) rfl rfl hO (by decide), tin_split hO,
    tfill_next [Value.slice A n c] (off := 33) (n := 1) rfl rfl rfl (by rw [len_36 hO]; omega), seg_1 hO,
    tfill_next [Value.int .u32 sq] (off := 34) (n := 1) rfl rfl rfl (by rw [len_36 hO]; omega), seg_2 hO,
    tfill_next [Value.slice A2 n2 c2] (off := 35) (n := 1) rfl rfl rfl (by rw [len_36 hO]; omega), seg_3 hO]
  rfl
theorem build_tout (v : Int) (A : Option Addr) (n c : Nat) (W : World) : (Instr.build 54 #[(0, .int .i64 v), (1, .slice A n c)]).run Tryd.prog W = .ok (.agg [Value.int .i64 v, Value.slice A n c].toArray) W := by kernel_rfl
theorem build_tx (v l : Int) (W : World) : (Instr.build 26 #[(0, .int .i32 v), (3, .int .u32 l)]).run Tryd.prog W = .ok (.agg [Value.int .i32 v, .slice none 0 0, .slice none 0 0, .int .u32 l].toArray) W := by kernel_rfl

theorem info_tin : (Tryd.prog.info? 49).map (fun i => (i.zero, i.size, i.bytes)) = some (some (.agg zTin.toArray), 36, 96) := by kernel_rfl
theorem info_tout : (Tryd.prog.info? 54).map (fun i => (i.zero, i.size, i.bytes)) = some (some (.agg #[.int .i64 0, .slice none 0 0]), 2, 32) := by kernel_rfl
theorem one_fill {C Z : List Value} {n : Nat} (hC : C.length = n) (hZ : Z.length = n) : Instr.fill (fun i => some (i * n, n)) Z.toArray [(0, .agg C.toArray)] = some C.toArray := by
  rw [tfill_next C (off := 0 * n) (n := n) rfl rfl hC (by rw [hZ]; omega), Nat.zero_mul, Nat.zero_add, List.take_zero, List.nil_append, List.drop_of_length_le (by omega), List.append_nil]
  rfl
/-- A slice of one input. -/
theorem one_tin {C : List Value} (hC : C.length = 36) (W : World) : (Instr.buildSlice 22 1 #[(0, .agg C.toArray)]).run Tryd.prog W = .ok (.slice (some ⟨W.heap.size, 0, none⟩) 1 1) (W.alloc (.cells C.toArray 49)) := by
  have h := info_tin
  cases hi : Tryd.prog.info? 49 with
  | none => rw [hi] at h; cases h
  | some i =>
    rw [hi] at h
    simp only [Option.map_some, Option.some.injEq, Prod.mk.injEq] at h
    obtain ⟨hz, hs, _⟩ := h
    refine run_buildSlice W _ _ 1 _ C.toArray i _ Tryd.underlying22 hi hz (by rw [hs]; decide) (by rw [hs]; decide) ?_
    rw [hs]
    exact one_fill (Z := ((Array.range (1 * 36)).map (zTin.toArray[· % zTin.toArray.size]!)).toList) hC (by simp)
theorem one_tout {C : List Value} (hC : C.length = 2) (W : World) : (Instr.buildSlice 23 1 #[(0, .agg C.toArray)]).run Tryd.prog W = .ok (.slice (some ⟨W.heap.size, 0, none⟩) 1 1) (W.alloc (.cells C.toArray 54)) := by
  have h := info_tout
  cases hi : Tryd.prog.info? 54 with
  | none => rw [hi] at h; cases h
  | some i =>
    rw [hi] at h
    simp only [Option.map_some, Option.some.injEq, Prod.mk.injEq] at h
    obtain ⟨hz, hs, _⟩ := h
    refine run_buildSlice W _ _ 1 _ C.toArray i _ Tryd.underlying23 hi hz (by rw [hs]; decide) (by rw [hs]; decide) ?_
    rw [hs]
    exact one_fill (Z := ((Array.range (1 * 2)).map ((#[Value.int .i64 0, .slice none 0 0] : Array Value)[· % 2]!)).toList) hC (by simp)
end Go.Proofs.YthelmclpmalofaaDoor
