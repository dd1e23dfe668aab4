/-
  Texts joined: HkHalf, HkPriv, HkKey. Conditions: those of each.
-/
import Derived.Test.YtfkpdbmgiefnfaaDoorP17
import Derived.Test.YtfkpdbmgiefnfaaDoorP6
import Derived.Test.YtfkpdbmgiefnfaaDoorP15
import Derived.Deep.MidRow
import Derived.Laws.StructEq
import Derived.Stop.BytesEq
/-
  hdkey.halves and hdkey.privateData, walked. Conditions: the digest has 64 bytes, the number 32.
-/
namespace Go.Proofs.YtfkpdbmgiefnfaaDoor.Hk
open Go.RowKit

theorem irow_sub {w : World} {g : Nat} {t : TypeId} {k : IntKind} {xs : List Int} (h : IRow w g t k xs) (o n : Nat) : w.rangeAt g o (((xs.drop o).take n).map (Value.int k)) := fun j v hv => by
  rw [List.getElem?_map] at hv
  cases hq : ((xs.drop o).take n)[j]? with
  | none => rw [hq] at hv; cases hv
  | some z =>
    rw [hq] at hv
    obtain rfl := Option.some.inj hv
    rw [List.getElem?_take] at hq
    split at hq
    · rw [List.getElem?_drop] at hq
      exact h.cell hq
    · cases hq
theorem results_rows {P : Program} {fn : Func} {p q : Tmp} {ty : TypeId} (h : fn.results = #[.cell p ty, .cell q ty]) (tmps : Array Value) (w : World) (g g2 : Nat) (t t2 : TypeId) (cs cs2 : Array Value) (fr fr2 : Nat × Nat) (d : TypeDesc)
    (hp : tmps.getD p undef = .pointer (some ⟨g, 0, none⟩)) (hq : tmps.getD q undef = .pointer (some ⟨g2, 0, none⟩)) (hg : w.heap[g]? = some (.cells cs t fr)) (hg2 : w.heap[g2]? = some (.cells cs2 t2 fr2))
    (hu : P.underlying ty = some d) (hd : (match d with | .struct _ | .array _ _ => true | _ => false) = true) (hi : (P.info? ty).map (·.size) = some cs.size) (hi2 : (P.info? ty).map (·.size) = some cs2.size) :
    (results fn tmps).run P w = .ok (.tuple #[.agg cs, .agg cs2]) w := by
  have hp' : tmps[p]?.getD undef = .pointer (some ⟨g, 0, none⟩) := by simpa using hp
  have hq' : tmps[q]?.getD undef = .pointer (some ⟨g2, 0, none⟩) := by simpa using hq
  simp [results, h, hp', hq', asAddr, run_loadVar_row w g t ty cs fr d hg hu hd hi, run_loadVar_row w g2 t2 ty cs2 fr2 d hg2 hu hd hi2]
theorem nums_sub (l : List UInt8) (o n : Nat) : ((nums l).drop o).take n = nums ((l.drop o).take n) := by
  unfold nums
  rw [List.map_take, List.map_drop]

set_option maxRecDepth 100000 in
set_option maxHeartbeats 6400000 in
theorem halves_any (D : List UInt8) (w : World) (hl : D.length = 64) :
    Calls Tryd.prog 16 #[digV D] w fun e w' => e = .returned (.tuple #[digV (D.take 32), digV (D.drop 32)]) ∧ Below w.heap.size w w' := by
  have hl2 : (nums D).length = 64 := by rw [nums_length, hl]
  have e1 : ((nums D).drop 0).take 32 = nums (D.take 32) := by rw [nums_sub, List.drop_zero]
  have e2 : ((nums D).drop 32).take 32 = nums (D.drop 32) := by rw [nums_sub, List.take_of_length_le (by rw [List.length_drop]; omega)]
  have n1 : (nums (D.take 32)).length = 32 := by rw [nums_length, List.length_take]; omega
  have n2 : (nums (D.drop 32)).length = 32 := by rw [nums_length, List.length_drop]; omega
  obtain ⟨h1, hh1⟩ : ∃ h, h = nums (D.take 32) := ⟨_, rfl⟩
  obtain ⟨h2, hh2⟩ : ∃ h, h = nums (D.drop 32) := ⟨_, rfl⟩
  rw [← hh1] at e1 n1
  rw [← hh2] at e2 n2
  have r1 := irow_alloc (irow_alloc (IRow.new w 51 .u8 (nums D)) (.cells ((List.replicate 32 (0 : Int)).map (Value.int .u8)).toArray 28)) (.cells ((List.replicate 32 (0 : Int)).map (Value.int .u8)).toArray 28)
  have r2 := irow_alloc (IRow.new (w.alloc (.cells ((nums D).map (Value.int .u8)).toArray 51)) 28 .u8 (List.replicate 32 0)) (.cells ((List.replicate 32 (0 : Int)).map (Value.int .u8)).toArray 28)
  have r3 := IRow.new ((w.alloc (.cells ((nums D).map (Value.int .u8)).toArray 51)).alloc (.cells ((List.replicate 32 (0 : Int)).map (Value.int .u8)).toArray 28)) 28 .u8 (List.replicate 32 0)
  have b1 : Below w.heap.size w (((w.alloc (.cells ((nums D).map (Value.int .u8)).toArray 51)).alloc (.cells ((List.replicate 32 (0 : Int)).map (Value.int .u8)).toArray 28)).alloc (.cells ((List.replicate 32 (0 : Int)).map (Value.int .u8)).toArray 28)) := (((Below.refl _ w).alloc (Nat.le_refl _) _).alloc (by simp) _).alloc (by simp; omega) _
  rw [World.size_alloc] at r2
  rw [World.size_alloc, World.size_alloc] at r3
  obtain ⟨wA, hwA⟩ : ∃ z, z = (((w.alloc (.cells ((nums D).map (Value.int .u8)).toArray 51)).alloc (.cells ((List.replicate 32 (0 : Int)).map (Value.int .u8)).toArray 28)).alloc (.cells ((List.replicate 32 (0 : Int)).map (Value.int .u8)).toArray 28)) := ⟨_, rfl⟩
  rw [← hwA] at r1 r2 r3 b1
  obtain ⟨GA, hGA⟩ : ∃ g, g = w.heap.size := ⟨_, rfl⟩
  rw [← hGA] at r1 r2 r3 b1
  have AR1 : ∀ W, (Instr.arrayAt 28 (.slice (some ⟨GA, 0, none⟩) 32 64)).run Tryd.prog W = .ok (.pointer (some ⟨GA, 0, none⟩)) W := fun W => by kernel_rfl
  have AR2 : ∀ W, (Instr.arrayAt 28 (.slice (some ⟨GA, 32, none⟩) 32 32)).run Tryd.prog W = .ok (.pointer (some ⟨GA, 32, none⟩)) W := fun W => by kernel_rfl
  have I1 := Lib.hid (show (Tryd.prog.info? 28).map (·.size) = some h1.length by rw [n1]; exact info_b32)
  have I2 := Lib.hid (show (Tryd.prog.info? 28).map (·.size) = some h2.length by rw [n2]; exact info_b32)
  have N1 := Lib.hid n1
  have N2 := Lib.hid n2
  have R1 := Lib.hid r1
  have R2 := Lib.hid r2
  have R3 := Lib.hid r3
  have B1 := Lib.hid b1
  have HWA := Lib.hid hwA
  have HGA := Lib.hid hGA
  have HH1 := Lib.hid hh1
  have HH2 := Lib.hid hh2
  have EE1 := Lib.hid e1
  have EE2 := Lib.hid e2
  clear hl hl2 e1 e2 n1 n2 hh1 hh2 r1 r2 r3 b1 hwA hGA 
  unfold digV
  go_enter Tryd.func16, Tryd.ntmps16
  go_upto_region 1 with fail
  change Code.wp _ _ _ _ (((w.alloc (.cells ((nums D).map (Value.int .u8)).toArray 51)).alloc (.cells ((List.replicate 32 (0 : Int)).map (Value.int .u8)).toArray 28)).alloc (.cells ((List.replicate 32 (0 : Int)).map (Value.int .u8)).toArray 28))
  rw [← HWA.out, show w.heap.size = GA from HGA.out.symm]
  clear HWA
  try dsimp only [Act.put]
  have a6 := setRow_irow (ys := h1) R2.out.drew
  have a7 := setRow_irow (ys := h2) R3.out.drew
  have b6 := irow_setRow R3.out.drew (by omega : GA + 1 ≠ GA + 1 + 1) (h1.map (Value.int .u8)).toArray
  have b7 := irow_setRow R2.out.drew (by omega : GA + 1 + 1 ≠ GA + 1) (h2.map (Value.int .u8)).toArray
  have k6 := irow_setRow R1.out.drew (by omega : GA + 1 ≠ GA) (h1.map (Value.int .u8)).toArray
  have k7 := irow_setRow R1.out.drew (by omega : GA + 1 + 1 ≠ GA) (h2.map (Value.int .u8)).toArray
  have B6 := Lib.hid b6
  have B7 := Lib.hid b7
  have K6 := Lib.hid k6
  have K7 := Lib.hid k7
  have K67 := Lib.hid (irow_setRow k6 (by omega : GA + 1 + 1 ≠ GA) (h2.map (Value.int .u8)).toArray)
  have K76 := Lib.hid (irow_setRow k7 (by omega : GA + 1 ≠ GA) (h1.map (Value.int .u8)).toArray)
  have E67 := Lib.hid (And.intro (irow_setRow a6 (by omega : GA + 1 + 1 ≠ GA + 1) (h2.map (Value.int .u8)).toArray) (And.intro (setRow_irow (ys := h2) b6) (below_setRow (below_setRow B1.out.drew (by omega : GA ≤ GA + 1) (h1.map (Value.int .u8)).toArray) (by omega : GA ≤ GA + 1 + 1) (h2.map (Value.int .u8)).toArray)))
  have E76 := Lib.hid (And.intro (setRow_irow (ys := h1) b7) (And.intro (irow_setRow a7 (by omega : GA + 1 ≠ GA + 1 + 1) (h1.map (Value.int .u8)).toArray) (below_setRow (below_setRow B1.out.drew (by omega : GA ≤ GA + 1 + 1) (h2.map (Value.int .u8)).toArray) (by omega : GA ≤ GA + 1) (h1.map (Value.int .u8)).toArray)))
  clear a6 a7 b6 b7 k6 k7
  go_wp2_with fail
  refine wp_region_held_drew (S := (fun w' => IRow w' GA 51 .u8 (nums D))) (by kernel_rfl) ?_ (fun hHeld => ?_)
  · exact R1.out.drew
  refine wpAnyH_take (i := 0) (oi := { dst := some 4, op := Go.Op.slice 51 (Go.Operand.tmp 1) none (some (Go.Operand.const (Go.Value.int Go.IntKind.i64 32))) none, type := 22, pos := "hdkey.go:148", after := #[], guard := none }) (v := ?av0) rfl (by kernel_rfl) (by kernel_rfl) (by kernel_rfl) (fun _ _ _ h => h) (Or.inl ⟨by rfl, ?ay0⟩) (by assumption) ?ar0
  case ay0 => (intro w hSw; (try dsimp only at hSw); go_simp; try (with_reducible rfl))
  case ar0 =>
  try simp only [Act.put, List.setIfInBounds_toArray, List.set_cons_zero, List.set_cons_succ]
  refine wpAnyH_take (i := 1) (oi := { dst := some 5, op := Go.Op.sliceToArrayPointer 28 (Go.Operand.tmp 4), type := 0, pos := "hdkey.go:148", after := #[{ on := 0, ground := Go.Ground.data }], guard := none }) (v := ?av1) rfl (by kernel_rfl) (by kernel_rfl) (by kernel_rfl) (fun _ _ _ h => h) (Or.inl ⟨by rfl, ?ay1⟩) (by assumption) ?ar1
  case ay1 => (intro w hSw; (try dsimp only at hSw); go_simp; try (with_reducible rfl))
  case ar1 =>
  try simp only [Act.put, List.setIfInBounds_toArray, List.set_cons_zero, List.set_cons_succ]
  refine wpAnyH_take (i := 2) (oi := { dst := some 6, op := Go.Op.load 28 (Go.Operand.tmp 5), type := 28, pos := "hdkey.go:148", after := #[{ on := 1, ground := Go.Ground.data }], guard := none }) (v := (.agg (h1.map (Value.int .u8)).toArray)) rfl (by kernel_rfl) (by kernel_rfl) (by kernel_rfl) (fun _ _ _ h => h) (yieldsIf_load_mid (by rfl) 28 (.tmp 5) rfl GA 0 rfl (h1.map (Value.int .u8)) _ (fun w' h => by rw [← EE1.out]; exact irow_sub h 0 32) Tryd.underlying28 rfl (by rw [List.length_map]; exact I1.out)) (by assumption) ?_
  try simp only [Act.put, List.setIfInBounds_toArray, List.set_cons_zero, List.set_cons_succ]
  refine wpAnyH_take (i := 3) (oi := { dst := some 7, op := Go.Op.slice 51 (Go.Operand.tmp 1) (some (Go.Operand.const (Go.Value.int Go.IntKind.i64 32))) none none, type := 22, pos := "hdkey.go:148", after := #[], guard := none }) (v := ?av3) rfl (by kernel_rfl) (by kernel_rfl) (by kernel_rfl) (fun _ _ _ h => h) (Or.inl ⟨by rfl, ?ay3⟩) (by assumption) ?ar3
  case ay3 => (intro w hSw; (try dsimp only at hSw); go_simp; try (with_reducible rfl))
  case ar3 =>
  try simp only [Act.put, List.setIfInBounds_toArray, List.set_cons_zero, List.set_cons_succ]
  refine wpAnyH_take (i := 4) (oi := { dst := some 8, op := Go.Op.sliceToArrayPointer 28 (Go.Operand.tmp 7), type := 0, pos := "hdkey.go:148", after := #[{ on := 3, ground := Go.Ground.data }, { on := 6, ground := Go.Ground.gcOnly Go.Departure.lateStores }], guard := none }) (v := ?av4) rfl (by kernel_rfl) (by kernel_rfl) (by kernel_rfl) (fun _ _ _ h => h) (Or.inl ⟨by rfl, ?ay4⟩) (by assumption) ?ar4
  case ay4 => (intro w hSw; (try dsimp only at hSw); go_simp; try (with_reducible rfl))
  case ar4 =>
  try simp only [Act.put, List.setIfInBounds_toArray, List.set_cons_zero, List.set_cons_succ]
  refine wpAnyH_take (i := 5) (oi := { dst := some 9, op := Go.Op.load 28 (Go.Operand.tmp 8), type := 28, pos := "hdkey.go:148", after := #[{ on := 4, ground := Go.Ground.data }, { on := 6, ground := Go.Ground.gcOnly Go.Departure.lateStores }], guard := none }) (v := (.agg (h2.map (Value.int .u8)).toArray)) rfl (by kernel_rfl) (by kernel_rfl) (by kernel_rfl) (fun _ _ _ h => h) (yieldsIf_load_mid (by rfl) 28 (.tmp 8) rfl GA 32 rfl (h2.map (Value.int .u8)) _ (fun w' h => by rw [← EE2.out]; exact irow_sub h 32 32) Tryd.underlying28 rfl (by rw [List.length_map]; exact I2.out)) (by assumption) ?_
  try simp only [Act.put, List.setIfInBounds_toArray, List.set_cons_zero, List.set_cons_succ]
  refine wpAnyH_ready (rs := [6]) (by kernel_rfl) (by simp) ?_
  refine AllReadyH.cons (o := { dst := none, op := Go.Op.store 28 (Go.Operand.tmp 2) (Go.Operand.tmp 6), type := 0, pos := "hdkey.go:148", after := #[{ on := 2, ground := Go.Ground.data }, { on := 0, ground := Go.Ground.phase }, { on := 1, ground := Go.Ground.phase }, { on := 2, ground := Go.Ground.phase }, { on := 3, ground := Go.Ground.textOnly Go.Departure.lateStoresUnsure }, { on := 4, ground := Go.Ground.textOnly Go.Departure.lateStores }, { on := 5, ground := Go.Ground.textOnly Go.Departure.lateStores }], guard := none }) rfl (fun K hK => ?_) (AllReadyH.nil)
  simp only [Region.wanted, if_true]
  refine wp_store_irow 28 (.tmp 2) (.tmp 6) rfl (g := GA + 1) (t := 28) (k := .u8) (xs := List.replicate 32 0) (ys := h1) rfl rfl R2.out.drew I1.out (by rw [N1.out]; rfl) ?_
  refine hK.out _ _ ?_ (fun hHeld => ?_)
  · exact K6.out
  clear hK K
  try simp only [Act.put]
  refine wpAnyH_ready (rs := [7]) (by kernel_rfl) (by simp) ?_
  refine AllReadyH.cons (o := { dst := none, op := Go.Op.store 28 (Go.Operand.tmp 3) (Go.Operand.tmp 9), type := 0, pos := "hdkey.go:148", after := #[{ on := 5, ground := Go.Ground.data }, { on := 6, ground := Go.Ground.chain }, { on := 0, ground := Go.Ground.phase }, { on := 1, ground := Go.Ground.phase }, { on := 2, ground := Go.Ground.phase }, { on := 3, ground := Go.Ground.phase }, { on := 4, ground := Go.Ground.phase }, { on := 5, ground := Go.Ground.phase }, { on := 6, ground := Go.Ground.phase }], guard := none }) rfl (fun K hK => ?_) (AllReadyH.nil)
  simp only [Region.wanted, if_true]
  refine wp_store_irow 28 (.tmp 3) (.tmp 9) rfl (g := GA + 1 + 1) (t := 28) (k := .u8) (xs := List.replicate 32 0) (ys := h2) rfl rfl B6.out I2.out (by rw [N2.out]; rfl) ?_
  refine hK.out _ _ ?_ (fun hHeld => ?_)
  · exact K67.out
  clear hK K
  try simp only [Act.put]
  refine wpAnyH_done (by kernel_rfl) ?_ _
  go_wp2_with fail
  refine bodyPost_ret (v := .tuple #[.agg (h1.map (Value.int .u8)).toArray, .agg (h2.map (Value.int .u8)).toArray]) ?_ rfl ⟨by rw [HH1.out, HH2.out], by rw [← HGA.out]; first | exact E67.out.2.2 | exact E76.out.2.2⟩
  first | exact results_rows Tryd.results16 _ _ (GA + 1) (GA + 1 + 1) 28 28 _ _ _ _ _ rfl rfl E67.out.1 E67.out.2.1 Tryd.underlying28 rfl (by rw [List.size_toArray, List.length_map]; exact I1.out) (by rw [List.size_toArray, List.length_map]; exact I2.out) | exact results_rows Tryd.results16 _ _ (GA + 1) (GA + 1 + 1) 28 28 _ _ _ _ _ rfl rfl E76.out.1 E76.out.2.1 Tryd.underlying28 rfl (by rw [List.size_toArray, List.length_map]; exact I1.out) (by rw [List.size_toArray, List.length_map]; exact I2.out)
end Go.Proofs.YtfkpdbmgiefnfaaDoor.Hk

/-
  hdkey.privateData, walked. Conditions: the number has 32 bytes.
-/
namespace Go.Proofs.YtfkpdbmgiefnfaaDoor.Hk
open Go.RowKit

theorem info_b33 : (Tryd.prog.info? 29).map (·.size) = some 33 := by kernel_rfl
theorem bv_map (k : List UInt8) : k.map bv = (nums k).map (Value.int .u8) := by
  unfold nums
  rw [List.map_map]
  rfl
theorem over_one (k : List UInt8) (h : k.length = 32) : over ((List.replicate 33 (0 : Int)).map (Value.int .u8)) 1 (k.take 32) = (nums (0 :: k)).map (Value.int .u8) := by
  have hk : k.take 32 = k := List.take_of_length_le (by omega)
  rw [hk]
  unfold over
  rw [bv_map, List.drop_of_length_le (by rw [List.length_map, List.length_map, nums_length, List.length_replicate]; omega), List.append_nil]
  rfl

set_option maxRecDepth 100000 in
set_option maxHeartbeats 6400000 in
theorem priv_any (k : List UInt8) (w : World) (hl : k.length = 32) :
    Calls Tryd.prog 19 #[digV k] w fun e w' => e = .returned (digV (0 :: k)) ∧ Below w.heap.size w w' := by
  have hl2 : (nums k).length = 32 := by rw [nums_length, hl]
  have ho := over_one k hl
  have r1 := irow_alloc (irow_alloc (IRow.new w 28 .u8 (nums k)) (.cells ((List.replicate 33 (0 : Int)).map (Value.int .u8)).toArray 29)) (.cells ((List.replicate 33 (0 : Int)).map (Value.int .u8)).toArray 29)
  have r2 := irow_alloc (IRow.new (w.alloc (.cells ((nums k).map (Value.int .u8)).toArray 28)) 29 .u8 (List.replicate 33 0)) (.cells ((List.replicate 33 (0 : Int)).map (Value.int .u8)).toArray 29)
  have r3 := IRow.new ((w.alloc (.cells ((nums k).map (Value.int .u8)).toArray 28)).alloc (.cells ((List.replicate 33 (0 : Int)).map (Value.int .u8)).toArray 29)) 29 .u8 (List.replicate 33 0)
  have b1 : Below w.heap.size w (((w.alloc (.cells ((nums k).map (Value.int .u8)).toArray 28)).alloc (.cells ((List.replicate 33 (0 : Int)).map (Value.int .u8)).toArray 29)).alloc (.cells ((List.replicate 33 (0 : Int)).map (Value.int .u8)).toArray 29)) := (((Below.refl _ w).alloc (Nat.le_refl _) _).alloc (by simp) _).alloc (by simp; omega) _
  rw [World.size_alloc] at r2
  rw [World.size_alloc, World.size_alloc] at r3
  obtain ⟨wA, hwA⟩ : ∃ z, z = (((w.alloc (.cells ((nums k).map (Value.int .u8)).toArray 28)).alloc (.cells ((List.replicate 33 (0 : Int)).map (Value.int .u8)).toArray 29)).alloc (.cells ((List.replicate 33 (0 : Int)).map (Value.int .u8)).toArray 29)) := ⟨_, rfl⟩
  rw [← hwA] at r1 r2 r3 b1
  obtain ⟨GA, hGA⟩ : ∃ g, g = w.heap.size := ⟨_, rfl⟩
  rw [← hGA] at r1 r2 r3 b1
  have by1 : Byt wA (GA + 1) (.slice (some ⟨GA, 0, none⟩) 32 32) k := irow_byt r1 hl (by unfold maxLen; omega)
  have sx : Src wA.drew (GA + 1 + 1) (.slice (some ⟨GA, 0, none⟩) 32 32) k := Src.of_byt by1 (by have h : GA + 1 + 1 < wA.heap.size := r3.lt; show GA + 1 ≤ wA.heap.size; omega) (by omega : GA + 1 ≤ GA + 1 + 1)
  have v3 : VRow wA.drew (GA + 1 + 1) 29 ((List.replicate 33 (0 : Int)).map (Value.int .u8)) := r3
  have v4 := v3.setRow ((nums (0 :: k)).map (Value.int .u8))
  have i4 : IRow (wA.drew.setRow (GA + 1 + 1) ((nums (0 :: k)).map (Value.int .u8)).toArray) (GA + 1 + 1) 29 .u8 (nums (0 :: k)) := v4
  have i2 := irow_setRow r2.drew (by omega : GA + 1 + 1 ≠ GA + 1) ((nums (0 :: k)).map (Value.int .u8)).toArray
  have b4 := below_setRow b1.drew (by omega : GA ≤ GA + 1 + 1) ((nums (0 :: k)).map (Value.int .u8)).toArray
  have n0 : (nums (0 :: k)).length = 33 := by rw [nums_length, List.length_cons, hl]
  have I0 := Lib.hid (show (Tryd.prog.info? 29).map (·.size) = some (nums (0 :: k)).length by rw [n0]; exact info_b33)
  have N0 := Lib.hid n0
  have HO := Lib.hid ho
  have SX := Lib.hid sx
  have V3 := Lib.hid v3
  have I4 := Lib.hid i4
  have I2 := Lib.hid i2
  have B4 := Lib.hid b4
  have HWA := Lib.hid hwA
  have HGA := Lib.hid hGA
  have HL := Lib.hid hl
  have HF := Lib.hid (show 1 + 32 ≤ ((List.replicate 33 (0 : Int)).map (Value.int .u8)).length by rw [List.length_map, List.length_replicate]; omega)
  clear hl hl2 ho r1 r2 r3 b1 hwA hGA by1 sx v3 v4 i4 i2 b4 n0
  unfold digV
  go_enter Tryd.func19, Tryd.ntmps19
  go_upto_region 2 with fail
  change Code.wp _ _ _ _ (((w.alloc (.cells ((nums k).map (Value.int .u8)).toArray 28)).alloc (.cells ((List.replicate 33 (0 : Int)).map (Value.int .u8)).toArray 29)).alloc (.cells ((List.replicate 33 (0 : Int)).map (Value.int .u8)).toArray 29))
  rw [← HWA.out, show w.heap.size = GA from HGA.out.symm]
  clear HWA
  try dsimp only [Act.put]
  go_wp2_with fail
  refine wp_region_held_drew (S := AnyW) (by kernel_rfl) ?_ (fun hHeld => ?_)
  · exact anyW _
  refine wpAnyH_take (i := 0) (oi := { dst := some 4, op := Go.Op.slice 29 (Go.Operand.tmp 3) (some (Go.Operand.const (Go.Value.int Go.IntKind.i64 1))) none none, type := 22, pos := "hdkey.go:143", after := #[], guard := none }) (v := ?av0) rfl (by kernel_rfl) (by kernel_rfl) (by kernel_rfl) (fun _ _ _ h => h) (Or.inl ⟨by rfl, ?ay0⟩) (by assumption) ?ar0
  case ay0 => (intro w hSw; (try dsimp only at hSw); go_simp; try (with_reducible rfl))
  case ar0 =>
  try simp only [Act.put, List.setIfInBounds_toArray, List.set_cons_zero, List.set_cons_succ]
  refine wpAnyH_take (i := 1) (oi := { dst := some 5, op := Go.Op.slice 28 (Go.Operand.tmp 1) none none none, type := 22, pos := "hdkey.go:143", after := #[], guard := none }) (v := ?av1) rfl (by kernel_rfl) (by kernel_rfl) (by kernel_rfl) (fun _ _ _ h => h) (Or.inl ⟨by rfl, ?ay1⟩) (by assumption) ?ar1
  case ay1 => (intro w hSw; (try dsimp only at hSw); go_simp; try (with_reducible rfl))
  case ar1 =>
  try simp only [Act.put, List.setIfInBounds_toArray, List.set_cons_zero, List.set_cons_succ]
  refine wpAnyH_ready (rs := [2]) (by kernel_rfl) (by simp) ?_
  refine AllReadyH.cons (o := { dst := some 6, op := Go.Op.call { callee := Go.Callee.builtin Go.Builtin.copy, args := #[Go.Operand.tmp 4, Go.Operand.tmp 5], argTypes := #[22, 22] }, type := 3, pos := "hdkey.go:143", after := #[{ on := 0, ground := Go.Ground.data }, { on := 1, ground := Go.Ground.data }], guard := none }) rfl (fun K hK => ?_) (AllReadyH.nil)
  simp only [Region.wanted, if_true]
  refine op_copy_src (.tmp 4) (.tmp 5) rfl (GA + 1 + 1) 1 32 32 29 _ V3.out rfl rfl SX.out 32 (by rw [HL.out]; rfl) HF.out ?_
  rw [HO.out]
  refine hK.out _ _ ?_ (fun hHeld => ?_)
  · exact anyW _
  clear hK K
  try simp only [Act.put, List.setIfInBounds_toArray, List.set_cons_zero, List.set_cons_succ]
  refine wpAnyH_done (by kernel_rfl) ?_ _
  obtain ⟨w5, hw5⟩ : ∃ z, z = wA.drew.setRow (GA + 1 + 1) ((nums (0 :: k)).map (Value.int .u8)).toArray := ⟨_, rfl⟩
  have J4 : IRow w5 (GA + 1 + 1) 29 .u8 (nums (0 :: k)) := by rw [hw5]; exact I4.out
  have J2 : IRow w5 (GA + 1) 29 .u8 (List.replicate 33 0) := by rw [hw5]; exact I2.out
  have JB : Below GA w w5 := by rw [hw5]; exact B4.out
  rw [← hw5]
  have HJ4 := Lib.hid J4
  have HJ2 := Lib.hid J2
  have HF2 := Lib.hid (setRow_irow (ys := nums (0 :: k)) J2)
  have HB := Lib.hid (below_setRow JB (by omega : GA ≤ GA + 1) ((nums (0 :: k)).map (Value.int .u8)).toArray)
  clear hw5 J4 J2 JB
  obtain ⟨DK, hDK⟩ : ∃ l, l = nums (0 :: k) := ⟨_, rfl⟩
  rw [← hDK] at HJ4 HF2 HB I0 N0
  have HDK := Lib.hid hDK
  clear hDK
  go_wp2_with (first | (refine wpList_load_irow rfl 29 (.tmp 3) rfl (g := GA + 1 + 1) (t := 29) (k := .u8) (xs := DK) rfl HJ4.out Tryd.underlying29 I0.out ?_) | (refine wpList_store_irow rfl 29 (.tmp 2) (.tmp 7) rfl (g := GA + 1) (t := 29) (k := .u8) (xs := List.replicate 33 0) (ys := DK) rfl rfl HJ2.out I0.out (by rw [N0.out]; rfl) ?_))
  refine bodyPost_ret (v := .agg (DK.map (Value.int .u8)).toArray) ?_ rfl ⟨by rw [HDK.out], by rw [← HGA.out]; exact HB.out⟩
  exact results_cell_row Tryd.results19 _ _ (GA + 1) 29 (DK.map (Value.int .u8)).toArray (0, 0) _ rfl HF2.out Tryd.underlying29 rfl (by rw [List.size_toArray, List.length_map]; exact I0.out)
end Go.Proofs.YtfkpdbmgiefnfaaDoor.Hk

/-
  A hierarchical key in memory: its cells, how it is built, compared and told. Conditions: none.
-/
namespace Go.Proofs.YtfkpdbmgiefnfaaDoor.Hk
open Go.RowKit

/-- The cells of a key: depth, finger and child are 0. -/
def keyC (chain data : List UInt8) : List Value := (List.replicate 5 (.int .u8 0) ++ [.int .u32 0]) ++ (nums chain).map (Value.int .u8) ++ (nums data).map (Value.int .u8)
def zeroC : List Value := keyC (List.replicate 32 0) (List.replicate 33 0)
theorem keyC_length {chain data : List UInt8} (hc : chain.length = 32) (hd : data.length = 33) : (keyC chain data).length = 71 := by simp [keyC, nums_length, hc, hd]
theorem keyC_one (chain data : List UInt8) : (keyC chain data).toArray.all (·.oneCell') = true :=
  Array.all_eq_true_iff_forall_mem.2 (fun v hv => by
    have h : v ∈ keyC chain data := by simpa using hv
    unfold keyC at h
    simp only [List.mem_append, List.mem_replicate, List.mem_cons, List.not_mem_nil, or_false, List.mem_map] at h
    rcases h with ((⟨_, rfl⟩ | rfl) | ⟨_, _, rfl⟩) | ⟨_, _, rfl⟩ <;> rfl)
theorem zero_key (W : World) : (zeroValue 31).run Tryd.prog W = .ok (.agg zeroC.toArray) W := by kernel_rfl
theorem zero_rkey (W : World) : (zeroValue 35).run Tryd.prog W = .ok (.agg zeroC.toArray) W := by kernel_rfl
theorem info_key : (Tryd.prog.info? 31).map (·.size) = some 71 := by kernel_rfl
theorem info_rkey : (Tryd.prog.info? 35).map (·.size) = some 71 := by kernel_rfl

theorem foldl_set : ∀ (v : List Value) (off j0 : Nat) (cells : Array Value), off + j0 + v.length ≤ cells.size →
    ((v.zipIdx j0).foldl (fun cs (p : Value × Nat) => cs.setIfInBounds (off + p.2) p.1) cells).toList = cells.toList.take (off + j0) ++ v ++ cells.toList.drop (off + j0 + v.length)
  | [], off, j0, cells, _ => by simp
  | x :: v, off, j0, cells, h => by
    rw [List.zipIdx_cons, List.foldl_cons]
    have ih := foldl_set v off (j0 + 1) (cells.setIfInBounds (off + j0) x) (by simp at h ⊢; omega)
    rw [ih, Array.toList_setIfInBounds]
    exact list_seg_step cells.toList (off + j0) x v (by simp at h ⊢; omega)
theorem fill_next {place : Nat → Option (Nat × Nat)} {i off n : Nat} {v : Value} {rest : List (Nat × Value)} {cells : List Value} (cs : List Value) (hp : place i = some (off, n)) (hv : v.cells.toList = cs) (hn : cs.length = n) (hf : off + n ≤ cells.length) :
    Instr.fill place cells.toArray ((i, v) :: rest) = Instr.fill place (cells.take off ++ cs ++ cells.drop (off + n)).toArray rest := by
  have hs : v.cells.size = n := by rw [← Array.length_toList, hv, hn]
  conv => lhs; unfold Instr.fill
  rw [hp]
  have hc : ¬ ((decide (v.cells.size ≠ n) || decide (off + v.cells.size > cells.toArray.size)) = true) := by
    rw [hs]
    simp
    omega
  have hq : (v.cells.zipIdx.foldl (fun cs (x : Value × Nat) => cs.setIfInBounds (off + x.2) x.1) cells.toArray) = (cells.take off ++ cs ++ cells.drop (off + n)).toArray := by
    have e := foldl_set cs off 0 cells.toArray (by simp [hn]; omega)
    apply Array.toList_inj.1
    rw [← Array.foldl_toList, Array.toList_zipIdx, hv]
    rw [e]
    simp [hn]
  rw [← hq]
  split
  · rename_i h; cases h
  · rename_i o s h
    obtain ⟨rfl, rfl⟩ := Prod.mk.inj (Option.some.inj h)
    rw [if_neg (by simpa using hc)]

theorem key_built (parts : List (Nat × Value)) : Tryd.prog.built 31 parts = Instr.fill (#[(0, 1), (1, 4), (5, 1), (6, 32), (38, 33)][·]?) zeroC.toArray parts := by kernel_rfl
theorem rkey_built (parts : List (Nat × Value)) : Tryd.prog.built 35 parts = Instr.fill (#[(0, 1), (1, 4), (5, 1), (6, 32), (38, 33)][·]?) zeroC.toArray parts := by kernel_rfl
theorem take_left2 {a b : List Value} {n : Nat} (h : a.length = n) : (a ++ b).take n = a := by rw [← h]; simp
theorem drop_left2 {a b : List Value} {n : Nat} (h : a.length = n) : (a ++ b).drop n = b := by rw [← h]; simp
theorem build_key (chain data : List UInt8) (hc : chain.length = 32) (hd : data.length = 33) (w : World) :
    (Instr.build 31 #[(3, .agg ((nums chain).map (Value.int .u8)).toArray), (4, .agg ((nums data).map (Value.int .u8)).toArray)]).run Tryd.prog w = .ok (.agg (keyC chain data).toArray) w := by
  refine run_build w _ _ _ ?_
  rw [key_built]
  have l1 : ((nums chain).map (Value.int .u8)).length = 32 := by simp [nums_length, hc]
  have l2 : ((nums data).map (Value.int .u8)).length = 33 := by simp [nums_length, hd]
  rw [fill_next ((nums chain).map (Value.int .u8)) (off := 6) (n := 32) rfl rfl l1 (by decide)]
  rw [fill_next ((nums data).map (Value.int .u8)) (off := 38) (n := 33) rfl rfl l2 (by simp only [List.length_append, l1]; decide)]
  show some _ = some _
  congr 2
  have h6 : (zeroC.take 6).length = 6 := by decide
  have h38 : (zeroC.take 6 ++ (nums chain).map (Value.int .u8)).length = 38 := by rw [List.length_append, h6, l1]
  rw [take_left2 h38, List.drop_of_length_le (by rw [List.length_append, h38]; decide), List.append_nil]
  rfl
theorem size_u8 (w : World) : (sizeOf 5).run Tryd.prog w = .ok 1 w := by kernel_rfl
theorem eqFields_refl {P : Program} (d : Nat) (xs : Array Value) : ∀ (fs : List Field), (∀ f ∈ fs, ∃ v, (∀ w, (part f.type xs f.offset).run P w = .ok v w) ∧ ∀ w, (Op.equalIn d f.type v v).run P w = .ok true w) → ∀ w, (Op.eqFields d xs xs fs).run P w = .ok true w
  | [], _, w => by simp [Op.eqFields]
  | f :: fs, h, w => by
    obtain ⟨v, hv, he⟩ := h f (by simp)
    have ih := eqFields_refl d xs fs (fun g hg => h g (by simp [hg])) w
    unfold Op.eqFields
    split
    · simp only [Sem.run_bind, hv, he, Result.andThen_ok, Bool.not_true, Bool.false_eq_true, if_false]
      exact ih
    · exact ih
theorem part_agg {P : Program} {t : TypeId} {n off : Nat} (ha : ∀ w, (isAgg t).run P w = .ok true w) (hs : ∀ w, (sizeOf t).run P w = .ok n w) (cs : List Value) (w : World) : (part t cs.toArray off).run P w = .ok (.agg ((cs.drop off).take n).toArray) w := by
  have e : cs.toArray.extract off (off + n) = ((cs.drop off).take n).toArray := by
    apply Array.toList_inj.1
    rw [Array.toList_extract]
    simp [List.extract]
  unfold part
  simp only [Sem.run_bind, ha, hs, Result.andThen_ok, if_true, Sem.run_pure, e]
theorem part_one {P : Program} {t : TypeId} {off : Nat} (ha : ∀ w, (isAgg t).run P w = .ok false w) (cs : List Value) {v : Value} (hv : cs[off]? = some v) (w : World) : (part t cs.toArray off).run P w = .ok v w := by
  unfold part
  simp only [Sem.run_bind, ha, Result.andThen_ok, Bool.false_eq_true, if_false]
  rw [show cs.toArray[off]? = some v by simpa using hv]
  rfl
/-- The parts of a key's cells. -/
theorem keyC_chain {chain : List UInt8} (data : List UInt8) (hc : chain.length = 32) : ((keyC chain data).drop 6).take 32 = (nums chain).map (Value.int .u8) := by
  unfold keyC
  rw [List.append_assoc, drop_left2 (by rfl), take_left2 (by simp [nums_length, hc])]
theorem keyC_data {chain data : List UInt8} (hc : chain.length = 32) (hd : data.length = 33) : ((keyC chain data).drop 38).take 33 = (nums data).map (Value.int .u8) := by
  unfold keyC
  rw [drop_left2 (by simp [nums_length, hc]), List.take_of_length_le (by simp [nums_length, hd])]
theorem keyC_finger (chain data : List UInt8) : ((keyC chain data).drop 1).take 4 = (List.replicate 4 (0 : Int)).map (Value.int .u8) := rfl
/-- A key is itself. -/
theorem eq_key (chain data : List UInt8) (hc : chain.length = 32) (hd : data.length = 33) (w : World) :
    (Op.equalIn 10000 35 (.agg (keyC chain data).toArray) (.agg (keyC chain data).toArray)).run Tryd.prog w = .ok true w := by
  have hm : (Tryd.prog.fieldsOf 35).toList.map (fun f => (f.type, f.offset)) = [(5, 0), (26, 1), (27, 5), (28, 6), (29, 38)] := by kernel_rfl
  rw [run_equalIn_struct w 9999 35 _ _ (by kernel_rfl) (by kernel_rfl)]
  refine eqFields_refl 9999 _ _ (fun f hf => ?_) w
  have hf2 : (f.type, f.offset) ∈ [(5, 0), (26, 1), (27, 5), (28, 6), (29, 38)] := by rw [← hm]; exact List.mem_map.2 ⟨f, hf, rfl⟩
  generalize f.type = ty at hf2 ⊢
  generalize f.offset = o at hf2 ⊢
  clear hf hm
  simp only [List.mem_cons, Prod.mk.injEq, List.not_mem_nil, or_false] at hf2
  rcases hf2 with ⟨rfl, rfl⟩ | ⟨rfl, rfl⟩ | ⟨rfl, rfl⟩ | ⟨rfl, rfl⟩ | ⟨rfl, rfl⟩
  · refine ⟨.int .u8 0, part_one (fun w => by kernel_rfl) _ rfl, fun w => ?_⟩
    rw [run_equalIn_int w 9998 5 .u8 .u8 0 0 Tryd.underlying5]
    rfl
  · refine ⟨_, part_agg (n := 4) (fun w => by kernel_rfl) (fun w => by kernel_rfl) _, fun w => ?_⟩
    rw [keyC_finger, run_equalIn_ints .u8 9997 26 5 4 Tryd.underlying26 Tryd.underlying5 size_u8 _ _ rfl rfl w, beq_self_eq_true]
  · refine ⟨.int .u32 0, part_one (fun w => by kernel_rfl) _ rfl, fun w => ?_⟩
    rw [run_equalIn_int w 9998 27 .u32 .u32 0 0 Tryd.underlying27]
    rfl
  · refine ⟨_, part_agg (n := 32) (fun w => by kernel_rfl) (fun w => by kernel_rfl) _, fun w => ?_⟩
    rw [keyC_chain data hc, run_equalIn_ints .u8 9997 28 5 32 Tryd.underlying28 Tryd.underlying5 size_u8 _ _ (by rw [nums_length, hc]) (by rw [nums_length, hc]) w, beq_self_eq_true]
  · refine ⟨_, part_agg (n := 33) (fun w => by kernel_rfl) (fun w => by kernel_rfl) _, fun w => ?_⟩
    rw [keyC_data hc hd, run_equalIn_ints .u8 9997 29 5 33 Tryd.underlying29 Tryd.underlying5 size_u8 _ _ (by rw [nums_length, hd]) (by rw [nums_length, hd]) w, beq_self_eq_true]
theorem build_rkey (chain data : List UInt8) (hc : chain.length = 32) (hd : data.length = 33) (w : World) :
    (Instr.build 35 #[(0, .int .u8 0), (1, .agg ((List.replicate 4 (0 : Int)).map (Value.int .u8)).toArray), (2, .int .u32 0), (3, .agg ((nums chain).map (Value.int .u8)).toArray), (4, .agg ((nums data).map (Value.int .u8)).toArray)]).run Tryd.prog w = .ok (.agg (keyC chain data).toArray) w := by
  refine run_build w _ _ _ ?_
  rw [rkey_built]
  have l1 : ((nums chain).map (Value.int .u8)).length = 32 := by simp [nums_length, hc]
  have l2 : ((nums data).map (Value.int .u8)).length = 33 := by simp [nums_length, hd]
  have e3 : ∀ r, Instr.fill (#[(0, 1), (1, 4), (5, 1), (6, 32), (38, 33)][·]?) zeroC.toArray ((0, .int .u8 0) :: (1, .agg ((List.replicate 4 (0 : Int)).map (Value.int .u8)).toArray) :: (2, .int .u32 0) :: r) = Instr.fill (#[(0, 1), (1, 4), (5, 1), (6, 32), (38, 33)][·]?) zeroC.toArray r := fun r => by
    rw [fill_next [.int .u8 0] (off := 0) (n := 1) rfl rfl rfl (by decide), fill_next ((List.replicate 4 (0 : Int)).map (Value.int .u8)) (off := 1) (n := 4) rfl rfl rfl (by decide), fill_next [.int .u32 0] (off := 5) (n := 1) rfl rfl rfl (by decide)]
    rfl
  show Instr.fill _ _ ((0, .int .u8 0) :: (1, .agg ((List.replicate 4 (0 : Int)).map (Value.int .u8)).toArray) :: (2, .int .u32 0) :: _) = _
  rw [e3]
  rw [fill_next ((nums chain).map (Value.int .u8)) (off := 6) (n := 32) rfl rfl l1 (by decide)]
  rw [fill_next ((nums data).map (Value.int .u8)) (off := 38) (n := 33) rfl rfl l2 (by simp only [List.length_append, l1]; decide)]
  show some _ = some _
  congr 2
  have h6 : (zeroC.take 6).length = 6 := by decide
  have h38 : (zeroC.take 6 ++ (nums chain).map (Value.int .u8)).length = 38 := by rw [List.length_append, h6, l1]
  rw [take_left2 h38, List.drop_of_length_le (by rw [List.length_append, h38]; decide), List.append_nil]
  rfl
end Go.Proofs.YtfkpdbmgiefnfaaDoor.Hk
